package sample

import (
	"math"
	"slices"

	"barrow/api"
)

// TightHead: the head of a store whose limits are soon reached.
func TightHead(roll Roll) api.Header {
	return api.Header{Reps: 1 + roll(4), Carts: 1 + roll(3), Lines: 1 + roll(5), Count: 2 + roll(12), Log: roll(6), Tokens: roll(5)}
}

// RoomyHead: the head of a store of several replicas whose limits aren't reached.
func RoomyHead(roll Roll) api.Header {
	return api.Header{Reps: 2 + roll(5), Carts: 1 + roll(3), Lines: 9, Count: 1000, Log: roll(6), Tokens: 9}
}

// EdgeHeads: heads at their bounds, and beyond them.
func EdgeHeads() []api.Header {
	return []api.Header{
		{}, {Reps: 1, Carts: 1, Lines: 1, Count: 1}, {Reps: 2, Carts: 2, Lines: 10, Count: 100, Log: 2, Tokens: 7},
		{Reps: 16, Carts: 64, Lines: 1000, Count: 1000000000, Log: 64, Tokens: 1000}, {Reps: 15, Carts: 63, Lines: 999, Count: 999999999, Log: 63, Tokens: 999},
		{Reps: -1, Carts: -1, Lines: -1, Count: -1, Log: -1, Tokens: -1}, {Reps: 17, Carts: 65, Lines: 1001, Count: 1000000001, Log: 65, Tokens: 1001},
		{Reps: math.MaxInt, Carts: math.MinInt}, {Reps: math.MinInt, Carts: math.MaxInt, Log: math.MaxInt, Tokens: math.MaxInt, Count: math.MaxInt, Lines: math.MaxInt},
	}
}

// ThrownOp: an op on a store with that clamped head, which has made so many messages and given out so many tokens; now and then one that is refused. The fields that its kind doesn't use are thrown too.
func ThrownOp(roll Roll, h api.Header, made, given int) api.Op {
	kinds := []int{1, 1, 1, 2, 2, 2, 3, 4, 4, 5, 6, 7, 7, 7, 8, 8, 8, 8, 9, 10, 10, 11, 11, 11, 11, 11, 11, 11, 11, 12, 12, 13, 14, 15, 16, 16, 16, 16}
	a := ThrownAct(roll)
	o := api.Op{Kind: kinds[roll(len(kinds))], Rep: roll(h.Reps), To: roll(h.Reps), Cart: roll(h.Carts), Sku: a.Sku, Qty: a.Qty, Num: roll(4)}
	switch o.Kind {
	case api.OpRemoveTo, api.OpClearTo:
		o.Num = given - roll(1+roll(8))
	case api.OpPush:
		// The newest item without those ahead of it leaves a hole in what is heard.
		o.Num = roll(1 + roll(4))
	case api.OpDeliver, api.OpCopy, api.OpDrop, api.OpTrim:
		o.Num = made - roll(1+roll(10)) + roll(20)/19
	case api.OpRestart:
		// Rare, so that logs and acknowledgements grow between.
		if roll(4) > 0 {
			o.Kind, o.Num = api.OpDeliver, made
		}
	}
	if roll(15) == 0 {
		return spoilt(roll, o)
	}
	return o
}

// spoilt: the op with a field that may be any number, one beside the bounds more often than not.
func spoilt(roll Roll, o api.Op) api.Op {
	n := []int{-1, 0, 1, 2, 3, 4, 5, 15, 16, 17, 63, 64, math.MinInt, math.MaxInt}[roll(14)]
	switch roll(6) {
	case 0:
		o.Kind = n
	case 1:
		o.Rep = n
	case 2:
		o.To = n
	case 3:
		o.Cart = n
	case 4:
		o.Qty = n
	default:
		o.Num = n
	}
	return o
}

// SameAnswer: one answer of a step, where nil and empty are one.
func SameAnswer(a, b api.Answer) bool {
	return a.Status == b.Status && slices.Equal(a.Lines, b.Lines) && a.Token == b.Token && a.Msg == b.Msg
}

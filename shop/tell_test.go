package shop_test

import (
	"math"
	"strings"
	"testing"

	"barrow/api"
	"barrow/shop"
)

func TestWord(t *testing.T) { // P29.1
	for e := api.Errno(-100); e < 300; e++ {
		if got := shop.Word(e); got != word(e) {
			t.Errorf("Word(%d) = %q, want %q", e, got, word(e))
		}
	}
	for e, want := range map[api.Errno]string{
		api.OK: "ok", api.ErrForm: "form", api.ErrArg: "number", api.ErrRep: "replica", api.ErrCart: "cart", api.ErrSku: "sku", api.ErrQty: "quantity", api.ErrKind: "kind", api.ErrBad: "malformed", api.ErrCount: "exhausted", api.ErrClash: "clash", api.ErrAbsent: "absent", api.ErrFull: "full",
		api.ErrOver: "overflow", api.ErrToken: "token", api.ErrMsg: "message", api.ErrSelf: "self", api.ErrText: "text", api.ErrEmpty: "empty", api.ErrLong: "long", api.ErrByte: "byte", api.ErrDigit: "digit", api.ErrShort: "short", api.ErrWide: "wide", api.ErrRest: "rest",
		99: "error 99", -2: "error -2", 18: "error 18", 19: "error 19", 24: "error 24", 49: "error 49", 53: "error 53", -1: "error -1", math.MaxInt: "error 9223372036854775807", math.MinInt: "error -9223372036854775808", 1 << 32: "error 4294967296", 256: "error 256",
	} {
		if got := shop.Word(e); got != want {
			t.Errorf("Word(%d) = %q, want %q", e, got, want)
		}
	}
}

func TestTellExamples(t *testing.T) { // P29.2
	for _, c := range []struct {
		n    int
		a    api.Answer
		want string
	}{
		{3, api.Answer{}, "3 ok\n"},
		{4, api.Answer{Lines: []api.Line{{Sku: "TEA-1", Qty: 5, Parts: 2}, {Sku: "MUG", Qty: 1, Parts: 1}}, Token: 2}, "4 ok token 2\n  TEA-1 5 in 2\n  MUG 1\n"},
		{7, api.Answer{Status: api.ErrFull}, "7 full\n"},
		{8, api.Answer{Msg: 12}, "8 ok message 12\n"},
		{0, api.Answer{Lines: []api.Line{}}, "0 ok\n"},
		// Whatever the answer is.
		{-1, api.Answer{Status: -5, Token: -3, Msg: -4}, "-1 error -5 token -3 message -4\n"}, {math.MinInt, api.Answer{Status: api.ErrRep, Token: math.MaxInt, Msg: math.MinInt}, "-9223372036854775808 replica token 9223372036854775807 message -9223372036854775808\n"},
		{1, api.Answer{Status: api.ErrSku, Lines: []api.Line{{Sku: "A", Qty: 1, Parts: 1}}}, "1 sku\n  A 1\n"}, {1, api.Answer{Lines: []api.Line{{}}}, "1 ok\n   0 in 0\n"}, {1, api.Answer{Lines: []api.Line{{Sku: "B b", Qty: -7, Parts: -1}, {Sku: "\n\xff\x00", Qty: 2, Parts: 1}}}, "1 ok\n  B b -7 in -1\n  \n\xff\x00 2\n"},
		{1, api.Answer{Lines: []api.Line{{Sku: "B", Qty: 1, Parts: 1}, {Sku: "A", Qty: 1, Parts: 1}, {Sku: "A", Qty: 1, Parts: 1}}}, "1 ok\n  B 1\n  A 1\n  A 1\n"},
	} {
		if got := shop.Tell(c.n, c.a); got != c.want {
			t.Errorf("Tell(%d, %v) = %q, want %q", c.n, c.a, got, c.want)
		}
	}
}

func TestTell(t *testing.T) { // P29.2
	dice := newDice()
	some := []int{0, 0, 0, 1, 1, 2, 9, 10, 100, -1, -10, math.MaxInt, math.MinInt}
	number := func() int { return some[dice.IntN(len(some))] }
	for range 3000 {
		a := api.Answer{Status: api.Errno(dice.IntN(60) - 3), Token: number(), Msg: number()}
		for range dice.IntN(4) {
			a.Lines = append(a.Lines, api.Line{Sku: strings.Repeat("A", dice.IntN(3)), Qty: number(), Parts: number()})
		}
		n := number()
		if got := shop.Tell(n, a); got != told(n, a) {
			t.Errorf("Tell(%d, %v) = %q, want %q", n, a, got, told(n, a))
		}
	}
}

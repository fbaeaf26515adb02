package settle_test

import (
	"fmt"
	"math"
	"math/rand/v2"
	"slices"

	"barrow/api"
	"barrow/cart"
	"barrow/engine"
)

type (
	tombCart = cart.Cart[api.Facts, engine.Tomb]
	swotCart = cart.Cart[api.Swot, engine.Swot]
)

func newTomb(h api.Header) *tombCart { return cart.New[api.Facts, engine.Tomb](h) }

func newSwot(h api.Header) *swotCart { return cart.New[api.Swot, engine.Swot](h) }

func newDice() *rand.Rand { return rand.New(rand.NewPCG(51, 52)) }

// right: the answer of a call that must not fail.
func right[T any](answer T, err api.Errno) T {
	if err != api.OK {
		panic(fmt.Sprint("error ", err))
	}
	return answer
}

// A count is a number of replicas that is handed in, and what it counts as.
type count struct{ given, counts int }

// counts: all that there are, and numbers that are none.
func counts() []count {
	all := []count{{math.MinInt, 1}, {-1 << 32, 1}, {-4, 1}, {-1, 1}, {0, 1}, {17, 16}, {18, 16}, {99, 16}, {1 << 32, 16}, {1<<32 + 3, 16}, {1 << 62, 16}, {math.MaxInt, 16}}
	for reps := 1; reps <= 16; reps++ {
		all = append(all, count{reps, reps})
	}
	return all
}

// isGood is the chapter's word on a pair.
func isGood(p api.Pair, reps int) bool {
	return p.From >= 0 && p.From <= reps-1 && p.To >= 0 && p.To <= reps-1 && p.From != p.To
}

// pair: one of any numbers near the replicas', good more often than not.
func pair(dice *rand.Rand, reps int) api.Pair {
	if dice.IntN(8) == 0 {
		odd := []int{-1, 0, reps - 1, reps, reps + 1, 15, 16, 17, math.MinInt, math.MaxInt}
		return api.Pair{From: odd[dice.IntN(len(odd))], To: odd[dice.IntN(len(odd))]}
	}
	return api.Pair{From: dice.IntN(reps), To: dice.IntN(reps)}
}

func pairs(dice *rand.Rand, reps, count int) []api.Pair {
	var list []api.Pair
	for range count {
		list = append(list, pair(dice, reps))
	}
	return list
}

// shuffled: the pairs in any order.
func shuffled(dice *rand.Rand, list []api.Pair) []api.Pair {
	mine := slices.Clone(list)
	dice.Shuffle(len(mine), func(i, j int) { mine[i], mine[j] = mine[j], mine[i] })
	return mine
}

// reach is the chapter's words: what each one knows is told anew behind each talk.
func reach(reps int, ps []api.Pair) [][]int {
	var knows [][]int
	for rep := range reps {
		knows = append(knows, []int{rep})
	}
	for _, p := range ps {
		if isGood(p, reps) {
			all := slices.Concat(knows[p.From], knows[p.To])
			slices.Sort(all)
			knows[p.To] = slices.Compact(all)
		}
	}
	return knows
}

func sameLists[T comparable](a, b [][]T) bool { return slices.EqualFunc(a, b, slices.Equal[[]T]) }

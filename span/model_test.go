package span_test

import (
	"math"
	"math/rand/v2"
	"slices"

	"barrow/api"
)

const (
	most     = api.MaxNum
	leastInt = math.MinInt
	greatInt = math.MaxInt
)

// runs: pairs of ends as runs.
func runs(ends ...int) []api.Run {
	var list []api.Run
	for i := 0; i+1 < len(ends); i += 2 {
		list = append(list, api.Run{Lo: ends[i], Hi: ends[i+1]})
	}
	return list
}

// same: one list, run by run, where nil and empty are one.
func same(a, b []api.Run) bool { return slices.Equal(a, b) }

// A window is a stretch of ints that goes over an end of the numbers, or lies in their midst; the lists of a window have their runs inside it, so that a set can be held against its definition number by number.
type window struct{ from, to int }

func windows() []window {
	return []window{{-3, 10}, {500, 512}, {most - 9, most + 3}}
}

// member is the chapter's definition of the set of a list, word by word.
func member(a []api.Run, n int) bool {
	if n < 1 || n > most {
		return false
	}
	for _, r := range a {
		if r.Lo <= n && n <= r.Hi {
			return true
		}
	}
	return false
}

// numbers: the numbers of the window for which ask holds, rising.
func (w window) numbers(ask func(int) bool) []int {
	var list []int
	for n := w.from; n <= w.to; n++ {
		if ask(n) {
			list = append(list, n)
		}
	}
	return list
}

// set: the numbers of a list of the window.
func (w window) set(a []api.Run) []int {
	return w.numbers(func(n int) bool { return member(a, n) })
}

// form: the list in form that means the rising numbers.
func form(numbers []int) []api.Run {
	var list []api.Run
	for i, n := range numbers {
		if i > 0 && numbers[i-1] == n-1 {
			list[len(list)-1].Hi = n
		} else {
			list = append(list, api.Run{Lo: n, Hi: n})
		}
	}
	return list
}

// list: some runs of the window, in no order, overlapping, empty ones among them.
func (w window) list(dice *rand.Rand) []api.Run {
	var list []api.Run
	for range dice.IntN(6) {
		lo := w.from + dice.IntN(w.to-w.from+1)
		hi := min(lo+dice.IntN(5)-1, w.to)
		list = append(list, api.Run{Lo: lo, Hi: hi})
	}
	return list
}

// lists: the same lists at every run of the tests.
func (w window) lists(count int) [][]api.Run {
	dice := rand.New(rand.NewPCG(1, uint64(w.to)))
	all := [][]api.Run{nil, {}}
	for range count {
		all = append(all, w.list(dice))
	}
	return all
}

// each: every list of every window.
func each(count int, ask func(w window, a []api.Run)) {
	for _, w := range windows() {
		for _, a := range w.lists(count) {
			ask(w, a)
		}
	}
}

// pairs: lists of every window by two.
func pairs(count int, ask func(w window, a, b []api.Run)) {
	for _, w := range windows() {
		all := w.lists(count)
		for _, a := range all {
			for _, b := range all {
				ask(w, a, b)
			}
		}
	}
}

// wild: lists whose ends are at and beyond all bounds, with the list in form that each one means.
func wild() []struct{ a, want []api.Run } {
	return []struct{ a, want []api.Run }{
		{runs(leastInt, greatInt), runs(1, most)},
		{runs(greatInt, leastInt), nil},
		{runs(leastInt, leastInt, greatInt, greatInt), nil},
		{runs(leastInt, 0, most+1, greatInt), nil},
		{runs(leastInt, 1, most, greatInt), runs(1, 1, most, most)},
		{runs(most, greatInt, leastInt, 1, 3, 3), runs(1, 1, 3, 3, most, most)},
		{runs(most+1, most), nil},
		{runs(1, 0), nil},
		{runs(2, most, greatInt, 5), runs(2, most)},
		{runs(greatInt-1, greatInt, most-1, most-1), runs(most-1, most-1)},
		{runs(1, most-1, most, most), runs(1, most)},
		{runs(1, most-2, most, most), runs(1, most-2, most, most)},
	}
}

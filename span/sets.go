package span

import (
	"slices"

	"barrow/api"
)

// Put: the set with n.
func Put(a []api.Run, n int) ([]api.Run, api.Errno) {
	if !isNumber(n) {
		return nil, api.ErrArg
	}
	return Union(a, only(n)), api.OK
}

// Drop: the set without n.
func Drop(a []api.Run, n int) ([]api.Run, api.Errno) {
	if !isNumber(n) {
		return nil, api.ErrArg
	}
	return Minus(a, only(n)), api.OK
}

func only(n int) []api.Run { return []api.Run{{Lo: n, Hi: n}} }

// Union: what is in any of the sets.
func Union(sets ...[]api.Run) []api.Run { return Norm(slices.Concat(sets...)) }

// Meet: what is in both.
func Meet(a, b []api.Run) []api.Run {
	x, y := Norm(a), Norm(b)
	var out []api.Run
	for len(x) > 0 && len(y) > 0 {
		lo, hi := max(x[0].Lo, y[0].Lo), min(x[0].Hi, y[0].Hi)
		if lo <= hi {
			out = append(out, api.Run{Lo: lo, Hi: hi})
		}
		// The run that ends first meets nothing further on.
		if x[0].Hi < y[0].Hi {
			x = x[1:]
		} else {
			y = y[1:]
		}
	}
	return out
}

// Minus: what is in a and not in b.
func Minus(a, b []api.Run) []api.Run { return Meet(a, outside(b)) }

// outside is the set of all numbers that aren't in a's.
func outside(a []api.Run) []api.Run {
	var out []api.Run
	next := 1
	for _, r := range Norm(a) {
		if next < r.Lo {
			out = append(out, api.Run{Lo: next, Hi: r.Lo - 1})
		}
		next = r.Hi + 1
	}
	if next <= api.MaxNum {
		out = append(out, api.Run{Lo: next, Hi: api.MaxNum})
	}
	return out
}

// Within: is all of a in b?
func Within(a, b []api.Run) bool { return len(Minus(a, b)) == 0 }

// Order: how a stands to b (api.Same, Before, After, Apart).
func Order(a, b []api.Run) int {
	below, above := Within(a, b), Within(b, a)
	switch {
	case below && above:
		return api.Same
	case below:
		return api.Before
	case above:
		return api.After
	}
	return api.Apart
}

// Package span is layer 1: sets of numbers as runs. See shared/doc/01-span.md.
package span

import (
	"cmp"
	"iter"
	"slices"

	"barrow/api"
)

// Norm: the set in its own form.
func Norm(a []api.Run) []api.Run {
	var rising []api.Run
	for _, r := range a {
		if c := clip(r); c.Lo <= c.Hi {
			rising = append(rising, c)
		}
	}
	slices.SortFunc(rising, func(x, y api.Run) int { return cmp.Compare(x.Lo, y.Lo) })
	return merge(rising)
}

// clip cuts a run to the numbers that there are. It comes ahead of every sum on a run's ends: they may be any ints, and a sum on them could wrap round.
func clip(r api.Run) api.Run {
	return api.Run{Lo: max(r.Lo, 1), Hi: min(r.Hi, api.MaxNum)}
}

// merge makes one run of those that overlap or touch; the runs rise by Lo.
func merge(rising []api.Run) []api.Run {
	var out []api.Run
	for _, r := range rising {
		last := len(out) - 1
		if last >= 0 && r.Lo <= out[last].Hi+1 {
			out[last].Hi = max(out[last].Hi, r.Hi)
		} else {
			out = append(out, r)
		}
	}
	return out
}

// IsNorm: is the list in its own form?
func IsNorm(a []api.Run) bool {
	least := 1
	for _, r := range a {
		if r.Lo < least || r.Lo > r.Hi || r.Hi > api.MaxNum {
			return false
		}
		least = r.Hi + 2
	}
	return true
}

// Has: is n in the set?
func Has(a []api.Run, n int) bool {
	if !isNumber(n) {
		return false
	}
	return slices.ContainsFunc(a, func(r api.Run) bool { return r.Lo <= n && n <= r.Hi })
}

func isNumber(n int) bool { return 1 <= n && n <= api.MaxNum }

// Size: how many numbers.
func Size(a []api.Run) int {
	size := 0
	for _, r := range Norm(a) {
		size += length(r)
	}
	return size
}

// length is for runs in form alone.
func length(r api.Run) int { return r.Hi - r.Lo + 1 }

// First: the least number of the set from from on; 0: there is none.
func First(a []api.Run, from int) int {
	for _, r := range Norm(a) {
		if r.Hi >= from {
			return max(r.Lo, from)
		}
	}
	return 0
}

// Last: the greatest number of the set; 0: it is empty.
func Last(a []api.Run) int {
	last := 0
	for _, r := range Norm(a) {
		last = r.Hi
	}
	return last
}

// Gap: the least number from from on that isn't in the set; 0: there is none.
func Gap(a []api.Run, from int) int { return First(outside(a), from) }

// Lead: how far the set goes on from 1 without a hole, and the rest.
func Lead(a []api.Run) (int, []api.Run) {
	runs := Norm(a)
	if len(runs) == 0 || runs[0].Lo != 1 {
		return 0, runs
	}
	return runs[0].Hi, runs[1:]
}

// Split: what is below at, and the rest.
func Split(a []api.Run, at int) ([]api.Run, []api.Run) {
	// Both halves are asked of the run from at on: one up to at-1 would wrap round at the least int.
	upper := []api.Run{{Lo: at, Hi: api.MaxNum}}
	return Minus(a, upper), Meet(a, upper)
}

// Rank: how many numbers of the set are at most n.
func Rank(a []api.Run, n int) int { return Size(Meet(a, []api.Run{{Lo: 1, Hi: n}})) }

// Pick: the k-th number of the set, from 1 on; 0: there is none.
func Pick(a []api.Run, k int) int {
	if k < 1 {
		return 0
	}
	for _, r := range Norm(a) {
		if k <= length(r) {
			return r.Lo + k - 1
		}
		k -= length(r)
	}
	return 0
}

// Walk: the set's numbers, rising.
func Walk(a []api.Run) iter.Seq[int] {
	runs := Norm(a)
	return func(yield func(int) bool) {
		for _, r := range runs {
			for n := r.Lo; n <= r.Hi; n++ {
				if !yield(n) {
					return
				}
			}
		}
	}
}

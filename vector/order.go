package vector

import (
	"cmp"
	"slices"

	"barrow/api"
)

const mostVectors = 256 // of which Heads tells the latest

// Merge: the greatest number of each replica.
func Merge(vs ...[]int) []int {
	var all counts
	for _, v := range vs {
		all = all.over(meant(v))
	}
	return all.list()
}

// over has, of each replica, the greater number.
func (c counts) over(other counts) counts {
	for rep := range api.MaxReps {
		c[rep] = max(c[rep], other[rep])
	}
	return c
}

// Meet: the least number of each replica.
func Meet(vs ...[]int) []int {
	if len(vs) == 0 {
		return nil
	}
	common := meant(vs[0])
	for _, v := range vs[1:] {
		common = common.under(meant(v))
	}
	return common.list()
}

// under has, of each replica, the smaller number.
func (c counts) under(other counts) counts {
	for rep := range api.MaxReps {
		c[rep] = min(c[rep], other[rep])
	}
	return c
}

// Order: how a stands to b (api.Same, Before, After, Apart).
func Order(a, b []int) int { return meant(a).order(meant(b)) }

func (c counts) order(other counts) int {
	switch {
	case c == other:
		return api.Same
	case c.over(other) == other:
		return api.Before
	case c.over(other) == c:
		return api.After
	}
	return api.Apart
}

// Compare: -1, 0 or 1, a total order that puts a ahead of b where Order says Before.
func Compare(a, b []int) int { return meant(a).compare(meant(b)) }

func (c counts) compare(other counts) int {
	if by := cmp.Compare(c.sum(), other.sum()); by != 0 {
		return by
	}
	return slices.Compare(c[:], other[:])
}

// Sort: the vectors in the total order.
func Sort(vs [][]int) [][]int { return lists(rising(vs)) }

func rising(vs [][]int) []counts {
	all := make([]counts, len(vs))
	for i, v := range vs {
		all[i] = meant(v)
	}
	slices.SortFunc(all, counts.compare)
	return all
}

func lists(all []counts) [][]int {
	out := make([][]int, len(all))
	for i, c := range all {
		out[i] = c.list()
	}
	return out
}

// Heads: the vectors that are Before no other one, each once.
func Heads(vs [][]int) ([][]int, api.Errno) {
	if len(vs) > mostVectors {
		return nil, api.ErrArg
	}
	all := slices.Compact(rising(vs))
	var heads []counts
	for i, c := range all {
		// What is ahead of c in the total order can't have all that c has.
		if !c.isBeforeOne(all[i+1:]) {
			heads = append(heads, c)
		}
	}
	return lists(heads), api.OK
}

func (c counts) isBeforeOne(others []counts) bool {
	return slices.ContainsFunc(others, func(other counts) bool { return c.order(other) == api.Before })
}

// Behind: the dots that b has and a hasn't.
func Behind(a, b []int) []api.Span {
	mine, theirs := meant(a), meant(b)
	var out []api.Span
	for rep := range api.MaxReps {
		if mine[rep] < theirs[rep] {
			out = append(out, api.Span{Rep: rep, Lo: mine[rep] + 1, Hi: theirs[rep]})
		}
	}
	return out
}

package past_test

import (
	"math"
	"math/rand/v2"
	"slices"

	"barrow/api"
)

const (
	reps     = api.MaxReps
	greatest = api.MaxNum
	leastInt = math.MinInt
	greatInt = math.MaxInt
)

func dot(rep, num int) api.Dot { return api.Dot{Rep: rep, Num: num} }

func sp(rep, lo, hi int) api.Span { return api.Span{Rep: rep, Lo: lo, Hi: hi} }

func pa(vec []int, cloud ...api.Span) api.Past { return api.Past{Vec: vec, Cloud: cloud} }

// example is the past p of the chapter's examples.
func example() api.Past { return pa([]int{4}, sp(0, 6, 12), sp(1, 2, 2)) }

// lastPlace: noughts, and n at replica 15.
func lastPlace(n int) []int { return append(make([]int, reps-1), n) }

// same: one past as it stands, where nil and empty are one.
func same(a, b api.Past) bool {
	return slices.Equal(a.Vec, b.Vec) && slices.Equal(a.Cloud, b.Cloud)
}

func isRep(rep int) bool { return 0 <= rep && rep < reps }

// member is the chapter's definition of what a past means, word by word.
func member(p api.Past, d api.Dot) bool {
	if !isRep(d.Rep) || d.Num < 1 || d.Num > greatest {
		return false
	}
	if d.Rep < len(p.Vec) && d.Num <= p.Vec[d.Rep] {
		return true
	}
	return slices.ContainsFunc(p.Cloud, func(s api.Span) bool {
		return s.Rep == d.Rep && s.Lo <= d.Num && d.Num <= s.Hi
	})
}

// A cell is numbers of one replica which a past either has all of or none.
type cell = api.Span

// cells: all dots that there are, rising, cut where one of the pasts may begin or end.
func cells(ps ...api.Past) []cell {
	var out []cell
	for rep := range reps {
		begins := []int{1}
		begin := func(n int) {
			if 1 <= n && n <= greatest {
				begins = append(begins, n)
			}
		}
		for _, p := range ps {
			if rep < len(p.Vec) {
				begin(min(p.Vec[rep], greatest) + 1)
			}
			for _, s := range p.Cloud {
				if s.Rep == rep {
					begin(s.Lo)
					begin(min(s.Hi, greatest) + 1)
				}
			}
		}
		slices.Sort(begins)
		begins = slices.Compact(begins)
		for i, lo := range begins {
			hi := greatest
			if i+1 < len(begins) {
				hi = begins[i+1] - 1
			}
			out = append(out, cell{Rep: rep, Lo: lo, Hi: hi})
		}
	}
	return out
}

// members: those of the pasts' cells for whose dots ask holds.
func members(ask func(d api.Dot) bool, ps ...api.Past) []cell {
	var out []cell
	for _, c := range cells(ps...) {
		if ask(dot(c.Rep, c.Lo)) {
			out = append(out, c)
		}
	}
	return out
}

// form: the canonical past of rising cells.
func form(set []cell) api.Past {
	vec := make([]int, reps)
	var cloud []api.Span
	for _, c := range set {
		last := len(cloud) - 1
		switch {
		case c.Lo == vec[c.Rep]+1:
			vec[c.Rep] = c.Hi
		case last >= 0 && cloud[last].Rep == c.Rep && cloud[last].Hi == c.Lo-1:
			cloud[last].Hi = c.Hi
		default:
			cloud = append(cloud, c)
		}
	}
	for len(vec) > 0 && vec[len(vec)-1] == 0 {
		vec = vec[:len(vec)-1]
	}
	return api.Past{Vec: vec, Cloud: cloud}
}

// set: the past's own cells.
func set(p api.Past) []cell {
	return members(func(d api.Dot) bool { return member(p, d) }, p)
}

func count(set []cell) int {
	n := 0
	for _, c := range set {
		n += c.Hi - c.Lo + 1
	}
	return n
}

// last is the greatest number of the replica.
func last(p api.Past, rep int) int {
	n := 0
	for _, c := range set(p) {
		if c.Rep == rep {
			n = c.Hi
		}
	}
	return n
}

// edges: pasts at and beyond all bounds.
func edges() []api.Past {
	return []api.Past{
		{}, pa([]int{}), pa([]int{0}), pa([]int{0, 0, 0}, sp(0, 5, 4)), pa([]int{-1}), pa([]int{leastInt, greatInt}), pa([]int{greatest}), pa([]int{greatest + 1}), pa([]int{greatest - 1}),
		pa(make([]int, 40)), pa(append(lastPlace(0), 7)), pa(lastPlace(3)), pa(slices.Repeat([]int{greatInt}, 20)), pa(slices.Repeat([]int{2}, 16)), pa(slices.Repeat([]int{leastInt}, 16)),
		pa(nil, sp(0, leastInt, greatInt)), pa(nil, sp(0, greatInt, leastInt)), pa(nil, sp(-1, 1, 5)), pa(nil, sp(16, 1, 5)), pa(nil, sp(leastInt, 1, 5), sp(greatInt, 1, 5)), pa(nil, sp(15, 1, 5)), pa(nil, sp(15, 2, 5)),
		pa(nil, sp(3, 999999999, 2000000000)), pa([]int{greatest - 1}, sp(0, greatest, greatInt)), pa([]int{greatest - 2}, sp(0, greatest, greatInt)), pa([]int{3}, sp(0, greatest+1, greatInt)), pa(nil, sp(0, leastInt, 0)), pa(nil, sp(0, leastInt, 1)), pa(nil, sp(0, 0, 1)),
		pa([]int{3}, sp(0, 5, 5), sp(0, 4, 4)), pa([]int{3}, sp(0, 5, 5)), pa([]int{3}, sp(0, 4, 4)), pa([]int{3}, sp(0, 2, 2)), pa(nil, sp(0, 3, 3), sp(0, 1, 1), sp(0, 2, 2)), pa(nil, sp(1, 2, 2), sp(0, 2, 2)),
		example(), pa([]int{7, 2}), pa([]int{12, 2}), pa([]int{2, 0, 0}, sp(0, 3, 4), sp(1, 2, 2), sp(0, 6, 9), sp(0, 8, 12), sp(16, 1, 1), sp(2, 5, 4)), pa(nil, sp(1, -7, 3), sp(0, 2, 2), sp(0, 1, 1)), pa([]int{0, -5}, sp(3, 999999999, 2000000000)),
	}
}

// samples: the same pasts at every run of the tests; most are about few dots, so that many a two have some in common, or all.
func samples(count int) []api.Past {
	dice := rand.New(rand.NewPCG(5, 6))
	all := edges()
	for range count {
		all = append(all, sample(dice))
	}
	return all
}

func sample(dice *rand.Rand) api.Past {
	var p api.Past
	for range dice.IntN(4) {
		p.Vec = append(p.Vec, dice.IntN(6)-1)
	}
	for range dice.IntN(6) {
		lo := dice.IntN(12) - 1
		p.Cloud = append(p.Cloud, sp(dice.IntN(3), lo, lo+dice.IntN(5)-1))
	}
	if dice.IntN(10) == 0 {
		lo := greatest - 4 + dice.IntN(7)
		p.Cloud = append(p.Cloud, sp(dice.IntN(2), lo, lo+dice.IntN(4)))
	}
	if dice.IntN(10) == 0 {
		p.Cloud = append(p.Cloud, sp([]int{-1, 14, 15, 16}[dice.IntN(4)], 1+dice.IntN(3), 3))
	}
	return p
}

// pairs: pasts by two.
func pairs(count int, ask func(a, b api.Past)) {
	all := samples(count)
	for _, a := range all {
		for _, b := range all {
			ask(a, b)
		}
	}
}

// comparison is the chapter's definition of Compare, word by word.
func comparison(a, b api.Past) int {
	x, y := form(set(a)), form(set(b))
	for rep := range reps {
		if n, m := place(x.Vec, rep), place(y.Vec, rep); n != m {
			return sign(n - m)
		}
	}
	for i := range max(len(x.Cloud), len(y.Cloud)) {
		if i == len(x.Cloud) {
			return -1
		}
		if i == len(y.Cloud) {
			return 1
		}
		s, u := x.Cloud[i], y.Cloud[i]
		switch {
		case s.Rep != u.Rep:
			return sign(s.Rep - u.Rep)
		case s.Lo != u.Lo:
			return sign(s.Lo - u.Lo)
		case s.Hi != u.Hi:
			return sign(s.Hi - u.Hi)
		}
	}
	return 0
}

func place(vec []int, rep int) int {
	if rep < len(vec) {
		return vec[rep]
	}
	return 0
}

func sign(n int) int {
	switch {
	case n < 0:
		return -1
	case n > 0:
		return 1
	}
	return 0
}

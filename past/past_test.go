package past_test

import (
	"math/rand/v2"
	"slices"
	"testing"

	"barrow/api"
	"barrow/past"
)

func TestNormIsTheFormOfTheSet(t *testing.T) { // P4.1
	for _, p := range samples(2000) {
		want := form(set(p))
		if got := past.Norm(p); !same(got, want) {
			t.Errorf("Norm(%v) = %v, want %v", p, got, want)
		}
		if got := past.Norm(want); !same(got, want) {
			t.Errorf("Norm(%v), which is in form, = %v", want, got)
		}
	}
	for _, c := range []struct{ p, want api.Past }{
		{pa([]int{2, 0, 0}, sp(0, 3, 4), sp(1, 2, 2), sp(0, 6, 9), sp(0, 8, 12), sp(16, 1, 1), sp(2, 5, 4)), example()},
		{pa(nil, sp(1, -7, 3), sp(0, 2, 2), sp(0, 1, 1)), pa([]int{2, 3})},
		{pa([]int{0, -5}, sp(3, 999999999, 2000000000)), pa(nil, sp(3, 999999999, 1000000000))},
		{pa(nil, sp(15, leastInt, greatInt)), pa(lastPlace(greatest))},
		{pa(append(lastPlace(0), 7)), pa(nil)},
	} {
		if got := past.Norm(c.p); !same(got, c.want) {
			t.Errorf("Norm(%v) = %v, want %v", c.p, got, c.want)
		}
	}
}

func TestIsNorm(t *testing.T) { // P4.1
	for _, p := range samples(2000) {
		if got, want := past.IsNorm(p), same(p, form(set(p))); got != want {
			t.Errorf("IsNorm(%v) = %v, want %v", p, got, want)
		}
		if !past.IsNorm(past.Norm(p)) {
			t.Errorf("IsNorm(Norm(%v)) = false", p)
		}
	}
	for _, p := range []api.Past{
		{}, pa([]int{}), pa(nil, sp(0, 2, 2)), pa([]int{1}, sp(0, 3, 3)), pa([]int{1}, sp(0, 3, 3), sp(0, 5, 6), sp(1, 2, 2)), pa(nil, sp(15, greatest, greatest)), pa(lastPlace(greatest)),
		pa([]int{5}, sp(1, 2, 2), sp(1, 4, 4)), pa([]int{0, 5}, sp(0, 2, 2), sp(1, 7, 7)), pa(slices.Repeat([]int{greatest}, 16)), pa([]int{greatest - 2}, sp(0, greatest, greatest)),
	} {
		if !past.IsNorm(p) {
			t.Errorf("IsNorm(%v) = false", p)
		}
	}
	for _, p := range []api.Past{
		pa([]int{0}), pa([]int{1, 0}), pa([]int{-1, 1}), pa([]int{greatest + 1}), pa(slices.Repeat([]int{1}, 17)), pa([]int{1}, sp(0, 2, 2)), pa([]int{1}, sp(0, 1, 1)), pa([]int{9}, sp(0, 2, 3)),
		pa([]int{1}, sp(0, 3, 3), sp(0, 4, 4)), pa(nil, sp(0, 1, 1)), pa(nil, sp(0, 3, 3), sp(0, 3, 3)), pa(nil, sp(0, 5, 5), sp(0, 3, 3)), pa(nil, sp(0, 3, 9), sp(0, 5, 6)), pa(nil, sp(1, 2, 2), sp(0, 2, 2)), pa(nil, sp(1, 4, 4), sp(1, 2, 2)),
		pa(nil, sp(-1, 2, 2)), pa(nil, sp(16, 2, 2)), pa(nil, sp(leastInt, 2, 2)), pa(nil, sp(greatInt, 2, 2)), pa(nil, sp(0, 5, 4)), pa(nil, sp(0, 2, greatest+1)), pa(nil, sp(0, greatest+1, greatest+1)), pa(nil, sp(0, 2, greatInt)), pa(nil, sp(0, 0, 3)), pa(nil, sp(0, leastInt, 3)), pa(nil, sp(0, greatInt, leastInt)),
		pa(nil, sp(0, 2, greatest), sp(0, leastInt, leastInt)), pa(nil, sp(0, 3, 3), sp(1, 3, 3), sp(0, 5, 5)), pa([]int{0, 0, 4}, sp(2, 5, 5)),
	} {
		if past.IsNorm(p) {
			t.Errorf("IsNorm(%v) = true", p)
		}
	}
}

func TestOf(t *testing.T) { // P4.1
	dice := rand.New(rand.NewPCG(7, 8))
	for range 1000 {
		var dots []api.Dot
		var p api.Past
		for range dice.IntN(20) {
			d := dot(dice.IntN(5)-1, dice.IntN(9)-1)
			if dice.IntN(12) == 0 {
				d = []api.Dot{dot(15, 1), dot(16, 1), dot(0, greatest), dot(0, greatest+1), dot(1, greatInt), dot(1, leastInt), dot(greatInt, 1), dot(leastInt, 1)}[dice.IntN(8)]
			}
			dots = append(dots, d)
			p.Cloud = append(p.Cloud, sp(d.Rep, d.Num, d.Num))
		}
		if got, want := past.Of(dots), form(set(p)); !same(got, want) {
			t.Errorf("Of(%v) = %v, want %v", dots, got, want)
		}
	}
	for _, c := range []struct {
		dots []api.Dot
		want api.Past
	}{
		{nil, pa(nil)}, {[]api.Dot{}, pa(nil)}, {[]api.Dot{dot(0, 0), dot(-1, 1), dot(16, 1), dot(0, greatest+1)}, pa(nil)},
		{[]api.Dot{dot(1, 3), dot(0, 2), dot(1, 3), dot(0, 1), dot(0, 2)}, pa([]int{2}, sp(1, 3, 3))},
	} {
		if got := past.Of(c.dots); !same(got, c.want) {
			t.Errorf("Of(%v) = %v, want %v", c.dots, got, c.want)
		}
	}
}

// probes: dots at and about the bounds, and such as are none.
func probes() []api.Dot {
	var out []api.Dot
	for _, rep := range []int{leastInt, -1, 0, 1, 2, 3, 14, 15, 16, greatInt} {
		for _, num := range []int{leastInt, -1, 0, 1, 2, 3, 4, 5, 6, 7, 8, 12, 13, greatest - 2, greatest - 1, greatest, greatest + 1, greatInt} {
			out = append(out, dot(rep, num))
		}
	}
	return out
}

func TestHas(t *testing.T) { // P4.1
	for _, p := range samples(300) {
		for _, d := range probes() {
			if got := past.Has(p, d); got != member(p, d) {
				t.Errorf("Has(%v, %v) = %v", p, d, got)
			}
		}
	}
	wide := pa(slices.Repeat([]int{greatInt}, 20), sp(-1, leastInt, greatInt), sp(16, leastInt, greatInt), sp(0, leastInt, greatInt))
	for _, d := range []api.Dot{dot(-1, 1), dot(16, 1), dot(0, 0), dot(0, greatest+1)} {
		if past.Has(wide, d) {
			t.Errorf("Has of %v, which is no dot", d)
		}
	}
}

func TestPut(t *testing.T) { // P4.1
	for _, p := range samples(100) {
		for _, d := range probes() {
			want := p
			want.Cloud = append(slices.Clone(p.Cloud), sp(d.Rep, d.Num, d.Num))
			if got := past.Put(p, d); !same(got, form(set(want))) {
				t.Errorf("Put(%v, %v) = %v", p, d, got)
			}
		}
	}
	p := example()
	for _, c := range []struct {
		d    api.Dot
		want api.Past
	}{
		{dot(0, 5), pa([]int{12}, sp(1, 2, 2))}, {dot(1, 1), pa([]int{4, 2}, sp(0, 6, 12))}, {dot(1, 0), p}, {dot(0, 3), p}, {dot(16, 1), p}, {dot(-1, 1), p}, {dot(0, greatest+1), p},
		{dot(15, greatest), pa([]int{4}, sp(0, 6, 12), sp(1, 2, 2), sp(15, greatest, greatest))}, {dot(0, 13), pa([]int{4}, sp(0, 6, 13), sp(1, 2, 2))},
	} {
		if got := past.Put(p, c.d); !same(got, c.want) {
			t.Errorf("Put(p, %v) = %v, want %v", c.d, got, c.want)
		}
	}
}

func TestEmptyAndSize(t *testing.T) { // P4.1
	for _, p := range samples(1000) {
		want := count(set(p))
		if got := past.Size(p); got != want {
			t.Errorf("Size(%v) = %d, want %d", p, got, want)
		}
		if got := past.Empty(p); got != (want == 0) {
			t.Errorf("Empty(%v) = %v", p, got)
		}
	}
	for _, c := range []struct {
		p    api.Past
		size int
	}{
		{api.Past{}, 0}, {example(), 12}, {pa([]int{0, -5}, sp(3, 999999999, 2000000000)), 2}, {pa(slices.Repeat([]int{greatInt}, 20), sp(0, 1, 5)), 16 * greatest}, {pa([]int{3}, sp(0, 2, 4), sp(0, 4, 5)), 5},
		{pa(nil, sp(0, 3, 2), sp(16, 1, 1)), 0}, {pa(nil, sp(15, greatest, greatest)), 1},
	} {
		if got := past.Size(c.p); got != c.size {
			t.Errorf("Size(%v) = %d, want %d", c.p, got, c.size)
		}
		if got := past.Empty(c.p); got != (c.size == 0) {
			t.Errorf("Empty(%v) = %v", c.p, got)
		}
	}
}

func TestLast(t *testing.T) { // P4.1
	for _, p := range samples(300) {
		for rep := range reps {
			if got, want := past.Last(p, rep), last(p, rep); got != want {
				t.Errorf("Last(%v, %d) = %d, want %d", p, rep, got, want)
			}
		}
		for _, rep := range []int{leastInt, -1, 16, 99, greatInt} {
			if got := past.Last(p, rep); got != 0 {
				t.Errorf("Last(%v, %d) = %d", p, rep, got)
			}
		}
	}
	for _, c := range []struct{ rep, want int }{{0, 12}, {1, 2}, {2, 0}, {99, 0}} {
		if got := past.Last(example(), c.rep); got != c.want {
			t.Errorf("Last(p, %d) = %d, want %d", c.rep, got, c.want)
		}
	}
	if got := past.Last(pa(slices.Repeat([]int{5}, 20), sp(16, 1, 7), sp(-1, 1, 7)), 16); got != 0 {
		t.Errorf("Last at replica 16 = %d", got)
	}
}

// firstDots: the first ones of a set, at most so many, and are they all?
func firstDots(set []cell, most int) ([]api.Dot, bool) {
	var out []api.Dot
	for _, c := range set {
		for n := c.Lo; n <= c.Hi; n++ {
			if len(out) >= min(most, api.MaxDots) {
				return out, false
			}
			out = append(out, dot(c.Rep, n))
		}
	}
	return out, true
}

func checkDots(t *testing.T, p api.Past, most int) {
	t.Helper()
	got, all := past.Dots(p, most)
	want, wantAll := firstDots(set(p), most)
	if !slices.Equal(got, want) || all != wantAll {
		t.Errorf("Dots(%v, %d) = %d dots, %v, want %d, %v", p, most, len(got), all, len(want), wantAll)
	}
}

func TestDots(t *testing.T) { // P4.1
	for _, p := range samples(200) {
		for most := -1; most <= 14; most++ {
			checkDots(t, p, most)
		}
	}
	for _, p := range edges() {
		for _, most := range []int{leastInt, 9999, 10000, 10001, greatInt} {
			checkDots(t, p, most)
		}
	}
	for _, n := range []int{9999, 10000, 10001} {
		for _, most := range []int{9998, 9999, 10000, 10001, greatInt} {
			checkDots(t, pa([]int{n}), most)
			checkDots(t, pa(nil, sp(0, 1, n-1), sp(15, greatest, greatest)), most)
		}
	}
	if got, all := past.Dots(example(), 3); !slices.Equal(got, []api.Dot{dot(0, 1), dot(0, 2), dot(0, 3)}) || all {
		t.Errorf("Dots(p, 3) = %v, %v", got, all)
	}
	if got, all := past.Dots(example(), 12); len(got) != 12 || got[10] != dot(0, 12) || got[11] != dot(1, 2) || !all {
		t.Errorf("Dots(p, 12) = %v, %v", got, all)
	}
	if got, all := past.Dots(example(), 11); len(got) != 11 || all {
		t.Errorf("Dots(p, 11) = %v, %v", got, all)
	}
	if got, all := past.Dots(api.Past{}, -4); len(got) != 0 || !all {
		t.Errorf("Dots of nothing = %v, %v", got, all)
	}
	if got, all := past.Dots(example(), 0); len(got) != 0 || all {
		t.Errorf("Dots(p, 0) = %v, %v", got, all)
	}
	if got, all := past.Dots(pa([]int{1000000000}), 2000000); len(got) != 10000 || got[9999] != dot(0, 10000) || all {
		t.Errorf("Dots of very many: %d, %v", len(got), all)
	}
}

func TestHoles(t *testing.T) { // P4.1
	for _, p := range samples(1000) {
		missing := func(d api.Dot) bool { return !member(p, d) && d.Num < last(p, d.Rep) }
		if got, want := past.Holes(p), form(members(missing, p)); !same(got, want) {
			t.Errorf("Holes(%v) = %v, want %v", p, got, want)
		}
	}
	for _, c := range []struct{ p, want api.Past }{
		{example(), pa([]int{0, 1}, sp(0, 5, 5))}, {api.Past{}, pa(nil)}, {pa([]int{5, 0, 7}), pa(nil)}, {pa(nil, sp(15, greatest, greatest)), pa(lastPlace(greatest - 1))}, {pa(nil, sp(0, leastInt, greatInt)), pa(nil)},
	} {
		if got := past.Holes(c.p); !same(got, c.want) {
			t.Errorf("Holes(%v) = %v, want %v", c.p, got, c.want)
		}
	}
}

func TestNext(t *testing.T) { // P4.2
	limits := []int{leastInt, -1, 0, 1, 2, 3, 4, 5, 6, 12, 13, greatest - 1, greatest, greatest + 1, greatInt}
	for _, p := range samples(150) {
		for rep := range reps {
			for _, limit := range limits {
				checkNext(t, p, rep, limit)
			}
		}
		for _, rep := range []int{leastInt, -1, 16, greatInt} {
			for _, limit := range limits {
				if got, err := past.Next(p, rep, limit); err != api.ErrRep || got != (api.Dot{}) {
					t.Errorf("Next(%v, %d, %d) = %v, %d", p, rep, limit, got, err)
				}
			}
		}
	}
	for _, c := range []struct {
		p          api.Past
		rep, limit int
		want       api.Dot
		err        api.Errno
	}{
		{example(), 0, 20, dot(0, 13), api.OK}, {example(), 0, 13, dot(0, 13), api.OK}, {example(), 0, 12, api.Dot{}, api.ErrCount}, {example(), 16, 0, api.Dot{}, api.ErrRep}, {example(), 1, 3, dot(1, 3), api.OK},
		{pa([]int{0, -5}, sp(3, 999999999, 2000000000)), 3, greatInt, api.Dot{}, api.ErrCount}, {pa([]int{greatest - 1}), 0, greatInt, dot(0, greatest), api.OK}, {api.Past{}, 15, 1, dot(15, 1), api.OK}, {api.Past{}, 15, 0, api.Dot{}, api.ErrCount},
	} {
		if got, err := past.Next(c.p, c.rep, c.limit); got != c.want || err != c.err {
			t.Errorf("Next(%v, %d, %d) = %v, %d, want %v, %d", c.p, c.rep, c.limit, got, err, c.want, c.err)
		}
	}
}

func checkNext(t *testing.T, p api.Past, rep, limit int) {
	t.Helper()
	got, err := past.Next(p, rep, limit)
	if n := last(p, rep); n >= limit || n >= greatest {
		if err != api.ErrCount || got != (api.Dot{}) {
			t.Errorf("Next(%v, %d, %d) = %v, %d", p, rep, limit, got, err)
		}
	} else if err != api.OK || got != dot(rep, n+1) || past.Has(p, got) {
		t.Errorf("Next(%v, %d, %d) = %v, %d", p, rep, limit, got, err)
	}
}

func TestOneReplicasNextDotsMakeNoSpan(t *testing.T) { // P4.5
	for _, begun := range samples(200) {
		for rep := range reps {
			ofRep := func(s api.Span) bool { return s.Rep == rep }
			p := past.Norm(begun)
			if slices.ContainsFunc(p.Cloud, ofRep) {
				continue
			}
			for range 5 {
				d, err := past.Next(p, rep, greatest)
				if err != api.OK {
					break
				}
				p = past.Put(p, d)
				if slices.ContainsFunc(p.Cloud, ofRep) {
					t.Errorf("%v with the Next dots of replica %d: %v", begun, rep, p)
				}
			}
		}
	}
}

package span_test

import (
	"slices"
	"testing"

	"barrow/api"
	"barrow/span"
)

func TestNormIsTheFormOfTheSet(t *testing.T) { // P1.1
	each(400, func(w window, a []api.Run) {
		if got, want := span.Norm(a), form(w.set(a)); !same(got, want) {
			t.Errorf("Norm(%v) = %v, want %v", a, got, want)
		}
	})
	for _, c := range wild() {
		if got := span.Norm(c.a); !same(got, c.want) {
			t.Errorf("Norm(%v) = %v, want %v", c.a, got, c.want)
		}
	}
	for _, c := range []struct{ a, want []api.Run }{
		{runs(5, 9, 1, 3, 4, 4, 20, 10, -5, 0), runs(1, 9)},
		{runs(0, 2, 4, 6), runs(1, 2, 4, 6)},
	} {
		if got := span.Norm(c.a); !same(got, c.want) {
			t.Errorf("Norm(%v) = %v, want %v", c.a, got, c.want)
		}
	}
}

func TestNormsAreEqualJustIfTheSetsAre(t *testing.T) { // P1.1
	pairs(60, func(w window, a, b []api.Run) {
		if got, want := same(span.Norm(a), span.Norm(b)), slices.Equal(w.set(a), w.set(b)); got != want {
			t.Errorf("the Norms of %v and %v are equal: %v, want %v", a, b, got, want)
		}
	})
}

func TestIsNorm(t *testing.T) { // P1.1
	each(400, func(w window, a []api.Run) {
		if got, want := span.IsNorm(a), same(a, form(w.set(a))); got != want {
			t.Errorf("IsNorm(%v) = %v, want %v", a, got, want)
		}
		if n := span.Norm(a); !span.IsNorm(n) {
			t.Errorf("IsNorm(%v) = false, of a Norm", n)
		}
	})
	for _, a := range [][]api.Run{nil, {}, runs(1, 2, 4, 6), runs(1, most), runs(1, 1, most, most), runs(most-2, most-2, most, most)} {
		if !span.IsNorm(a) {
			t.Errorf("IsNorm(%v) = false", a)
		}
	}
	for _, a := range [][]api.Run{
		runs(1, 2, 3, 6), runs(1, 2, 2, 6), runs(0, 2), runs(3, 2), runs(1, most+1), runs(4, 5, 1, 2), runs(1, 1, 1, 1), runs(1, 2, 5, 4),
		runs(leastInt, greatInt), runs(1, greatInt, 3, 3), runs(1, greatInt-1, leastInt, 3), runs(most+1, most+1), runs(5, 5, 0, 0),
	} {
		if span.IsNorm(a) {
			t.Errorf("IsNorm(%v) = true", a)
		}
	}
}

func TestHas(t *testing.T) { // P1.1
	each(100, func(w window, a []api.Run) {
		for n := w.from - 1; n <= w.to+1; n++ {
			if got := span.Has(a, n); got != member(a, n) {
				t.Errorf("Has(%v, %d) = %v", a, n, got)
			}
		}
	})
	all := runs(leastInt, greatInt)
	for n, want := range map[int]bool{leastInt: false, 0: false, 1: true, most: true, most + 1: false, greatInt: false} {
		if got := span.Has(all, n); got != want {
			t.Errorf("Has(%v, %d) = %v", all, n, got)
		}
	}
}

func TestSize(t *testing.T) { // P1.1
	each(400, func(w window, a []api.Run) {
		if got, want := span.Size(a), len(w.set(a)); got != want {
			t.Errorf("Size(%v) = %d, want %d", a, got, want)
		}
	})
	for _, c := range []struct {
		a    []api.Run
		want int
	}{{runs(1, most), most}, {runs(leastInt, greatInt, 5, 9), most}, {runs(2, most-1), most - 2}, {runs(2, 4, 8, 8), 4}} {
		if got := span.Size(c.a); got != c.want {
			t.Errorf("Size(%v) = %d, want %d", c.a, got, c.want)
		}
	}
}

func TestFirstAndLast(t *testing.T) { // P1.1
	each(100, func(w window, a []api.Run) {
		set := w.set(a)
		for from := w.from - 1; from <= w.to+1; from++ {
			if got, want := span.First(a, from), firstOf(set, from); got != want {
				t.Errorf("First(%v, %d) = %d, want %d", a, from, got, want)
			}
		}
		if got, want := span.First(a, leastInt), firstOf(set, leastInt); got != want {
			t.Errorf("First(%v, the least int) = %d, want %d", a, got, want)
		}
		if got := span.First(a, greatInt); got != 0 {
			t.Errorf("First(%v, the greatest int) = %d", a, got)
		}
		want := 0
		if len(set) > 0 {
			want = set[len(set)-1]
		}
		if got := span.Last(a); got != want {
			t.Errorf("Last(%v) = %d, want %d", a, got, want)
		}
	})
	if all := runs(leastInt, greatInt); span.First(all, leastInt) != 1 || span.First(all, most) != most || span.First(all, most+1) != 0 || span.Last(all) != most {
		t.Errorf("First or Last of all numbers")
	}
	if a := runs(1, 4, 6, 7); span.First(a, 5) != 6 || span.First(a, 8) != 0 || span.Last(a) != 7 {
		t.Errorf("First or Last of %v", a)
	}
}

// firstOf: the first of the rising numbers that is from or above.
func firstOf(rising []int, from int) int {
	for _, n := range rising {
		if n >= from {
			return n
		}
	}
	return 0
}

func TestGap(t *testing.T) { // P1.2
	each(100, func(w window, a []api.Run) {
		missing := w.numbers(func(n int) bool { return 1 <= n && n <= most && !member(a, n) })
		if beyond := w.to + 1; beyond <= most {
			missing = append(missing, beyond)
		}
		for from := w.from; from <= w.to; from++ {
			if got, want := span.Gap(a, from), firstOf(missing, from); got != want {
				t.Errorf("Gap(%v, %d) = %d, want %d", a, from, got, want)
			}
		}
	})
	for _, c := range []struct {
		a          []api.Run
		from, want int
	}{
		{runs(1, 4, 6, 7), 0, 5}, {runs(1, 4, 6, 7), 6, 8}, {runs(1, 4, 6, 7), leastInt, 5}, {runs(1, 4, 6, 7), most, most},
		{runs(1, most), 3, 0}, {runs(1, most), leastInt, 0}, {runs(1, most-1), 1, most}, {runs(2, most), -4, 1}, {runs(2, most), 2, 0},
		{runs(leastInt, greatInt), 1, 0}, {nil, most + 1, 0}, {nil, -7, 1}, {nil, greatInt, 0}, {nil, leastInt, 1}, {nil, most, most},
	} {
		if got := span.Gap(c.a, c.from); got != c.want {
			t.Errorf("Gap(%v, %d) = %d, want %d", c.a, c.from, got, c.want)
		}
	}
}

func TestLead(t *testing.T) { // P1.2
	each(400, func(w window, a []api.Run) {
		set := w.set(a)
		k := 0
		for slices.Contains(set, k+1) {
			k++
		}
		got, rest := span.Lead(a)
		if got != k || !same(rest, form(set[k:])) {
			t.Errorf("Lead(%v) = %d, %v", a, got, rest)
		}
		if whole := span.Union(runs(1, got), rest); !same(whole, span.Norm(a)) {
			t.Errorf("Lead(%v): together %v", a, whole)
		}
	})
	for _, c := range []struct {
		a    []api.Run
		k    int
		rest []api.Run
	}{
		{runs(1, 4, 6, 7), 4, runs(6, 7)}, {runs(2, 4), 0, runs(2, 4)}, {runs(1, most), most, nil}, {runs(3, greatInt, leastInt, 2), most, nil},
		{nil, 0, nil}, {runs(1, 1, most, most), 1, runs(most, most)}, {runs(6, 7, 3, 4, 1, 2), 4, runs(6, 7)},
	} {
		if k, rest := span.Lead(c.a); k != c.k || !same(rest, c.rest) {
			t.Errorf("Lead(%v) = %d, %v, want %d, %v", c.a, k, rest, c.k, c.rest)
		}
	}
}

func TestSplit(t *testing.T) { // P1.2
	each(100, func(w window, a []api.Run) {
		for at := w.from - 1; at <= w.to+1; at++ {
			below := w.numbers(func(n int) bool { return member(a, n) && n < at })
			above := w.numbers(func(n int) bool { return member(a, n) && n >= at })
			x, y := span.Split(a, at)
			if !same(x, form(below)) || !same(y, form(above)) {
				t.Errorf("Split(%v, %d) = %v, %v", a, at, x, y)
			}
			if whole := span.Union(x, y); !same(whole, span.Norm(a)) {
				t.Errorf("Split(%v, %d): together %v", a, at, whole)
			}
		}
	})
	a := runs(1, 4, 6, 7)
	for _, c := range []struct {
		a           []api.Run
		at          int
		below, rest []api.Run
	}{
		{a, 6, runs(1, 4), runs(6, 7)}, {a, 3, runs(1, 2), runs(3, 4, 6, 7)}, {a, leastInt, nil, a}, {a, greatInt, a, nil}, {a, 0, nil, a}, {a, 1, nil, a}, {a, most + 1, a, nil},
		{runs(leastInt, greatInt), most, runs(1, most-1), runs(most, most)}, {runs(leastInt, greatInt), most + 1, runs(1, most), nil}, {nil, 3, nil, nil},
	} {
		if x, y := span.Split(c.a, c.at); !same(x, c.below) || !same(y, c.rest) {
			t.Errorf("Split(%v, %d) = %v, %v, want %v, %v", c.a, c.at, x, y, c.below, c.rest)
		}
	}
}

func TestRank(t *testing.T) { // P1.3
	each(100, func(w window, a []api.Run) {
		for n := w.from - 1; n <= w.to+1; n++ {
			upTo := w.numbers(func(m int) bool { return member(a, m) && m <= n })
			got := span.Rank(a, n)
			if got != len(upTo) {
				t.Errorf("Rank(%v, %d) = %d, want %d", a, n, got, len(upTo))
			}
			if len(upTo) > 0 && span.Pick(a, got) != upTo[len(upTo)-1] {
				t.Errorf("Pick(%v, Rank(%d)) = %d, want %d", a, n, span.Pick(a, got), upTo[len(upTo)-1])
			}
		}
	})
	all := runs(leastInt, greatInt)
	for _, c := range []struct {
		a       []api.Run
		n, want int
	}{
		{runs(2, 4, 8, 8), 3, 2}, {runs(2, 4, 8, 8), 100, 4}, {all, leastInt, 0}, {all, -1, 0}, {all, 0, 0}, {all, 1, 1}, {all, most - 1, most - 1},
		{all, most, most}, {all, most + 1, most}, {all, greatInt, most}, {nil, greatInt, 0},
	} {
		if got := span.Rank(c.a, c.n); got != c.want {
			t.Errorf("Rank(%v, %d) = %d, want %d", c.a, c.n, got, c.want)
		}
	}
}

func TestPick(t *testing.T) { // P1.3
	each(400, func(w window, a []api.Run) {
		set := w.set(a)
		for i, n := range set {
			if got := span.Pick(a, i+1); got != n || span.Rank(a, got) != i+1 {
				t.Errorf("Pick(%v, %d) = %d, want %d; its Rank is %d", a, i+1, got, n, span.Rank(a, got))
			}
		}
		for _, k := range []int{leastInt, -1, 0, len(set) + 1, greatInt} {
			if got := span.Pick(a, k); got != 0 {
				t.Errorf("Pick(%v, %d) = %d", a, k, got)
			}
		}
	})
	all := runs(leastInt, greatInt)
	if span.Pick(all, 1) != 1 || span.Pick(all, most) != most || span.Pick(all, most+1) != 0 || span.Pick(all, 777777777) != 777777777 {
		t.Errorf("Pick of all numbers")
	}
}

package span_test

import (
	"testing"

	"barrow/api"
	"barrow/span"
)

func TestPutAndDrop(t *testing.T) { // P1.4
	each(100, func(w window, a []api.Run) {
		for n := max(w.from, 1); n <= min(w.to, most); n++ {
			with := w.numbers(func(m int) bool { return member(a, m) || m == n })
			if got, err := span.Put(a, n); err != api.OK || !same(got, form(with)) {
				t.Errorf("Put(%v, %d) = %v, %d", a, n, got, err)
			}
			without := w.numbers(func(m int) bool { return member(a, m) && m != n })
			if got, err := span.Drop(a, n); err != api.OK || !same(got, form(without)) {
				t.Errorf("Drop(%v, %d) = %v, %d", a, n, got, err)
			}
		}
	})
	if got, err := span.Put(runs(1, 2, 4, 4), 3); err != api.OK || !same(got, runs(1, 4)) {
		t.Errorf("Put of 3 = %v, %d", got, err)
	}
	if got, err := span.Drop(runs(1, 4), 2); err != api.OK || !same(got, runs(1, 1, 3, 4)) {
		t.Errorf("Drop of 2 = %v, %d", got, err)
	}
	if got, err := span.Drop(runs(leastInt, greatInt), most); err != api.OK || !same(got, runs(1, most-1)) {
		t.Errorf("Drop of the last number = %v, %d", got, err)
	}
	if got, err := span.Put(runs(1, most-1), most); err != api.OK || !same(got, runs(1, most)) {
		t.Errorf("Put of the last number = %v, %d", got, err)
	}
}

func TestPutAndDropRefuseWhatIsNoNumber(t *testing.T) { // P1.4
	for _, a := range [][]api.Run{nil, runs(1, 2), runs(leastInt, greatInt)} {
		for _, n := range []int{leastInt, -1, 0, most + 1, greatInt} {
			if got, err := span.Put(a, n); err != api.ErrArg || len(got) != 0 {
				t.Errorf("Put(%v, %d) = %v, %d", a, n, got, err)
			}
			if got, err := span.Drop(a, n); err != api.ErrArg || len(got) != 0 {
				t.Errorf("Drop(%v, %d) = %v, %d", a, n, got, err)
			}
		}
	}
}

func TestUnionMeetMinus(t *testing.T) { // P1.4
	pairs(80, func(w window, a, b []api.Run) {
		union := w.numbers(func(n int) bool { return member(a, n) || member(b, n) })
		if got := span.Union(a, b); !same(got, form(union)) {
			t.Errorf("Union(%v, %v) = %v", a, b, got)
		}
		meet := w.numbers(func(n int) bool { return member(a, n) && member(b, n) })
		if got := span.Meet(a, b); !same(got, form(meet)) {
			t.Errorf("Meet(%v, %v) = %v", a, b, got)
		}
		minus := w.numbers(func(n int) bool { return member(a, n) && !member(b, n) })
		if got := span.Minus(a, b); !same(got, form(minus)) {
			t.Errorf("Minus(%v, %v) = %v", a, b, got)
		}
	})
	all := runs(leastInt, greatInt)
	for _, c := range wild() {
		if got := span.Union(c.a, c.a); !same(got, c.want) {
			t.Errorf("Union(%v) with itself = %v", c.a, got)
		}
		if got := span.Meet(all, c.a); !same(got, c.want) {
			t.Errorf("Meet of all numbers and %v = %v", c.a, got)
		}
		if got := span.Minus(c.a, nil); !same(got, c.want) {
			t.Errorf("Minus(%v, nil) = %v", c.a, got)
		}
		if got := span.Minus(all, span.Minus(all, c.a)); !same(got, c.want) {
			t.Errorf("what isn't outside of %v = %v", c.a, got)
		}
	}
}

func TestSetExamples(t *testing.T) { // P1.4
	if got := span.Union(runs(1, 2, 9, 9), runs(3, 3, 7, 8)); !same(got, runs(1, 3, 7, 9)) {
		t.Errorf("Union = %v", got)
	}
	if got := span.Meet(runs(1, 5, 8, 9), runs(4, 8)); !same(got, runs(4, 5, 8, 8)) {
		t.Errorf("Meet = %v", got)
	}
	if got := span.Minus(runs(1, 9), runs(1, 2, 5, 5)); !same(got, runs(3, 4, 6, 9)) {
		t.Errorf("Minus = %v", got)
	}
}

func TestUnionOfAnyNumberOfSets(t *testing.T) { // P1.4
	if got := span.Union(); len(got) != 0 {
		t.Errorf("Union of no sets = %v", got)
	}
	if got := span.Union(nil, runs(4, 3), nil); len(got) != 0 {
		t.Errorf("Union of empty sets = %v", got)
	}
	if got := span.Union(runs(4, 5, 2, 3)); !same(got, runs(2, 5)) {
		t.Errorf("Union of one set = %v", got)
	}
	for _, w := range windows() {
		lists := w.lists(5)
		union := w.numbers(func(n int) bool {
			for _, a := range lists {
				if member(a, n) {
					return true
				}
			}
			return false
		})
		if got := span.Union(lists...); !same(got, form(union)) {
			t.Errorf("Union(%v) = %v", lists, got)
		}
	}
}

func TestWithinAndOrder(t *testing.T) { // P1.5
	pairs(80, func(w window, a, b []api.Run) {
		moreInA := len(w.numbers(func(n int) bool { return member(a, n) && !member(b, n) })) > 0
		moreInB := len(w.numbers(func(n int) bool { return member(b, n) && !member(a, n) })) > 0
		if got := span.Within(a, b); got == moreInA {
			t.Errorf("Within(%v, %v) = %v", a, b, got)
		}
		want := api.Same
		switch {
		case moreInA && moreInB:
			want = api.Apart
		case moreInA:
			want = api.After
		case moreInB:
			want = api.Before
		}
		if got := span.Order(a, b); got != want {
			t.Errorf("Order(%v, %v) = %d, want %d", a, b, got, want)
		}
	})
	for _, c := range []struct {
		a, b []api.Run
		want int
	}{
		{runs(1, 3), runs(1, 1, 2, 4), api.Before}, {runs(1, 3), runs(3, 3, 1, 2), api.Same}, {runs(1, 1), runs(2, 2), api.Apart}, {nil, runs(9, 2), api.Same},
		{runs(leastInt, greatInt), runs(1, most), api.Same}, {runs(leastInt, greatInt), runs(1, most-1), api.After}, {runs(2, greatInt), runs(leastInt, most-1), api.Apart},
		{nil, runs(most, greatInt), api.Before}, {runs(most+1, greatInt), runs(leastInt, 0), api.Same},
	} {
		if got := span.Order(c.a, c.b); got != c.want {
			t.Errorf("Order(%v, %v) = %d, want %d", c.a, c.b, got, c.want)
		}
		if got := span.Within(c.a, c.b); got != (c.want == api.Same || c.want == api.Before) {
			t.Errorf("Within(%v, %v) = %v", c.a, c.b, got)
		}
	}
}

package span_test

import (
	"iter"
	"slices"
	"testing"

	"barrow/api"
	"barrow/span"
)

func TestWalkGivesTheNumbersRising(t *testing.T) { // P1.6
	each(200, func(w window, a []api.Run) {
		walk := span.Walk(a)
		for range 2 {
			if got := slices.Collect(walk); !slices.Equal(got, w.set(a)) {
				t.Errorf("Walk(%v) gives %v", a, got)
			}
		}
	})
}

func TestWalkIsNeverNil(t *testing.T) { // P1.6
	for _, a := range [][]api.Run{nil, {}, runs(3, 2), runs(leastInt, 0), runs(most+1, greatInt)} {
		walk := span.Walk(a)
		if walk == nil {
			t.Fatalf("Walk(%v) is nil", a)
		}
		for n := range walk {
			t.Errorf("Walk(%v) gives %d", a, n)
		}
	}
}

func TestWalkEndsEarly(t *testing.T) { // P1.6
	for stop := 1; stop <= 5; stop++ {
		asked := 0
		span.Walk(runs(8, 9, 2, 4))(func(int) bool {
			asked++
			return asked < stop
		})
		if asked != stop {
			t.Errorf("a walk that ends at its number %d gives %d", stop, asked)
		}
	}
	var got []int
	for n := range span.Walk(runs(leastInt, greatInt)) {
		got = append(got, n)
		if len(got) == 3 {
			break
		}
	}
	if !slices.Equal(got, []int{1, 2, 3}) {
		t.Errorf("the first three of all numbers: %v", got)
	}
}

func TestWalkEndsAtTheLastNumber(t *testing.T) { // P1.6
	if got := slices.Collect(span.Walk(runs(most-1, greatInt))); !slices.Equal(got, []int{most - 1, most}) {
		t.Errorf("a walk to the last number gives %v", got)
	}
}

func TestWalkBeginsAnew(t *testing.T) { // P1.6
	walk := span.Walk(runs(5, 6, 1, 2))
	for n := range walk {
		if n == 2 {
			break
		}
	}
	if got := slices.Collect(walk); !slices.Equal(got, []int{1, 2, 5, 6}) {
		t.Errorf("behind an early end a walk gives %v", got)
	}
}

func TestWalksWithinWalks(t *testing.T) { // P1.6
	walk := span.Walk(runs(1, 2, 4, 4))
	var got []int
	for n := range walk {
		for m := range walk {
			got = append(got, 10*n+m)
		}
	}
	if want := []int{11, 12, 14, 21, 22, 24, 41, 42, 44}; !slices.Equal(got, want) {
		t.Errorf("one walk in another gives %v, want %v", got, want)
	}
	one, endOne := iter.Pull(walk)
	defer endOne()
	two, endTwo := iter.Pull(walk)
	defer endTwo()
	for _, want := range []int{1, 2, 4} {
		x, okX := one()
		y, okY := two()
		if !okX || !okY || x != want || y != want {
			t.Errorf("two walks side by side give %d and %d, want %d", x, y, want)
		}
	}
}

func TestWalkKeepsTheSetOfItsCall(t *testing.T) { // P1.6
	a := runs(6, 7, 2, 3)
	walk := span.Walk(a)
	a[0], a[1] = api.Run{Lo: 1, Hi: 100}, api.Run{Lo: 200, Hi: 300}
	if got := slices.Collect(walk); !slices.Equal(got, []int{2, 3, 6, 7}) {
		t.Errorf("ahead of the walk the list was written over: it gives %v", got)
	}
	b := runs(2, 3, 6, 7) // in form, so that nothing but a copy keeps it
	var got []int
	for n := range span.Walk(b) {
		got = append(got, n)
		clear(b)
	}
	if !slices.Equal(got, []int{2, 3, 6, 7}) {
		t.Errorf("in the walk the list was written over: it gives %v", got)
	}
}

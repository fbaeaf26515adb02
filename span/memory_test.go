package span_test

import (
	"iter"
	"slices"
	"testing"

	"barrow/api"
	"barrow/span"
)

// A caller makes a call of span with lists and tells all the lists that it answers.
type caller struct {
	name string
	call func(a, b []api.Run) [][]api.Run
}

func callers() []caller {
	one := func(list []api.Run, _ api.Errno) [][]api.Run { return [][]api.Run{list} }
	two := func(x, y []api.Run) [][]api.Run { return [][]api.Run{x, y} }
	return []caller{
		{"Norm", func(a, b []api.Run) [][]api.Run { return one(span.Norm(a), 0) }},
		{"IsNorm", func(a, b []api.Run) [][]api.Run { span.IsNorm(a); return nil }},
		{"Has", func(a, b []api.Run) [][]api.Run { span.Has(a, 3); return nil }},
		{"Size", func(a, b []api.Run) [][]api.Run { span.Size(a); return nil }},
		{"First", func(a, b []api.Run) [][]api.Run { span.First(a, 3); return nil }},
		{"Last", func(a, b []api.Run) [][]api.Run { span.Last(a); return nil }},
		{"Gap", func(a, b []api.Run) [][]api.Run { span.Gap(a, 3); return nil }},
		{"Lead", func(a, b []api.Run) [][]api.Run { _, rest := span.Lead(a); return one(rest, 0) }},
		{"Split", func(a, b []api.Run) [][]api.Run { return two(span.Split(a, 4)) }},
		{"Split ahead of all", func(a, b []api.Run) [][]api.Run { return two(span.Split(a, 0)) }},
		{"Split behind all", func(a, b []api.Run) [][]api.Run { return two(span.Split(a, greatInt)) }},
		{"Rank", func(a, b []api.Run) [][]api.Run { span.Rank(a, 5); return nil }},
		{"Pick", func(a, b []api.Run) [][]api.Run { span.Pick(a, 2); return nil }},
		{"Put", func(a, b []api.Run) [][]api.Run { return one(span.Put(a, 5)) }},
		{"Put of what is in", func(a, b []api.Run) [][]api.Run { return one(span.Put(a, 2)) }},
		{"Put of no number", func(a, b []api.Run) [][]api.Run { return one(span.Put(a, 0)) }},
		{"Drop", func(a, b []api.Run) [][]api.Run { return one(span.Drop(a, 2)) }},
		{"Drop of what isn't in", func(a, b []api.Run) [][]api.Run { return one(span.Drop(a, 100)) }},
		{"Drop of no number", func(a, b []api.Run) [][]api.Run { return one(span.Drop(a, 0)) }},
		{"Union", func(a, b []api.Run) [][]api.Run { return one(span.Union(a, b), 0) }},
		{"Union of one", func(a, b []api.Run) [][]api.Run { return one(span.Union(a), 0) }},
		{"Union with nothing", func(a, b []api.Run) [][]api.Run { return one(span.Union(nil, a), 0) }},
		{"Meet", func(a, b []api.Run) [][]api.Run { return one(span.Meet(a, b), 0) }},
		{"Meet with itself", func(a, b []api.Run) [][]api.Run { return one(span.Meet(a, a), 0) }},
		{"Minus", func(a, b []api.Run) [][]api.Run { return one(span.Minus(a, b), 0) }},
		{"Minus nothing", func(a, b []api.Run) [][]api.Run { return one(span.Minus(a, nil), 0) }},
		{"Within", func(a, b []api.Run) [][]api.Run { span.Within(a, b); return nil }},
		{"Order", func(a, b []api.Run) [][]api.Run { span.Order(a, b); return nil }},
		{"Walk", func(a, b []api.Run) [][]api.Run { exhaust(span.Walk(a)); return nil }},
		{"Show", func(a, b []api.Run) [][]api.Run { span.Show(a); return nil }},
		{"Read", func(a, b []api.Run) [][]api.Run { return one(span.Read("1..2,4..7,9")) }},
		{"Read of none", func(a, b []api.Run) [][]api.Run { return one(span.Read("none")) }},
	}
}

func exhaust(walk iter.Seq[int]) {
	for range walk {
	}
}

// roomy: the list with spare room behind it, in which there is something to lose.
func roomy(list []api.Run) []api.Run {
	room := slices.Concat(list, runs(70, 71, 80, 81, 90, 91))
	return room[:len(list)]
}

func whole(list []api.Run) []api.Run { return list[:cap(list)] }

func memoryLists() [][]api.Run {
	return [][]api.Run{
		nil, {}, runs(1, 2, 4, 7, 9, 9), runs(9, 9, 4, 7, 1, 2), runs(2, 3, 6, 8), runs(5, 4, 3, 3, 3, 9, -4, 1), runs(2, 2), runs(1, 9),
	}
}

func TestNothingHandedInIsChanged(t *testing.T) { // P1.8
	for _, c := range callers() {
		for _, x := range memoryLists() {
			for _, y := range memoryLists() {
				a, b := roomy(x), roomy(y)
				wantA, wantB := slices.Clone(whole(a)), slices.Clone(whole(b))
				for _, list := range c.call(a, b) {
					scribble(list)
				}
				if !slices.Equal(whole(a), wantA) || !slices.Equal(whole(b), wantB) {
					t.Errorf("%s: behind the call, and writes into its answer, %v, %v are %v, %v", c.name, wantA, wantB, whole(a), whole(b))
				}
			}
		}
	}
}

// scribble writes over a list and its spare room.
func scribble(list []api.Run) {
	for i := range whole(list) {
		whole(list)[i] = api.Run{Lo: -77, Hi: -78}
	}
}

func TestNoTwoAnswersShareMemory(t *testing.T) { // P1.8
	for _, c := range callers() {
		for _, x := range memoryLists() {
			a, b := roomy(x), roomy(runs(2, 4, 6, 6))
			lists := slices.Concat(c.call(a, b), c.call(a, b))
			for i, mine := range lists {
				before := make([][]api.Run, len(lists))
				for j, other := range lists {
					before[j] = slices.Clone(whole(other))
				}
				scribble(mine)
				for j, other := range lists {
					if j != i && !slices.Equal(whole(other), before[j]) {
						t.Errorf("%s: writing into the answer's list %d changes its list %d", c.name, i, j)
					}
				}
				copy(whole(mine), before[i])
			}
		}
	}
}

func TestUnionLeavesTheListOfLists(t *testing.T) { // P1.8
	spare := runs(50, 60)
	room := [][]api.Run{runs(5, 6), nil, runs(1, 2), spare}
	sets := room[:3]
	span.Union(sets...)
	if len(room[1]) != 0 || !same(room[0], runs(5, 6)) || !same(room[2], runs(1, 2)) || !same(room[3], spare) {
		t.Errorf("the list of lists is now %v", room)
	}
}

func TestWalkSharesNothing(t *testing.T) { // P1.8
	a := roomy(runs(1, 2, 4, 5))
	want := slices.Clone(whole(a))
	one, two := span.Walk(a), span.Walk(a)
	for range one {
		exhaust(two)
	}
	if !slices.Equal(whole(a), want) {
		t.Errorf("behind walks the list is %v, want %v", whole(a), want)
	}
}

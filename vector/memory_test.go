package vector_test

import (
	"slices"
	"testing"

	"barrow/api"
	"barrow/memcheck"
	"barrow/vector"
)

type region = memcheck.Region

// A caller makes a call of vector with lists and tells the memory of all that it answers.
type caller struct {
	name string
	call func(a, b []int, vs [][]int) []region
}

func callers() []caller {
	one := func(v []int) []region { return []region{memcheck.Numbers(v)} }
	put := func(v []int, rep, n int) []region { got, _ := vector.Put(v, rep, n); return one(got) }
	bump := func(v []int, rep, limit int) []region { got, _, _ := vector.Bump(v, rep, limit); return one(got) }
	read := func(s string) []region { got, _ := vector.Read(s); return one(got) }
	return []caller{
		{"Norm", func(a, b []int, vs [][]int) []region { return one(vector.Norm(a)) }},
		{"IsNorm", func(a, b []int, vs [][]int) []region { vector.IsNorm(a); return nil }},
		{"At", func(a, b []int, vs [][]int) []region { vector.At(a, 1); return nil }},
		{"Has", func(a, b []int, vs [][]int) []region { vector.Has(a, api.Dot{Rep: 1, Num: 1}); return nil }},
		{"Put", func(a, b []int, vs [][]int) []region { return put(a, 1, 9) }},
		{"Put of what is there", func(a, b []int, vs [][]int) []region { return put(a, 1, vector.At(a, 1)) }},
		{"Put behind the end", func(a, b []int, vs [][]int) []region { return put(a, len(a)%reps, 4) }},
		{"Put at no replica", func(a, b []int, vs [][]int) []region { return put(a, 16, 4) }},
		{"Put of no number", func(a, b []int, vs [][]int) []region { return put(a, 1, -4) }},
		{"Bump", func(a, b []int, vs [][]int) []region { return bump(a, 0, 100) }},
		{"Bump behind the end", func(a, b []int, vs [][]int) []region { return bump(a, len(a)%reps, 100) }},
		{"Bump at the limit", func(a, b []int, vs [][]int) []region { return bump(a, 0, 0) }},
		{"Merge", func(a, b []int, vs [][]int) []region { return one(vector.Merge(a, b)) }},
		{"Merge of one", func(a, b []int, vs [][]int) []region { return one(vector.Merge(a)) }},
		{"Merge of many", func(a, b []int, vs [][]int) []region { return one(vector.Merge(vs...)) }},
		{"Meet", func(a, b []int, vs [][]int) []region { return one(vector.Meet(a, b)) }},
		{"Meet of one", func(a, b []int, vs [][]int) []region { return one(vector.Meet(a)) }},
		{"Meet of many", func(a, b []int, vs [][]int) []region { return one(vector.Meet(vs...)) }},
		{"Order", func(a, b []int, vs [][]int) []region { vector.Order(a, b); return nil }},
		{"Compare", func(a, b []int, vs [][]int) []region { vector.Compare(a, b); return nil }},
		{"Sort", func(a, b []int, vs [][]int) []region { return memcheck.Lists(vector.Sort(vs)) }},
		{"Heads", func(a, b []int, vs [][]int) []region { got, _ := vector.Heads(vs); return memcheck.Lists(got) }},
		{"Behind", func(a, b []int, vs [][]int) []region { return []region{memcheck.Spans(vector.Behind(a, b))} }},
		{"Sum", func(a, b []int, vs [][]int) []region { vector.Sum(a); return nil }},
		{"Show", func(a, b []int, vs [][]int) []region { vector.Show(a); return nil }},
		{"Read", func(a, b []int, vs [][]int) []region { return read("a3 c12") }},
		{"Read of none", func(a, b []int, vs [][]int) []region { return read("none") }},
	}
}

// roomy: the list with spare room behind it, in which there is something to lose.
func roomy(v []int) []int { return slices.Concat(v, []int{70, 71, 72, 73})[:len(v)] }

func memoryLists() [][]int {
	return [][]int{nil, {}, {3, 0, 12}, {2, 5}, {0, 0, 0}, {1, -1, 4, 0}, repeated(5, 18), lastPlace(2), {most + 5}}
}

func memoryVectors() [][]int {
	var vs [][]int
	for _, v := range append(memoryLists(), []int{3, 0, 12}, []int{2, 5}) {
		vs = append(vs, roomy(v))
	}
	return append(vs, []int{60})[:len(vs)]
}

func TestNothingHandedInIsChanged(t *testing.T) { // P3.7
	for _, c := range callers() {
		for _, x := range memoryLists() {
			for _, y := range memoryLists() {
				a, b, vs := roomy(x), roomy(y), memoryVectors()
				given := append(memcheck.Lists(vs), memcheck.Numbers(a), memcheck.Numbers(b))
				if memcheck.Changed(given, c.call(a, b, vs)) {
					t.Errorf("%s of %v, %v: the call, or a write into its answer, changes what was handed in", c.name, x, y)
				}
			}
		}
	}
}

func TestNoTwoAnswersShareMemory(t *testing.T) { // P3.7
	for _, c := range callers() {
		for _, x := range memoryLists() {
			a, b, vs := roomy(x), roomy([]int{2, 5}), memoryVectors()
			if memcheck.Shared(slices.Concat(c.call(a, b, vs), c.call(a, b, vs))) {
				t.Errorf("%s of %v: a write into one answer changes another", c.name, x)
			}
		}
	}
}

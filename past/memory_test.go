package past_test

import (
	"slices"
	"testing"

	"barrow/api"
	"barrow/memcheck"
	"barrow/past"
)

type region = memcheck.Region

// A caller makes a call of past and tells the memory of all that it answers.
type caller struct {
	name string
	call func(a, b api.Past, dots []api.Dot) []region
}

func callers() []caller {
	told := func(dots []api.Dot, _ bool) []region { return []region{memcheck.Dots(dots)} }
	return []caller{
		{"Norm", func(a, b api.Past, dots []api.Dot) []region { return memcheck.Past(past.Norm(a)) }},
		{"IsNorm", func(a, b api.Past, dots []api.Dot) []region { past.IsNorm(a); return nil }},
		{"Of", func(a, b api.Past, dots []api.Dot) []region { return memcheck.Past(past.Of(dots)) }},
		{"Has", func(a, b api.Past, dots []api.Dot) []region { past.Has(a, dot(0, 5)); return nil }},
		{"Put", func(a, b api.Past, dots []api.Dot) []region { return memcheck.Past(past.Put(a, dot(0, 5))) }},
		{"Put of what is in", func(a, b api.Past, dots []api.Dot) []region { return memcheck.Past(past.Put(a, dot(0, 1))) }},
		{"Put of no dot", func(a, b api.Past, dots []api.Dot) []region { return memcheck.Past(past.Put(a, dot(16, 1))) }},
		{"Join", func(a, b api.Past, dots []api.Dot) []region { return memcheck.Past(past.Join(a, b)) }},
		{"Join of one", func(a, b api.Past, dots []api.Dot) []region { return memcheck.Past(past.Join(a)) }},
		{"Join with nothing", func(a, b api.Past, dots []api.Dot) []region { return memcheck.Past(past.Join(api.Past{}, a)) }},
		{"Meet", func(a, b api.Past, dots []api.Dot) []region { return memcheck.Past(past.Meet(a, b)) }},
		{"Meet with itself", func(a, b api.Past, dots []api.Dot) []region { return memcheck.Past(past.Meet(a, a)) }},
		{"Minus", func(a, b api.Past, dots []api.Dot) []region { return memcheck.Past(past.Minus(a, b)) }},
		{"Minus nothing", func(a, b api.Past, dots []api.Dot) []region { return memcheck.Past(past.Minus(a, api.Past{})) }},
		{"Within", func(a, b api.Past, dots []api.Dot) []region { past.Within(a, b); return nil }},
		{"Order", func(a, b api.Past, dots []api.Dot) []region { past.Order(a, b); return nil }},
		{"Compare", func(a, b api.Past, dots []api.Dot) []region { past.Compare(a, b); return nil }},
		{"Empty", func(a, b api.Past, dots []api.Dot) []region { past.Empty(a); return nil }},
		{"Size", func(a, b api.Past, dots []api.Dot) []region { past.Size(a); return nil }},
		{"Last", func(a, b api.Past, dots []api.Dot) []region { past.Last(a, 0); return nil }},
		{"Next", func(a, b api.Past, dots []api.Dot) []region { past.Next(a, 0, 100); return nil }},
		{"Dots", func(a, b api.Past, dots []api.Dot) []region { return told(past.Dots(a, 5)) }},
		{"Holes", func(a, b api.Past, dots []api.Dot) []region { return memcheck.Past(past.Holes(a)) }},
	}
}

// roomy: the past with spare room behind its lists, in which there is something to lose.
func roomy(p api.Past) api.Past {
	return api.Past{
		Vec:   slices.Concat(p.Vec, []int{70, 71, 72})[:len(p.Vec)],
		Cloud: slices.Concat(p.Cloud, []api.Span{sp(1, 70, 71), sp(2, 72, 73)})[:len(p.Cloud)],
	}
}

func roomyDots() []api.Dot {
	room := []api.Dot{dot(1, 3), dot(0, 2), dot(1, 3), dot(-1, 1), dot(0, 1), dot(2, 2), dot(3, 70), dot(3, 71)}
	return room[:6]
}

func memoryPasts() []api.Past { return append(edges(), samples(20)[len(edges()):]...) }

func TestNothingHandedInIsChanged(t *testing.T) { // R7
	for _, c := range callers() {
		for _, x := range memoryPasts() {
			for _, y := range memoryPasts() {
				a, b, dots := roomy(x), roomy(y), roomyDots()
				given := append(slices.Concat(memcheck.Past(a), memcheck.Past(b)), memcheck.Dots(dots))
				if memcheck.Changed(given, c.call(a, b, dots)) {
					t.Errorf("%s of %v, %v: the call, or a write into its answer, changes what was handed in", c.name, x, y)
				}
			}
		}
	}
}

func TestNoTwoAnswersShareMemory(t *testing.T) { // R7
	for _, c := range callers() {
		for _, x := range memoryPasts() {
			a, b, dots := roomy(x), roomy(example()), roomyDots()
			if memcheck.Shared(slices.Concat(c.call(a, b, dots), c.call(a, b, dots))) {
				t.Errorf("%s of %v: a write into one answer changes another", c.name, x)
			}
		}
	}
}

func TestJoinLeavesTheListOfPasts(t *testing.T) { // R7
	room := []api.Past{pa([]int{3}), {}, pa([]int{1, 2}, sp(2, 5, 6)), pa([]int{9})}
	want := []api.Past{pa([]int{3}), {}, pa([]int{1, 2}, sp(2, 5, 6)), pa([]int{9})}
	past.Join(room[:3]...)
	if !slices.EqualFunc(room, want, same) {
		t.Errorf("the list of pasts is now %v", room)
	}
}

package audit_test

import (
	"slices"
	"strings"
	"testing"

	"barrow/api"
	"barrow/audit"
	"barrow/sample"
	"barrow/swot"
)

func TestMeasure(t *testing.T) { // P27.1
	for _, s := range anyStates(3000) {
		got, err := audit.Measure(s)
		if swot.Check(s) != api.OK {
			if got != (api.Size{}) || err != api.ErrForm {
				t.Errorf("Measure(%v) = %v, %d", s, got, err)
			}
			continue
		}
		if want := size(s); got != want || err != api.OK {
			t.Errorf("Measure(%v) = %v, %d, want %v", s, got, err, want)
		}
	}
}

// example is the state of the chapter's second example.
func example() api.Swot {
	return api.Swot{Live: es(en(0, 1, "A", 5), en(0, 3, "AB", 1)), Past: pa([]int{1}, sp(0, 3, 3)), Defer: rs(re("B", []int{2}))}
}

func TestMeasureExamples(t *testing.T) { // P27.1
	for _, c := range []struct {
		s    api.Swot
		want api.Size
		err  api.Errno
	}{
		{example(), api.Size{Bytes: 28, Live: 2, Skus: 3, Holes: 1, Waits: 1}, api.OK},
		{api.Swot{}, api.Size{Bytes: 8}, api.OK},
		{api.Swot{Live: es(en(0, 1, "A", 5)), Past: pa([]int{1})}, api.Size{Bytes: 14, Live: 1, Skus: 1}, api.OK},
		{api.Swot{Past: pa(nil, sp(0, 2, 3), sp(0, 5, 5), sp(15, 2, 2))}, api.Size{Bytes: 17, Holes: 3}, api.OK},
		{api.Swot{Past: pa([]int{0})}, api.Size{}, api.ErrForm},
		{api.Swot{Live: es(en(0, 1, "A", 5))}, api.Size{}, api.ErrForm},
	} {
		if got, err := audit.Measure(c.s); got != c.want || err != c.err {
			t.Errorf("Measure(%v) = %v, %d, want %v, %d", c.s, got, err, c.want, c.err)
		}
	}
}

func TestBound(t *testing.T) { // P27.2
	for _, c := range []struct {
		reps int
		z    api.Size
		want int
	}{
		{2, api.Size{Live: 1, Skus: 3}, 44}, {1, api.Size{}, 26}, {0, api.Size{}, 26}, {-1, api.Size{}, 26}, {leastInt, api.Size{}, 26}, {16, api.Size{}, 101}, {17, api.Size{}, 101}, {greatInt, api.Size{}, 101},
		{3, api.Size{Live: -1, Skus: -1}, 36}, {3, api.Size{Live: leastInt, Skus: 7}, 43}, {3, api.Size{Live: 7, Skus: leastInt}, 106},
		// Nothing else counts.
		{1, api.Size{Bytes: 5, Holes: 6, Waits: 7}, 26}, {1, api.Size{Bytes: -5, Holes: greatInt, Waits: leastInt}, 26},
		// It wraps round.
		{1, api.Size{Skus: greatInt}, leastInt + 25}, {1, api.Size{Live: 1 << 60}, leastInt + 1<<61 + 26}, {1, api.Size{Live: greatInt}, 16}, {1, api.Size{Live: greatInt, Skus: greatInt}, leastInt + 15}, {1, api.Size{Live: 922337203685477581}, leastInt + 28},
	} {
		if got := audit.Bound(c.reps, c.z); got != c.want {
			t.Errorf("Bound(%d, %v) = %d, want %d", c.reps, c.z, got, c.want)
		}
	}
	dice := newDice()
	for range 2000 {
		reps, z := dice.IntN(30)-5, api.Size{Bytes: dice.Int(), Live: dice.IntN(100) - 20, Skus: dice.IntN(1000) - 200, Holes: dice.Int(), Waits: dice.Int()}
		if got := audit.Bound(reps, z); got != bound(reps, z) {
			t.Errorf("Bound(%d, %v) = %d, want %d", reps, z, got, bound(reps, z))
		}
	}
}

// settled is the chapter's word.
func settled(reps int, s api.Swot) bool {
	if swot.Check(s) != api.OK {
		return false
	}
	z := size(s)
	return len(s.Past.Cloud) == 0 && len(s.Defer) == 0 && z.Bytes <= bound(reps, z)
}

func TestSettled(t *testing.T) { // P27.2
	answers := map[bool]int{}
	for _, s := range anyStates(3000) {
		for _, reps := range []int{leastInt, -1, 0, 1, 2, 3, 5, 15, 16, 17, greatInt} {
			got := audit.Settled(reps, s)
			answers[got]++
			if got != settled(reps, s) {
				t.Errorf("Settled(%d, %v) = %t", reps, s, got)
			}
		}
	}
	if answers[true] < 100 || answers[false] < 100 {
		t.Errorf("settled, and not: %v", answers)
	}
}

func TestSettledExamples(t *testing.T) { // P27.2
	one := es(en(0, 1, "A", 5))
	for _, c := range []struct {
		reps int
		s    api.Swot
		want bool
	}{
		{1, api.Swot{}, true}, {2, api.Swot{Live: one, Past: pa([]int{1})}, true}, {2, example(), false}, {2, api.Swot{Live: one}, false}, {2, api.Swot{Past: pa([]int{0})}, false},
		{16, api.Swot{Past: pa(nil, sp(0, 2, 2))}, false}, {16, api.Swot{Defer: rs(re("A", []int{1}))}, false}, {0, api.Swot{}, true}, {99, api.Swot{}, true},
		// Just the bound, which is 26: of the past's 16 places 14 take a byte, and two of them two. With a third one of two it is broken.
		{1, api.Swot{Past: pa(append(slices.Repeat([]int{127}, 14), 128, 128))}, true}, {1, api.Swot{Past: pa(append(slices.Repeat([]int{127}, 13), 128, 128, 128))}, false},
		// With more places than replicas the bound may be broken: 16 places of five bytes, and the bound is 26.
		{1, api.Swot{Past: pa(slices.Repeat([]int{api.MaxNum}, 16))}, false}, {11, api.Swot{Past: pa(slices.Repeat([]int{api.MaxNum}, 16))}, false}, {16, api.Swot{Past: pa(slices.Repeat([]int{api.MaxNum}, 16))}, true},
	} {
		if got := audit.Settled(c.reps, c.s); got != c.want {
			t.Errorf("Settled(%d, %v) = %t", c.reps, c.s, got)
		}
	}
}

// widest: a state whose numbers are as long as they can be.
func widest(reps, entries, skuLen int) api.Swot {
	s := api.Swot{Past: pa(slices.Repeat([]int{api.MaxNum}, reps))}
	for i := range entries {
		s.Live = append(s.Live, en(i*reps/entries, api.MaxNum-entries+i, strings.Repeat("Z", skuLen), api.MaxQty))
	}
	return s
}

func TestWhatHasNoHolesAndNoWaitsIsSettled(t *testing.T) { // P27.2, P6
	var all []api.Swot
	for reps := range 17 {
		for _, entries := range []int{0, 1, 12, 13, 127, 128, 2000} {
			if reps > 0 || entries == 0 {
				all = append(all, widest(reps, entries, 1), widest(reps, entries, 24))
			}
		}
	}
	for _, s := range sample.Swots(newDice().IntN, 6000) {
		if len(s.Past.Cloud) == 0 && len(s.Defer) == 0 {
			all = append(all, s)
		}
	}
	for _, s := range all {
		for reps := max(len(s.Past.Vec), 1); reps <= 16; reps++ {
			if !audit.Settled(reps, s) {
				z, err := audit.Measure(s)
				t.Errorf("a state of %d replicas isn't settled: %v %d, bound %d", reps, z, err, audit.Bound(reps, z))
			}
		}
	}
	if len(all) < 450 {
		t.Errorf("only %d states", len(all))
	}
}

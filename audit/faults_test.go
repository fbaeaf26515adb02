package audit_test

import (
	"fmt"
	"slices"
	"strings"
	"testing"

	"barrow/api"
	"barrow/audit"
	"barrow/sample"
	"barrow/swot"
)

func checkFaults(t *testing.T, s api.Swot) []int {
	t.Helper()
	got, want := audit.Faults(s), faults(s)
	if !slices.Equal(got, want) {
		t.Errorf("Faults(%v) = %v, want %v", s, got, want)
	}
	if in := swot.Check(s) == api.OK; in != (len(got) == 0) {
		t.Errorf("Faults(%v) = %v, in form: %t", s, got, in)
	}
	return got
}

func TestFaults(t *testing.T) { // P27.1
	seen := map[string]int{}
	for _, s := range anyStates(20000) {
		seen[fmt.Sprint(checkFaults(t, s))]++
	}
	// Nothing, and each rule by itself; 5 is broken alone by a SKU that is none, 7 by a record that ended its waiting.
	for _, alone := range []string{"[]", "[1]", "[2]", "[3]", "[4]", "[5]", "[6]", "[7]", "[8]"} {
		if seen[alone] == 0 {
			t.Errorf("no state breaks %s", alone)
		}
	}
	if len(seen) < 60 {
		t.Errorf("only %d kinds of states", len(seen))
	}
}

func TestFaultsExamples(t *testing.T) { // P27.1
	a, far := en(0, 1, "A", 5), pa([]int{9})
	for _, c := range []struct {
		s    api.Swot
		want []int
	}{
		{api.Swot{}, nil},
		{api.Swot{Live: es(a, a), Past: pa([]int{1})}, []int{2}},
		{api.Swot{Live: es(en(0, 1, "a", 0))}, []int{1, 4}},
		{api.Swot{Past: pa([]int{1, 0})}, []int{3}},
		{api.Swot{Past: pa([]int{2}), Defer: rs(re("A", []int{1}))}, []int{7}},
		{api.Swot{Live: es(a), Past: pa([]int{1}), Defer: rs(re("a", []int{2}), re("", []int{3}))}, []int{5, 6, 8}},

		// What is no dot is in no past, and no record covers it.
		{api.Swot{Live: es(en(0, 0, "A", 1)), Past: far}, []int{1, 4}}, {api.Swot{Live: es(en(16, 1, "A", 1)), Past: pa(slices.Repeat([]int{9}, 17))}, []int{1, 3, 4}}, {api.Swot{Live: es(en(-1, 1, "A", 1)), Past: pa(nil, sp(-1, 1, 9))}, []int{1, 3, 4}},
		{api.Swot{Live: es(en(0, api.MaxNum+1, "A", 1)), Past: pa([]int{greatInt}), Defer: rs(re("", []int{greatInt, greatInt}))}, []int{1, 3, 4, 5}}, {api.Swot{Live: es(en(leastInt, greatInt, "A", 1), en(greatInt, leastInt, "A", 1)), Past: far}, []int{1, 4}},
		// The dots rise by Rep, then by Num, whatever else they are.
		{api.Swot{Live: es(en(-5, 7, "A", 1), en(-5, 8, "A", 1), en(0, -3, "A", 1))}, []int{1, 4}}, {api.Swot{Live: es(en(0, 7, "A", 1), en(-1, 8, "A", 1)), Past: far}, []int{1, 2, 4}}, {api.Swot{Live: es(en(0, 2, "A", 1), en(0, 1, "A", 1)), Past: far}, []int{2}}, {api.Swot{Live: es(en(0, 1, "A", 1), en(0, 1, "B", 1)), Past: far}, []int{2}},
		// Past as a set.
		{api.Swot{Live: es(a), Past: pa(nil, sp(0, 1, 1))}, []int{3}}, {api.Swot{Live: es(a), Past: pa([]int{1, -4})}, []int{3}}, {api.Swot{Live: es(en(0, 3, "A", 1)), Past: pa([]int{1}, sp(0, 5, 2), sp(0, 2, 3))}, []int{3}}, {api.Swot{Live: es(a), Past: pa(nil, sp(0, 2, 9))}, []int{4}},
		{api.Swot{Past: pa(nil, sp(0, 2, 2), sp(0, 1, 1)), Defer: rs(re("A", []int{2}))}, []int{3, 7}}, {api.Swot{Past: pa([]int{2}), Defer: rs(re("A", nil, sp(0, 2, 2), sp(0, 1, 1)))}, []int{5, 7}}, {api.Swot{Past: pa([]int{1}), Defer: rs(re("A", nil, sp(0, 2, 2), sp(0, 1, 1)))}, []int{5}},
		// An empty past is within every one.
		{api.Swot{Defer: rs(re("A", nil))}, []int{5, 7}}, {api.Swot{Defer: rs(re("", []int{0, -1}))}, []int{5, 7}}, {api.Swot{Past: far, Defer: rs(re("A", nil, sp(0, 12, 11)))}, []int{5, 7}}, {api.Swot{Defer: rs(re("A", nil, sp(16, 1, 5)))}, []int{5, 7}},
		{api.Swot{Past: far, Defer: rs(re("a", []int{9}))}, []int{5, 7}}, {api.Swot{Past: far, Defer: rs(re("a", []int{10}))}, []int{5}}, {api.Swot{Defer: rs(re("A", []int{2}), re("B", nil))}, []int{5, 7}}, {api.Swot{Past: far, Defer: rs(re("A", []int{10}), re("B", []int{9}))}, []int{7}},
		// The order of records that aren't in form: SKUs by their bytes, pasts as sets.
		{api.Swot{Defer: rs(re("\xff", []int{1}), re("a", []int{1}))}, []int{5, 6}}, {api.Swot{Defer: rs(re("a", []int{1}), re("\xff", []int{1}))}, []int{5}}, {api.Swot{Defer: rs(re("B", []int{1}), re("A", []int{2}))}, []int{6}}, {api.Swot{Defer: rs(re("A", []int{2}), re("A", []int{1}))}, []int{6}},
		{api.Swot{Defer: rs(re("A", []int{1}), re("A", nil, sp(0, 1, 1)))}, []int{5, 6}}, {api.Swot{Defer: rs(re("A", []int{1}), re("A", []int{1}))}, []int{6}}, {api.Swot{Defer: rs(re("A", []int{1}), re("A", nil, sp(0, 1, 2)))}, []int{5}},
		// What records cover that aren't in form, and entries that aren't.
		{api.Swot{Live: es(en(0, 1, "a", 1)), Past: pa([]int{1}), Defer: rs(re("a", []int{2}))}, []int{1, 5, 8}}, {api.Swot{Live: es(en(0, 1, "", 1)), Past: pa([]int{1}), Defer: rs(re("A", []int{2}))}, []int{1}}, {api.Swot{Live: es(en(0, 1, "", 1)), Past: pa([]int{1}), Defer: rs(re("", []int{2}))}, []int{1, 8}},
		{api.Swot{Live: es(a), Past: pa([]int{1}), Defer: rs(re("A", nil, sp(0, 2, 3), sp(0, 0, 1)))}, []int{5, 8}}, {api.Swot{Live: es(a), Past: pa([]int{1}), Defer: rs(re("AB", []int{2}))}, nil}, {api.Swot{Live: es(a), Defer: rs(re("A", []int{1}))}, []int{4, 8}}, {api.Swot{Live: es(a), Past: pa([]int{1}), Defer: rs(re("A", []int{1}))}, []int{7, 8}},
		{api.Swot{Live: es(en(0, 1, "A", 1), en(1, 1, "B", 1)), Past: pa([]int{1, 1}), Defer: rs(re("A", []int{0, 5}), re("B", []int{5}))}, nil}, {api.Swot{Live: es(en(0, 1, "A", 1), en(1, 1, "B", 1)), Past: pa([]int{1, 1}), Defer: rs(re("A", []int{0, 5}), re("B", []int{5, 1}))}, []int{8}},
		// All of them.
		{api.Swot{Live: es(en(1, 1, "A", 0), en(0, 1, "A", 1)), Past: pa([]int{1, 0}), Defer: rs(re("A", []int{1}), re("", nil))}, []int{1, 2, 3, 4, 5, 6, 7, 8}},
	} {
		if got := checkFaults(t, c.s); !slices.Equal(got, c.want) {
			t.Errorf("Faults(%v) = %v, want %v", c.s, got, c.want)
		}
	}
}

func TestFaultsOfEachWrongPart(t *testing.T) { // P27.1
	most := pa(slices.Repeat([]int{api.MaxNum}, 16))
	for _, w := range sample.WrongEntries() {
		if got := checkFaults(t, api.Swot{Live: es(w.Value), Past: most}); !slices.Contains(got, 1) {
			t.Errorf("the entry %v breaks %v", w.Value, got)
		}
	}
	for _, p := range sample.WrongPasts() {
		if got := checkFaults(t, api.Swot{Past: p}); !slices.Equal(got, []int{3}) {
			t.Errorf("the past %v breaks %v", p, got)
		}
	}
	for _, w := range sample.WrongRecords() {
		if got := checkFaults(t, api.Swot{Defer: rs(w.Value)}); !slices.Contains(got, 5) {
			t.Errorf("the record %v breaks %v", w.Value, got)
		}
	}
}

// A state with very many of all: each rule is asked of the last ones too.
func TestFaultsOfVeryMany(t *testing.T) { // P27.1
	const many = 4000
	var s api.Swot
	for i := 1; i <= many; i++ {
		s.Live = append(s.Live, en(3, 2*i, "A"+strings.Repeat("0", i%20), 1))
		s.Past.Cloud = append(s.Past.Cloud, sp(3, 2*i, 2*i))
		s.Defer = append(s.Defer, re("B", []int{i}))
	}
	if got := audit.Faults(s); len(got) != 0 {
		t.Fatalf("Faults = %v", got)
	}
	last := s
	last.Live = append(slices.Clone(s.Live), en(3, 2*many+1, "A", 1))
	if got := audit.Faults(last); !slices.Equal(got, []int{4}) {
		t.Errorf("with an add that wasn't heard of: %v", got)
	}
	last = s
	last.Defer = append(slices.Clone(s.Defer), re("C", nil, sp(3, 2*many, 2*many)))
	if got := audit.Faults(last); !slices.Equal(got, []int{7}) {
		t.Errorf("with a record that waits for nothing: %v", got)
	}
	last.Defer = append(slices.Clone(s.Defer), re(s.Live[many-1].Sku+"0", []int{1, 0, 0, 2 * many}), re(s.Live[many-1].Sku, []int{1, 0, 0, 2 * many}))
	if got := audit.Faults(last); !slices.Equal(got, []int{6, 8}) {
		t.Errorf("with a record that covers the last entry: %v", got)
	}
}

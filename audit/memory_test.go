package audit_test

import (
	"slices"
	"testing"

	"barrow/api"
	"barrow/audit"
	"barrow/known"
	"barrow/memcheck"
	"barrow/sample"
)

type region = memcheck.Region

func TestStatesAreNotChanged(t *testing.T) { // R7
	for _, s := range anyStates(2000) {
		mine := sample.RoomySwot(s)
		before := memcheck.Swot(mine)
		one, two := memcheck.Numbers(audit.Faults(mine)), memcheck.Numbers(audit.Faults(mine))
		audit.Measure(mine)
		audit.Settled(3, mine)
		if memcheck.Changed(before, nil) {
			t.Errorf("a call changes the state %v", s)
		}
		if memcheck.Shared(append([]region{one, two}, before...)) {
			t.Errorf("a write into what Faults(%v) answers changes another, or the state", s)
		}
		if got, want := audit.Faults(s), faults(s); !slices.Equal(got, want) {
			t.Errorf("behind writes into answers Faults(%v) = %v, want %v", s, got, want)
		}
	}
}

func TestScriptsAreNewMemory(t *testing.T) { // R7
	dice := newDice()
	for range 40 {
		s := known.Thrown(dice.IntN, anyHead(dice), dice.IntN(80))
		mine := sample.RoomyScript(s)
		given := memcheck.Ops(mine.Ops)
		one, two := audit.Script(mine), audit.Script(mine)
		if memcheck.Changed([]region{given}, nil) {
			t.Errorf("Script changes the script")
		}
		if memcheck.Shared(slices.Concat(memcheck.SizeLists(one), memcheck.SizeLists(two), []region{given})) {
			t.Errorf("a write into an answer changes another, or the script")
		}
		three := memcheck.SizeLists(audit.Script(s))
		if memcheck.Changed(three, []region{given}) {
			t.Errorf("Script keeps the script")
		}
		if got, want := audit.Script(s), sizes(known.Played(s)); !same(got, want) {
			t.Errorf("behind writes into answers Script = %v, want %v", got, want)
		}
	}
}

func TestEmptyListsMeanTheSame(t *testing.T) { // R2, R9
	empty := api.Swot{Live: []api.Entry{}, Past: pa([]int{}, []api.Span{}...), Defer: []api.Record{}}
	z, err := audit.Measure(empty)
	if len(audit.Faults(empty)) != 0 || z != (api.Size{Bytes: 8}) || err != api.OK || !audit.Settled(1, empty) {
		t.Errorf("the empty state: %v, %v, %d", audit.Faults(empty), z, err)
	}
}

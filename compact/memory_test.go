package compact_test

import (
	"slices"
	"testing"

	"barrow/api"
	"barrow/compact"
	"barrow/memcheck"
	"barrow/sample"
)

type region = memcheck.Region

// given is what the calls of compact are handed.
type given struct {
	f api.Facts
	s api.Swot
}

func (g given) roomy() given { return given{sample.RoomyFacts(g.f), sample.RoomySwot(g.s)} }

func (g given) memory() []region { return slices.Concat(memcheck.Facts(g.f), memcheck.Swot(g.s)) }

// A caller makes a call of compact and tells the memory of all that it answers.
type caller struct {
	name string
	call func(g given) []region
}

func callers() []caller {
	told := func(f api.Facts, _ api.Errno) []region { return memcheck.Facts(f) }
	toldState := func(s api.Swot, _ api.Errno) []region { return memcheck.Swot(s) }
	toldStory := func(list []api.Fate, _ api.Errno) []region { return []region{memcheck.Fates(list)} }
	return []caller{
		{"Compact", func(g given) []region { return toldState(compact.Compact(g.f)) }},
		{"Compact of adds alone", func(g given) []region { return toldState(compact.Compact(api.Facts{Adds: g.f.Adds})) }},
		{"Compact of what is gone alone", func(g given) []region { return toldState(compact.Compact(api.Facts{Gone: g.f.Gone})) }},
		{"Compact of records alone", func(g given) []region { return toldState(compact.Compact(api.Facts{Recs: g.f.Recs})) }},
		{"Expand", func(g given) []region { return told(compact.Expand(g.s)) }},
		{"Expand of a past alone", func(g given) []region { return told(compact.Expand(api.Swot{Past: g.s.Past})) }},
		{"Expand of records alone", func(g given) []region { return told(compact.Expand(api.Swot{Defer: g.s.Defer})) }},
		{"Same", func(g given) []region { compact.Same(g.f, g.s); return nil }},
		{"Fate", func(g given) []region { compact.Fate(g.f, dot(0, 1)); return nil }},
		{"Story", func(g given) []region { return toldStory(compact.Story(g.f, "A")) }},
		{"Spent", func(g given) []region { compact.Spent(g.f); return nil }},
		{"Prune", func(g given) []region { return told(compact.Prune(g.f)) }},
		{"Prune of adds alone", func(g given) []region { return told(compact.Prune(api.Facts{Adds: g.f.Adds})) }},
		{"Prune of what is gone alone", func(g given) []region { return told(compact.Prune(api.Facts{Gone: g.f.Gone})) }},
		{"Prune of records alone", func(g given) []region { return told(compact.Prune(api.Facts{Recs: g.f.Recs})) }},
	}
}

// manyGiven: facts of all kinds, with their own state beside them, or with another one.
func manyGiven() []given {
	facts := append(mixed(200), sample.WrongFacts()[:20]...)
	states := append(sample.Swots(newDice().IntN, 100), sample.WrongSwots()[:20]...)
	var all []given
	for i, f := range facts {
		all = append(all, given{f, states[i%len(states)]}, given{f, sample.State(f)})
	}
	return all
}

func TestNothingHandedInIsChanged(t *testing.T) { // R7
	all := manyGiven()
	for _, c := range callers() {
		for _, g := range all {
			mine := g.roomy()
			before := mine.memory()
			if memcheck.Changed(before, c.call(mine)) {
				t.Errorf("%s of %v: the call, or a write into its answer, changes what was handed in", c.name, g)
			}
		}
	}
}

func TestNoTwoAnswersShareMemory(t *testing.T) { // R7
	all := manyGiven()
	for _, c := range callers() {
		for _, g := range all {
			mine := g.roomy()
			if memcheck.Shared(slices.Concat(c.call(mine), c.call(mine))) {
				t.Errorf("%s of %v: a write into one answer changes another", c.name, g)
			}
		}
	}
}

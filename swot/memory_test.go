package swot_test

import (
	"slices"
	"testing"

	"barrow/api"
	"barrow/memcheck"
	"barrow/sample"
	"barrow/swot"
)

type region = memcheck.Region

// given is what the calls of swot are handed.
type given struct {
	a, b api.Swot
	f    api.Facts
}

func (g given) roomy() given {
	return given{sample.RoomySwot(g.a), sample.RoomySwot(g.b), sample.RoomyFacts(g.f)}
}

func (g given) memory() []region {
	return slices.Concat(memcheck.Swot(g.a), memcheck.Swot(g.b), memcheck.Facts(g.f))
}

// A caller makes a call of swot and tells the memory of all that it answers.
type caller struct {
	name string
	call func(g given) []region
}

func callers() []caller {
	told := func(s api.Swot, _ api.Errno) []region { return memcheck.Swot(s) }
	return []caller{
		{"Check", func(g given) []region { swot.Check(g.a); return nil }},
		{"Event", func(g given) []region { return told(swot.Event(g.f)) }},
		{"Join", func(g given) []region { return told(swot.Join(g.a, g.b)) }},
		{"Join with nothing", func(g given) []region { return told(swot.Join(g.a, api.Swot{})) }},
		{"Join of nothing", func(g given) []region { return told(swot.Join(api.Swot{}, g.b)) }},
		{"Join with itself", func(g given) []region { return told(swot.Join(g.a, g.a)) }},
		{"Live", func(g given) []region {
			list, _ := swot.Live(g.a)
			return []region{memcheck.Entries(list)}
		}},
		{"Past", func(g given) []region { p, _ := swot.Past(g.a); return memcheck.Past(p) }},
		{"Within", func(g given) []region { swot.Within(g.a, g.b); return nil }},
		{"Order", func(g given) []region { swot.Order(g.a, g.b); return nil }},
		{"Knows", func(g given) []region { swot.Knows(g.a, api.Dot{Rep: 0, Num: 1}); return nil }},
	}
}

// manyGiven: states of all kinds, two and two, with facts beside them.
func manyGiven(t *testing.T) []given {
	t.Helper()
	dice := newDice()
	states := slices.Concat(mixed(60), alike(t, 60), sample.WrongSwots()[:20])
	facts := manyFacts()
	var all []given
	for i := range facts {
		all = append(all, given{states[i%len(states)], states[dice.IntN(len(states))], facts[i]})
	}
	return all
}

func TestNothingHandedInIsChanged(t *testing.T) { // R7
	all := manyGiven(t)
	for _, c := range callers() {
		for _, g := range all {
			mine := g.roomy()
			before := mine.memory()
			if memcheck.Changed(before, c.call(mine)) {
				t.Errorf("%s of %v: the call, or a write into its answer, changes what was handed in", c.name, g)
			}
		}
	}
}

func TestNoTwoAnswersShareMemory(t *testing.T) { // R7
	all := manyGiven(t)
	for _, c := range callers() {
		for _, g := range all {
			mine := g.roomy()
			if memcheck.Shared(slices.Concat(c.call(mine), c.call(mine))) {
				t.Errorf("%s of %v: a write into one answer changes another", c.name, g)
			}
		}
	}
}

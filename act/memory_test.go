package act_test

import (
	"slices"
	"testing"

	"barrow/act"
	"barrow/api"
	"barrow/memcheck"
	"barrow/sample"
)

type region = memcheck.Region

func (g given) roomy() given {
	g.live, g.seen, g.act.Past = sample.RoomyEntries(g.live), sample.RoomyPast(g.seen), sample.RoomyPast(g.act.Past)
	return g
}

func (g given) memory() []region {
	return slices.Concat([]region{memcheck.Entries(g.live)}, memcheck.Past(g.seen), memcheck.Past(g.act.Past))
}

// A caller makes a call of act and tells the memory of all that it answers.
type caller struct {
	name string
	call func(g given, f api.Facts) []region
}

func callers() []caller {
	told := func(f api.Facts, _ api.Errno) []region { return memcheck.Facts(f) }
	kept := func(list []api.Entry, _ api.Errno) []region { return []region{memcheck.Entries(list)} }
	return []caller{
		{"Check", func(g given, f api.Facts) []region { act.Check(g.act); return nil }},
		{"Next", func(g given, f api.Facts) []region { act.Next(g.seen, g.rep, 9); return nil }},
		{"Decide", func(g given, f api.Facts) []region { return told(decide(g)) }},
		{"Empty", func(g given, f api.Facts) []region { act.Empty(f); return nil }},
		{"Event", func(g given, f api.Facts) []region { act.Event(f); return nil }},
		{"Effect", func(g given, f api.Facts) []region { return kept(act.Effect(g.live, f)) }},
		{"Effect of nothing", func(g given, f api.Facts) []region { return kept(act.Effect(g.live, api.Facts{})) }},
		{"Effect on nothing", func(g given, f api.Facts) []region { return kept(act.Effect(nil, f)) }},
	}
}

// manyGiven: decisions of all kinds, each with facts: its own event, or others.
func manyGiven() ([]given, []api.Facts) {
	dice := newDice()
	all := decisions()[:2000]
	others := facts()
	var beside []api.Facts
	for i, g := range all {
		f, _ := decide(g)
		if i%3 == 0 {
			f = pick(dice, others)
		}
		beside = append(beside, f)
	}
	return all, beside
}

func TestNothingHandedInIsChanged(t *testing.T) { // R7
	all, beside := manyGiven()
	for _, c := range callers() {
		for i := range all {
			g, f := all[i].roomy(), sample.RoomyFacts(beside[i])
			before := slices.Concat(g.memory(), memcheck.Facts(f))
			if memcheck.Changed(before, c.call(g, f)) {
				t.Errorf("%s of %v, %v: the call, or a write into its answer, changes what was handed in", c.name, all[i], beside[i])
			}
		}
	}
}

func TestNoTwoAnswersShareMemory(t *testing.T) { // R7
	all, beside := manyGiven()
	for _, c := range callers() {
		for i := range all {
			g, f := all[i].roomy(), sample.RoomyFacts(beside[i])
			if memcheck.Shared(slices.Concat(c.call(g, f), c.call(g, f))) {
				t.Errorf("%s of %v, %v: a write into one answer changes another", c.name, all[i], beside[i])
			}
		}
	}
}

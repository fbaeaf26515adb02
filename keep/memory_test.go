package keep_test

import (
	"slices"
	"testing"

	"barrow/api"
	"barrow/keep"
	"barrow/memcheck"
	"barrow/sample"
)

type region = memcheck.Region

// given is what the calls of keep are handed.
type given struct {
	a, b   []api.Record
	es, fs []api.Entry
	p, q   api.Past
}

func (g given) roomy() given {
	return given{sample.RoomyRecords(g.a), sample.RoomyRecords(g.b), sample.RoomyEntries(g.es), sample.RoomyEntries(g.fs), sample.RoomyPast(g.p), sample.RoomyPast(g.q)}
}

func (g given) memory() []region {
	return slices.Concat(memcheck.Records(g.a), memcheck.Records(g.b), []region{memcheck.Entries(g.es), memcheck.Entries(g.fs)}, memcheck.Past(g.p), memcheck.Past(g.q))
}

// A caller makes a call of keep and tells the memory of all that it answers.
type caller struct {
	name string
	call func(g given) []region
}

func callers() []caller {
	told := func(list []api.Record, _ api.Errno) []region { return memcheck.Records(list) }
	kept := func(list []api.Entry, _ api.Errno) []region { return []region{memcheck.Entries(list)} }
	each := func(g given, call func(r api.Record)) []region {
		for _, r := range slices.Concat(g.a, g.b) {
			call(r)
		}
		return nil
	}
	return []caller{
		{"CheckRecord", func(g given) []region { return each(g, func(r api.Record) { keep.CheckRecord(r) }) }},
		{"Check", func(g given) []region { keep.Check(g.a); return nil }},
		{"Compare", func(g given) []region { return each(g, func(r api.Record) { keep.Compare(r, re("A", []int{1})) }) }},
		{"Sort", func(g given) []region { return told(keep.Sort(g.a)) }},
		{"Sort of each twice", func(g given) []region { return told(keep.Sort(slices.Concat(g.a, g.a))) }},
		{"Union", func(g given) []region { return told(keep.Union(g.a, g.b)) }},
		{"Union with nothing", func(g given) []region { return told(keep.Union(g.a, nil)) }},
		{"Union of nothing", func(g given) []region { return told(keep.Union(nil, g.a)) }},
		{"Union with itself", func(g given) []region { return told(keep.Union(g.a, g.a)) }},
		{"Covers", func(g given) []region { return each(g, func(r api.Record) { keep.Covers(r, en(1, 2, "A", 1)) }) }},
		{"Bars", func(g given) []region { keep.Bars(g.a, en(1, 2, "A", 1)); return nil }},
		{"Fold", func(g given) []region { return told(keep.Fold(g.a)) }},
		{"Apply", func(g given) []region { return kept(keep.Apply(g.es, g.a)) }},
		{"Apply of no records", func(g given) []region { return kept(keep.Apply(g.es, nil)) }},
		{"Waits", func(g given) []region { return told(keep.Waits(g.a, g.p)) }},
		{"Waits at nothing", func(g given) []region { return told(keep.Waits(g.a, api.Past{})) }},
		{"Merge", func(g given) []region { return kept(keep.Merge(g.es, g.p, g.fs, g.q)) }},
		{"Merge with nothing", func(g given) []region { return kept(keep.Merge(g.es, g.p, nil, api.Past{})) }},
		{"Merge of nothing", func(g given) []region { return kept(keep.Merge(nil, api.Past{}, g.es, g.p)) }},
	}
}

// manyGiven: all kinds of arguments, thrown together.
func manyGiven() []given {
	dice := newDice()
	records := slices.Concat(lists(40), sample.WrongRecordLists()[:4], mixedLists()[len(sample.WrongRecordLists()):][:30])
	entries := slices.Concat(sample.AlikeEntryLists(dice.IntN, 40), sample.EdgeEntryLists(), sample.WrongEntryLists()[:3])
	contexts := slices.Concat(pasts(20), sample.WrongPasts()[:3])
	var all []given
	for _, a := range records {
		for range 6 {
			all = append(all, given{
				a, records[dice.IntN(len(records))],
				entries[dice.IntN(len(entries))], entries[dice.IntN(len(entries))],
				contexts[dice.IntN(len(contexts))], contexts[dice.IntN(len(contexts))],
			})
		}
	}
	return all
}

func TestNothingHandedInIsChanged(t *testing.T) { // R7
	for _, c := range callers() {
		for _, g := range manyGiven() {
			mine := g.roomy()
			before := mine.memory()
			if memcheck.Changed(before, c.call(mine)) {
				t.Errorf("%s of %v: the call, or a write into its answer, changes what was handed in", c.name, g)
			}
		}
	}
}

func TestNoTwoAnswersShareMemory(t *testing.T) { // R7
	for _, c := range callers() {
		for _, g := range manyGiven() {
			mine := g.roomy()
			if memcheck.Shared(slices.Concat(c.call(mine), c.call(mine))) {
				t.Errorf("%s of %v: a write into one answer changes another", c.name, g)
			}
		}
	}
}

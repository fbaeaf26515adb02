package pack_test

import (
	"slices"
	"testing"

	"barrow/api"
	"barrow/memcheck"
	"barrow/pack"
	"barrow/sample"
)

type region = memcheck.Region

// given is what the calls of pack are handed.
type given struct {
	p    api.Past
	es   []api.Entry
	recs []api.Record
	b    []byte
}

func (g given) roomy() given {
	return given{sample.RoomyPast(g.p), sample.RoomyEntries(g.es), sample.RoomyRecords(g.recs), sample.RoomyBytes(g.b)}
}

func (g given) memory() []region {
	return slices.Concat(memcheck.Past(g.p), []region{memcheck.Entries(g.es), memcheck.Bytes(g.b)}, memcheck.Records(g.recs))
}

// A caller makes a call of pack and tells the memory of all that it answers.
type caller struct {
	name string
	call func(g given) []region
}

func callers() []caller {
	told := func(b []byte, _ api.Errno) []region { return []region{memcheck.Bytes(b)} }
	return []caller{
		{"PutPast", func(g given) []region { return told(pack.PutPast(g.p)) }},
		{"PutEntries", func(g given) []region { return told(pack.PutEntries(g.es)) }},
		{"PutRecords", func(g given) []region { return told(pack.PutRecords(g.recs)) }},
		{"GetPast", func(g given) []region { p, _ := pack.GetPast(g.b); return memcheck.Past(p) }},
		{"GetEntries", func(g given) []region { es, _ := pack.GetEntries(g.b); return []region{memcheck.Entries(es)} }},
		{"GetRecords", func(g given) []region { recs, _ := pack.GetRecords(g.b); return memcheck.Records(recs) }},
	}
}

// encodings: those of all values in form, of the three kinds in turn.
func encodings() [][]byte {
	pasts, entries, records := thePasts(), theEntries(), theRecords()
	var all [][]byte
	for i := range max(len(pasts.right), len(entries.right), len(records.right)) {
		all = append(all, pasts.encoding(pasts.right[i%len(pasts.right)]), entries.encoding(entries.right[i%len(entries.right)]), records.encoding(records.right[i%len(records.right)]))
	}
	return all
}

// manyGiven: values in form and not, and beside them bytes that are taken, and wrong ones.
func manyGiven() []given {
	pasts := slices.Concat(rightPasts(), sample.WrongPasts())
	lists := slices.Concat(rightEntries(), sample.WrongEntryLists())
	records := slices.Concat(rightRecords(), sample.WrongRecordLists())
	var all []given
	for i, b := range append(encodings(), nil, []byte{0, 1, 16}, []byte{1, 0, 0, 1, 'A', 4, 0}) {
		all = append(all, given{pasts[i%len(pasts)], lists[i%len(lists)], records[i%len(records)], b})
	}
	return all
}

func TestNothingHandedInIsChanged(t *testing.T) { // R7
	all := manyGiven()
	for _, c := range callers() {
		for _, g := range all {
			mine := g.roomy()
			before := mine.memory()
			if memcheck.Changed(before, c.call(mine)) {
				t.Errorf("%s of %v: the call, or a write into its answer, changes what was handed in", c.name, g)
			}
		}
	}
}

func TestNoTwoAnswersShareMemory(t *testing.T) { // R7
	all := manyGiven()
	for _, c := range callers() {
		for _, g := range all {
			mine := g.roomy()
			if memcheck.Shared(slices.Concat(c.call(mine), c.call(mine))) {
				t.Errorf("%s of %v: a write into one answer changes another", c.name, g)
			}
		}
	}
}

func TestAnSkuIsNotTheBytes(t *testing.T) { // R7
	b := []byte("\x01\x00\x00\x01A\x04")
	entries, _ := pack.GetEntries(b)
	clear(b)
	if !slices.Equal(entries, es(en(0, 1, "A", 5))) {
		t.Errorf("the bytes were written over: %v", entries)
	}
	b = []byte("\x01\x01A\x01\x02\x00")
	records, _ := pack.GetRecords(b)
	clear(b)
	if !sample.SameRecords(records, rs(re("A", []int{2}))) {
		t.Errorf("the bytes were written over: %v", records)
	}
}

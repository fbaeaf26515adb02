package codec_test

import (
	"slices"
	"testing"

	"barrow/api"
	"barrow/codec"
	"barrow/memcheck"
	"barrow/sample"
)

type region = memcheck.Region

// given is what the calls of codec are handed.
type given struct {
	f api.Facts
	s api.Swot
	b []byte
}

func (g given) roomy() given {
	return given{sample.RoomyFacts(g.f), sample.RoomySwot(g.s), sample.RoomyBytes(g.b)}
}

func (g given) memory() []region {
	return slices.Concat(memcheck.Facts(g.f), memcheck.Swot(g.s), []region{memcheck.Bytes(g.b)})
}

// A caller makes a call of codec and tells the memory of all that it answers.
type caller struct {
	name string
	call func(g given) []region
}

func callers() []caller {
	told := func(b []byte, _ api.Errno) []region { return []region{memcheck.Bytes(b)} }
	return []caller{
		{"PutFacts", func(g given) []region { return told(codec.PutFacts(g.f)) }},
		{"PutSwot", func(g given) []region { return told(codec.PutSwot(g.s)) }},
		{"SizeFacts", func(g given) []region { codec.SizeFacts(g.f); return nil }},
		{"SizeSwot", func(g given) []region { codec.SizeSwot(g.s); return nil }},
		{"GetFacts", func(g given) []region { f, _ := codec.GetFacts(g.b); return memcheck.Facts(f) }},
		{"GetSwot", func(g given) []region { s, _ := codec.GetSwot(g.b); return memcheck.Swot(s) }},
	}
}

// manyGiven: values in form and not, and beside them bytes that are taken, and wrong ones.
func manyGiven() []given {
	facts, swots := theFacts(), theSwots()
	allFacts, allSwots := append(facts.wrong, facts.short()...), append(swots.wrong, swots.short()...)
	encodings := append(facts.nearBytes()[:300], swots.nearBytes()[:300]...)
	for _, f := range facts.short() {
		encodings = append(encodings, facts.encoding(f))
	}
	for _, s := range swots.short() {
		encodings = append(encodings, swots.encoding(s))
	}
	all := []given{{}}
	for i, b := range encodings {
		all = append(all, given{allFacts[i%len(allFacts)], allSwots[i%len(allSwots)], b})
	}
	return all
}

func TestNothingHandedInIsChanged(t *testing.T) { // P12.5
	all := manyGiven()
	for _, c := range callers() {
		for _, g := range all {
			mine := g.roomy()
			before := mine.memory()
			if memcheck.Changed(before, c.call(mine)) {
				t.Errorf("%s of %v: the call, or a write into its answer, changes what was handed in", c.name, g)
			}
		}
	}
}

func TestNoTwoAnswersShareMemory(t *testing.T) { // P12.5
	all := manyGiven()
	for _, c := range callers() {
		for _, g := range all {
			mine := g.roomy()
			if memcheck.Shared(slices.Concat(c.call(mine), c.call(mine))) {
				t.Errorf("%s of %v: a write into one answer changes another", c.name, g)
			}
		}
	}
}

func TestAnSkuIsNotTheBytes(t *testing.T) { // P12.5
	s := api.Swot{Live: es(en(0, 1, "A", 5)), Past: pa([]int{1}), Defer: rs(re("B", []int{2}))}
	b, _ := codec.PutSwot(s)
	got, _ := codec.GetSwot(b)
	clear(b)
	if !sample.SameSwot(got, s) {
		t.Errorf("the bytes were written over: %v", got)
	}
	f := api.Facts{Adds: s.Live, Recs: s.Defer}
	b, _ = codec.PutFacts(f)
	facts, _ := codec.GetFacts(b)
	clear(b)
	if !sample.SameFacts(facts, f) {
		t.Errorf("the bytes were written over: %v", facts)
	}
}

package digest_test

import (
	"slices"
	"testing"

	"barrow/api"
	"barrow/digest"
	"barrow/memcheck"
	"barrow/sample"
)

type region = memcheck.Region

// given is what the calls of digest are handed.
type given struct {
	f api.Facts
	s api.Swot
	d api.Digest
	b []byte
}

func (g given) roomy() given {
	return given{sample.RoomyFacts(g.f), sample.RoomySwot(g.s), sample.RoomyDigest(g.d), sample.RoomyBytes(g.b)}
}

func (g given) memory() []region {
	return slices.Concat(memcheck.Facts(g.f), memcheck.Swot(g.s), memcheck.Digest(g.d), []region{memcheck.Bytes(g.b)})
}

// A caller makes a call of digest and tells the memory of all that it answers.
type caller struct {
	name string
	call func(g given) []region
}

func callers() []caller {
	told := func(d api.Digest, _ api.Errno) []region { return memcheck.Digest(d) }
	facts := func(f api.Facts, _ api.Errno) []region { return memcheck.Facts(f) }
	state := func(s api.Swot, _ api.Errno) []region { return memcheck.Swot(s) }
	return []caller{
		{"Check", func(g given) []region { digest.Check(g.d); return nil }},
		{"OfFacts", func(g given) []region { return told(digest.OfFacts(g.f)) }},
		{"OfFacts of adds alone", func(g given) []region { return told(digest.OfFacts(api.Facts{Adds: g.f.Adds})) }},
		{"OfFacts of what is gone alone", func(g given) []region { return told(digest.OfFacts(api.Facts{Gone: g.f.Gone})) }},
		{"OfSwot", func(g given) []region { return told(digest.OfSwot(g.s)) }},
		{"OfSwot of a past alone", func(g given) []region { return told(digest.OfSwot(api.Swot{Past: g.s.Past})) }},
		{"LackFacts", func(g given) []region { return facts(digest.LackFacts(g.f, g.d)) }},
		{"LackFacts for nobody", func(g given) []region { return facts(digest.LackFacts(g.f, api.Digest{})) }},
		{"LackFacts of records alone", func(g given) []region { return facts(digest.LackFacts(api.Facts{Recs: g.f.Recs}, g.d)) }},
		{"LackSwot", func(g given) []region { return state(digest.LackSwot(g.s, g.d)) }},
		{"LackSwot for nobody", func(g given) []region { return state(digest.LackSwot(g.s, api.Digest{})) }},
		{"LackSwot of records alone", func(g given) []region { return state(digest.LackSwot(api.Swot{Defer: g.s.Defer}, g.d)) }},
		{"Put", func(g given) []region {
			b, _ := digest.Put(g.d)
			return []region{memcheck.Bytes(b)}
		}},
		{"Get", func(g given) []region { return told(digest.Get(g.b)) }},
	}
}

// manyGiven: values of all kinds, in form and not, each beside bytes that are taken or nearly.
func manyGiven() []given {
	facts := append(mixed(100), sample.WrongFacts()[:20]...)
	states := append(mixedStates(100), sample.WrongSwots()[:20]...)
	all := []given{{}}
	for i, d := range append(digests(300), sample.WrongDigests()...) {
		all = append(all, given{facts[i%len(facts)], states[i%len(states)], d, encoding(d)})
	}
	for _, b := range nearBytes()[:300] {
		all = append(all, given{b: b})
	}
	return all
}

func TestNothingHandedInIsChanged(t *testing.T) { // R7
	all := manyGiven()
	for _, c := range callers() {
		for _, g := range all {
			mine := g.roomy()
			before := mine.memory()
			if memcheck.Changed(before, c.call(mine)) {
				t.Errorf("%s of %v: the call, or a write into its answer, changes what was handed in", c.name, g)
			}
		}
	}
}

func TestNoTwoAnswersShareMemory(t *testing.T) { // R7
	all := manyGiven()
	for _, c := range callers() {
		for _, g := range all {
			mine := g.roomy()
			if memcheck.Shared(slices.Concat(c.call(mine), c.call(mine))) {
				t.Errorf("%s of %v: a write into one answer changes another", c.name, g)
			}
		}
	}
}

package tomb_test

import (
	"slices"
	"testing"

	"barrow/api"
	"barrow/memcheck"
	"barrow/sample"
	"barrow/tomb"
)

type region = memcheck.Region

// A caller makes a call of tomb and tells the memory of all that it answers.
type caller struct {
	name string
	call func(a, b api.Facts) []region
}

func callers() []caller {
	told := func(f api.Facts, _ api.Errno) []region { return memcheck.Facts(f) }
	return []caller{
		{"Check", func(a, b api.Facts) []region { tomb.Check(a); return nil }},
		{"Join", func(a, b api.Facts) []region { return told(tomb.Join(a, b)) }},
		{"Join with nothing", func(a, b api.Facts) []region { return told(tomb.Join(a, api.Facts{})) }},
		{"Join of nothing", func(a, b api.Facts) []region { return told(tomb.Join(api.Facts{}, b)) }},
		{"Join with itself", func(a, b api.Facts) []region { return told(tomb.Join(a, a)) }},
		{"Live", func(a, b api.Facts) []region {
			list, _ := tomb.Live(a)
			return []region{memcheck.Entries(list)}
		}},
		{"Live of adds alone", func(a, b api.Facts) []region {
			list, _ := tomb.Live(api.Facts{Adds: a.Adds})
			return []region{memcheck.Entries(list)}
		}},
		{"Past", func(a, b api.Facts) []region { p, _ := tomb.Past(a); return memcheck.Past(p) }},
		{"Past of what is gone alone", func(a, b api.Facts) []region { p, _ := tomb.Past(api.Facts{Gone: a.Gone}); return memcheck.Past(p) }},
		{"Within", func(a, b api.Facts) []region { tomb.Within(a, b); return nil }},
		{"Order", func(a, b api.Facts) []region { tomb.Order(a, b); return nil }},
		{"Less", func(a, b api.Facts) []region { return told(tomb.Less(a, b)) }},
		{"Less nothing", func(a, b api.Facts) []region { return told(tomb.Less(a, api.Facts{})) }},
		{"Clash", func(a, b api.Facts) []region { tomb.Clash(a, b); return nil }},
	}
}

// manyPairs: facts of all kinds, two and two.
func manyPairs(t *testing.T) [][2]api.Facts {
	t.Helper()
	dice := newDice()
	all := slices.Concat(mixed(60), alike(t, 60), sample.WrongFacts()[:10])
	var pairs [][2]api.Facts
	for _, a := range all {
		for range 6 {
			pairs = append(pairs, [2]api.Facts{a, all[dice.IntN(len(all))]})
		}
	}
	return pairs
}

func TestNothingHandedInIsChanged(t *testing.T) { // P10.5
	pairs := manyPairs(t)
	for _, c := range callers() {
		for _, pair := range pairs {
			a, b := sample.RoomyFacts(pair[0]), sample.RoomyFacts(pair[1])
			before := slices.Concat(memcheck.Facts(a), memcheck.Facts(b))
			if memcheck.Changed(before, c.call(a, b)) {
				t.Errorf("%s of %v: the call, or a write into its answer, changes what was handed in", c.name, pair)
			}
		}
	}
}

func TestNoTwoAnswersShareMemory(t *testing.T) { // P10.5
	pairs := manyPairs(t)
	for _, c := range callers() {
		for _, pair := range pairs {
			a, b := sample.RoomyFacts(pair[0]), sample.RoomyFacts(pair[1])
			if memcheck.Shared(slices.Concat(c.call(a, b), c.call(a, b))) {
				t.Errorf("%s of %v: a write into one answer changes another", c.name, pair)
			}
		}
	}
}

package lines_test

import (
	"slices"
	"testing"

	"barrow/api"
	"barrow/lines"
	"barrow/memcheck"
	"barrow/sample"
)

type region = memcheck.Region

// A caller makes a call of lines and tells the memory of all that it answers.
type caller struct {
	name string
	call func(a, b []api.Entry, p api.Past) []region
}

func callers() []caller {
	told := func(list []api.Entry, _ api.Errno) []region { return []region{memcheck.Entries(list)} }
	dots := func(p api.Past, _ api.Errno) []region { return memcheck.Past(p) }
	read := func(list []api.Line, _ api.Errno) []region { return []region{memcheck.Lines(list)} }
	return []caller{
		{"Check", func(a, b []api.Entry, p api.Past) []region { lines.Check(a); return nil }},
		{"Sort", func(a, b []api.Entry, p api.Past) []region { return told(lines.Sort(a)) }},
		{"Find", func(a, b []api.Entry, p api.Past) []region { lines.Find(a, api.Dot{Rep: 1, Num: 4}); return nil }},
		{"Of", func(a, b []api.Entry, p api.Past) []region { return told(lines.Of(a, "A")) }},
		{"Of no SKU", func(a, b []api.Entry, p api.Past) []region { return told(lines.Of(a, "a")) }},
		{"Own", func(a, b []api.Entry, p api.Past) []region { return told(lines.Own(a, 1, "A")) }},
		{"Dots", func(a, b []api.Entry, p api.Past) []region { return dots(lines.Dots(a)) }},
		{"Inside", func(a, b []api.Entry, p api.Past) []region { return told(lines.Inside(a, p)) }},
		{"Outside", func(a, b []api.Entry, p api.Past) []region { return told(lines.Outside(a, p)) }},
		{"Outside nothing", func(a, b []api.Entry, p api.Past) []region { return told(lines.Outside(a, api.Past{})) }},
		{"Union", func(a, b []api.Entry, p api.Past) []region { return told(lines.Union(a, b)) }},
		{"Union with nothing", func(a, b []api.Entry, p api.Past) []region { return told(lines.Union(a, nil)) }},
		{"Union of nothing", func(a, b []api.Entry, p api.Past) []region { return told(lines.Union(nil, a)) }},
		{"Union with itself", func(a, b []api.Entry, p api.Past) []region { return told(lines.Union(a, a)) }},
		{"Lines", func(a, b []api.Entry, p api.Past) []region { return read(lines.Lines(a)) }},
		{"Line", func(a, b []api.Entry, p api.Past) []region { lines.Line(a, "A"); return nil }},
		{"Total", func(a, b []api.Entry, p api.Past) []region { lines.Total(a); return nil }},
	}
}

func memoryLists() [][]api.Entry {
	mixed := es(en(1, 4, "A", 1), en(0, 3, "A", 5), en(1, 4, "A", 1), en(1, 1, "B", 2))
	return slices.Concat(sample.EdgeEntryLists(), [][]api.Entry{mixed, slices.Concat(mixed, mixed), sample.WrongEntryLists()[0], sample.WrongEntryLists()[2]}, samples(12))
}

func memoryPasts() []api.Past { return slices.Concat(pasts(4), sample.WrongPasts()[:3]) }

func TestNothingHandedInIsChanged(t *testing.T) { // P6.5
	for _, c := range callers() {
		for _, x := range memoryLists() {
			for _, y := range memoryLists() {
				for _, q := range memoryPasts() {
					a, b, p := sample.RoomyEntries(x), sample.RoomyEntries(y), sample.RoomyPast(q)
					given := append(memcheck.Past(p), memcheck.Entries(a), memcheck.Entries(b))
					if memcheck.Changed(given, c.call(a, b, p)) {
						t.Errorf("%s of %v, %v, %v: the call, or a write into its answer, changes what was handed in", c.name, x, y, q)
					}
				}
			}
		}
	}
}

func TestNoTwoAnswersShareMemory(t *testing.T) { // P6.5
	for _, c := range callers() {
		for _, x := range memoryLists() {
			for _, q := range memoryPasts() {
				a, b, p := sample.RoomyEntries(x), sample.RoomyEntries(example()), sample.RoomyPast(q)
				if memcheck.Shared(slices.Concat(c.call(a, b, p), c.call(a, b, p))) {
					t.Errorf("%s of %v, %v: a write into one answer changes another", c.name, x, q)
				}
			}
		}
	}
}

package sample

import (
	"slices"

	"barrow/api"
)

// EdgeFacts: facts in form, at their bounds: each edge of a list beside nothing, and several together.
func EdgeFacts() []api.Facts {
	most := Past(slices.Repeat([]int{api.MaxNum}, 16))
	all := []api.Facts{
		{}, {Gone: most}, {Gone: Past(nil, Span(15, api.MaxNum, api.MaxNum))}, {Gone: Past(nil, Span(0, 2, api.MaxNum))}, {Adds: []api.Entry{}, Gone: Past([]int{}), Recs: []api.Record{}},
		{Adds: []api.Entry{Entry(0, 1, "A", 5)}, Gone: Past([]int{1})}, {Adds: []api.Entry{Entry(15, api.MaxNum, "A", api.MaxQty)}, Recs: []api.Record{{Past: most}}},
	}
	for _, adds := range EdgeEntryLists() {
		all = append(all, api.Facts{Adds: adds}, api.Facts{Adds: adds, Gone: Past([]int{0, 1}, Span(0, 3, 3))}, api.Facts{Adds: adds, Gone: most})
	}
	for i, recs := range EdgeRecordLists() {
		adds := EdgeEntryLists()[i%len(EdgeEntryLists())]
		all = append(all, api.Facts{Recs: recs}, api.Facts{Adds: adds, Recs: recs})
	}
	return all
}

// Facts: facts in form, edges and thrown ones. A dot that stands in two of them may have unlike contents.
func Facts(roll Roll, count int) []api.Facts {
	return append(EdgeFacts(), thrownFacts(roll, count, true)...)
}

// AlikeFacts: thrown facts in form; a dot has the same contents in all of them.
func AlikeFacts(roll Roll, count int) []api.Facts { return thrownFacts(roll, count, false) }

func thrownFacts(roll Roll, count int, clash bool) []api.Facts {
	var all []api.Facts
	for range count {
		f := api.Facts{Adds: rising(LooseEntries(roll, clash))}
		// Now and then nothing is gone and no record stands, so that something is live.
		if roll(3) > 0 {
			f.Gone = looseNorm(roll)
		}
		if roll(3) > 0 {
			f.Recs = risingRecords(LooseRecords(roll))
		}
		all = append(all, f)
	}
	return all
}

// WrongFacts: facts that aren't in form, by one of their lists or by several.
func WrongFacts() []api.Facts {
	one := []api.Entry{Entry(0, 1, "A", 5)}
	rec := []api.Record{Record("A", []int{1})}
	var all []api.Facts
	for _, adds := range WrongEntryLists() {
		all = append(all, api.Facts{Adds: adds}, api.Facts{Adds: adds, Gone: Past([]int{1}), Recs: rec})
	}
	for _, gone := range WrongPasts() {
		all = append(all, api.Facts{Gone: gone}, api.Facts{Adds: one, Gone: gone, Recs: rec})
	}
	for _, recs := range WrongRecordLists() {
		all = append(all, api.Facts{Recs: recs}, api.Facts{Adds: one, Gone: Past([]int{1}), Recs: recs})
	}
	return append(all, api.Facts{Adds: WrongEntryLists()[0], Gone: WrongPasts()[0], Recs: WrongRecordLists()[0]})
}

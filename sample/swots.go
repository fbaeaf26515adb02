package sample

import (
	"slices"

	"barrow/api"
	"barrow/past"
)

// State is the document's 'State of f', word by word, of facts in form.
func State(f api.Facts) api.Swot {
	var dots []api.Dot
	for _, e := range f.Adds {
		dots = append(dots, e.Dot)
	}
	heard := past.Join(past.Of(dots), f.Gone)
	return api.Swot{
		Live: Those(f.Adds, func(e api.Entry) bool {
			return !Has(f.Gone, e.Dot) && !slices.ContainsFunc(f.Recs, func(r api.Record) bool { return Covers(r, e) })
		}),
		Past:  heard,
		Defer: Those(f.Recs, func(r api.Record) bool { return !past.Within(r.Past, heard) }),
	}
}

func states(facts []api.Facts) []api.Swot {
	var all []api.Swot
	for _, f := range facts {
		all = append(all, State(f))
	}
	return all
}

// EdgeSwots: compact states in form, at their bounds.
func EdgeSwots() []api.Swot {
	a, next := []api.Entry{Entry(0, 1, "A", 5)}, Past(nil, Span(0, 2, 2))
	most := Past(slices.Repeat([]int{api.MaxNum}, 16))
	last := []api.Entry{Entry(15, api.MaxNum, "A", api.MaxQty)}
	return append(states(EdgeFacts()),
		api.Swot{}, api.Swot{Live: []api.Entry{}, Past: Past([]int{}), Defer: []api.Record{}}, api.Swot{Live: a, Past: Past([]int{1})}, api.Swot{Live: a, Past: most}, api.Swot{Live: last, Past: most}, api.Swot{Live: last, Past: Past(nil, Span(15, api.MaxNum, api.MaxNum))},
		// A record that all but one of its dots are heard of, or none, and what it spares: another SKU, another dot.
		api.Swot{Past: Past([]int{1}), Defer: []api.Record{Record("A", []int{2})}}, api.Swot{Past: next, Defer: []api.Record{Record("A", []int{1})}}, api.Swot{Past: next, Defer: []api.Record{Record("A", []int{2})}},
		api.Swot{Live: a, Past: Past([]int{1}), Defer: []api.Record{Record("B", []int{2})}}, api.Swot{Live: a, Past: Past([]int{1}), Defer: []api.Record{Record("", nil, Span(0, 2, 2))}}, api.Swot{Live: a, Past: Past([]int{1, 4}), Defer: []api.Record{Record("", []int{0, 5})}},
		api.Swot{Past: Past([]int{api.MaxNum - 1}), Defer: []api.Record{Record("", []int{api.MaxNum})}}, api.Swot{Defer: []api.Record{{Past: most}}}, api.Swot{Live: a, Past: Past([]int{1}), Defer: []api.Record{{Sku: "B", Past: most}}},
	)
}

// Swots: compact states in form, edges and thrown ones. A dot that is live in two of them may have unlike contents.
func Swots(roll Roll, count int) []api.Swot {
	return append(EdgeSwots(), states(thrownFacts(roll, count, true))...)
}

// AlikeSwots: thrown compact states in form; a live dot has the same contents in all of them.
func AlikeSwots(roll Roll, count int) []api.Swot { return states(AlikeFacts(roll, count)) }

// WrongSwots: compact states that aren't in form, by one of their parts, or by two that are each in form and aren't together.
func WrongSwots() []api.Swot {
	a, ab := []api.Entry{Entry(0, 1, "A", 5)}, []api.Entry{Entry(0, 1, "A", 5), Entry(1, 3, "B", 1)}
	waits := []api.Record{Record("A", []int{0, 0, 9})}
	most := Past(slices.Repeat([]int{api.MaxNum}, 16))
	all := []api.Swot{
		// A live entry isn't in Past.
		{Live: a}, {Live: a, Defer: waits}, {Live: a, Past: Past(nil, Span(0, 2, 9))}, {Live: a, Past: Past([]int{0, 9})}, {Live: ab, Past: Past([]int{9, 2})}, {Live: ab, Past: Past([]int{9, 2}, Span(1, 4, 9))}, {Live: ab, Past: Past([]int{0, 9})}, {Live: []api.Entry{Entry(15, api.MaxNum, "A", 1)}, Past: Past(append(make([]int, 15), api.MaxNum-1))},
		// A record's Past is within Past.
		{Past: Past([]int{2}), Defer: []api.Record{Record("A", []int{1})}}, {Past: Past([]int{2}), Defer: []api.Record{Record("A", []int{2})}}, {Past: Past([]int{2}, Span(0, 4, 6)), Defer: []api.Record{Record("", nil, Span(0, 5, 5))}}, {Past: most, Defer: waits}, {Past: most, Defer: []api.Record{{Past: most}}},
		{Past: Past([]int{2}), Defer: []api.Record{Record("A", []int{1}), Record("A", []int{3})}}, {Past: Past([]int{2}), Defer: []api.Record{Record("", []int{3}), Record("A", []int{1})}}, {Live: a, Past: Past([]int{2}), Defer: []api.Record{Record("B", []int{2})}}, {Live: a, Past: Past([]int{2}), Defer: []api.Record{Record("A", nil, Span(0, 2, 2))}},
		// A record covers a live entry.
		{Live: a, Past: Past([]int{1}), Defer: []api.Record{Record("", []int{3})}}, {Live: a, Past: Past([]int{1}), Defer: []api.Record{Record("A", []int{2})}}, {Live: a, Past: Past([]int{1}), Defer: []api.Record{Record("A", []int{1, 0, 1})}}, {Live: ab, Past: Past([]int{1, 3}), Defer: []api.Record{Record("A", []int{0, 4}), Record("B", []int{0, 4})}},
		{Live: ab, Past: Past([]int{1, 3}), Defer: []api.Record{Record("", nil, Span(1, 3, 4))}}, {Live: ab, Past: Past([]int{1, 3}), Defer: []api.Record{{Past: most}}},
	}
	for _, live := range WrongEntryLists() {
		all = append(all, api.Swot{Live: live, Past: most}, api.Swot{Live: live})
	}
	for _, p := range WrongPasts() {
		all = append(all, api.Swot{Past: p}, api.Swot{Past: p, Defer: []api.Record{Record("A", []int{0, 0, 0, 9})}})
	}
	for _, recs := range WrongRecordLists() {
		all = append(all, api.Swot{Defer: recs}, api.Swot{Past: Past([]int{0, 0, 0, 1}), Defer: recs})
	}
	return append(all, api.Swot{Live: a, Past: Past([]int{1, 0})}, api.Swot{Live: a, Past: Past([]int{1}, Span(0, 3, 2))}, api.Swot{Live: WrongEntryLists()[0], Past: WrongPasts()[0], Defer: WrongRecordLists()[0]})
}

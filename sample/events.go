package sample

import (
	"slices"

	"barrow/api"
	"barrow/past"
)

// EdgeEvents: facts that one act can make, at their bounds.
func EdgeEvents() []api.Facts {
	most, next := Past(slices.Repeat([]int{api.MaxNum}, 16)), Past(nil, Span(0, 2, 2))
	last := []api.Entry{Entry(15, api.MaxNum, "A", api.MaxQty)}
	return []api.Facts{
		{}, {Adds: []api.Entry{}, Gone: Past([]int{}), Recs: []api.Record{}}, {Gone: most}, {Gone: next}, {Gone: Past([]int{1})}, {Recs: []api.Record{{Past: most}}}, {Recs: []api.Record{{Sku: "A", Past: next}}}, {Recs: []api.Record{Record("A", []int{1})}},
		{Adds: []api.Entry{Entry(0, 1, "A", 8)}}, {Adds: []api.Entry{Entry(0, 1, "A", 8)}, Gone: Past([]int{0, 9})}, {Adds: []api.Entry{Entry(0, 3, "A", 5)}, Gone: next}, {Adds: last}, {Adds: last, Gone: Past(append(slices.Repeat([]int{api.MaxNum}, 15), api.MaxNum-1))},
	}
}

// Events: facts that one act can make, edges and thrown ones. A dot that two of them add may have unlike contents.
func Events(roll Roll, count int) []api.Facts {
	return append(EdgeEvents(), thrownEvents(roll, count, true)...)
}

// AlikeEvents: thrown facts that one act can make; a dot has the same contents in all of them.
func AlikeEvents(roll Roll, count int) []api.Facts { return thrownEvents(roll, count, false) }

func thrownEvents(roll Roll, count int, clash bool) []api.Facts {
	var all []api.Facts
	for range count {
		var f api.Facts
		switch adds, recs := LooseEntries(roll, clash), risingRecords(LooseRecords(roll)); {
		case roll(5) == 0 && len(recs) > 0:
			f.Recs = recs[:1]
		case roll(4) > 0 && len(adds) > 0:
			f.Adds = adds[:1]
			f.Gone = below(looseNorm(roll), adds[0].Dot)
		default:
			f.Gone = looseNorm(roll)
		}
		all = append(all, f)
	}
	return all
}

// below: of the past what stands beside a new dot: of that one's replica, the numbers below it alone.
func below(p api.Past, d api.Dot) api.Past {
	return past.Minus(p, Past(nil, Span(d.Rep, d.Num, api.MaxNum)))
}

// UnfitEvents: facts in form that no act can make.
func UnfitEvents() []api.Facts {
	one, two, rec := []api.Entry{Entry(0, 4, "A", 1)}, []api.Entry{Entry(0, 1, "A", 5), Entry(0, 2, "B", 1)}, []api.Record{Record("A", []int{1})}
	return []api.Facts{
		{Adds: two}, {Adds: two, Gone: Past([]int{0, 1})}, {Adds: []api.Entry{Entry(0, 1, "A", 5), Entry(1, 1, "A", 5)}}, {Adds: one, Gone: Past([]int{4})}, {Adds: one, Gone: Past(nil, Span(0, 5, 5))}, {Adds: one, Gone: Past(nil, Span(0, 4, 4))},
		{Adds: one, Recs: rec}, {Gone: Past([]int{1}), Recs: rec}, {Recs: []api.Record{Record("", []int{1}), Record("A", []int{1})}}, {Adds: one, Gone: Past([]int{0, 1}), Recs: rec},
	}
}

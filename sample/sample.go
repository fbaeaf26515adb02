// Package sample makes what the tests of several layers are fed with: values by short names, wrong ones, edges, thrown ones, and lists with spare room. The program doesn't use it.
package sample

import (
	"slices"

	"barrow/api"
)

// A Roll answers a number from 0 to n - 1: the test's own dice, so that this package has no random source.
type Roll func(n int) int

// Entry: one add.
func Entry(rep, num int, sku string, qty int) api.Entry {
	return api.Entry{Dot: api.Dot{Rep: rep, Num: num}, Sku: sku, Qty: qty}
}

// Span: a stretch of one replica's numbers.
func Span(rep, lo, hi int) api.Span { return api.Span{Rep: rep, Lo: lo, Hi: hi} }

// Past: a context.
func Past(vec []int, cloud ...api.Span) api.Past { return api.Past{Vec: vec, Cloud: cloud} }

// Record: a remove by context.
func Record(sku string, vec []int, cloud ...api.Span) api.Record {
	return api.Record{Sku: sku, Past: Past(vec, cloud...)}
}

// SamePast: one past as it stands, where nil and empty are one.
func SamePast(a, b api.Past) bool {
	return slices.Equal(a.Vec, b.Vec) && slices.Equal(a.Cloud, b.Cloud)
}

// SameRecords: one list of records as it stands, where nil and empty are one.
func SameRecords(a, b []api.Record) bool {
	return slices.EqualFunc(a, b, func(x, y api.Record) bool { return x.Sku == y.Sku && SamePast(x.Past, y.Past) })
}

// SameFacts: the same facts as they stand, where nil and empty are one.
func SameFacts(a, b api.Facts) bool {
	return slices.Equal(a.Adds, b.Adds) && SamePast(a.Gone, b.Gone) && SameRecords(a.Recs, b.Recs)
}

// SameSwot: one compact state as it stands, where nil and empty are one.
func SameSwot(a, b api.Swot) bool {
	return slices.Equal(a.Live, b.Live) && SamePast(a.Past, b.Past) && SameRecords(a.Defer, b.Defer)
}

// Has is the document's definition of what any Past means, word by word.
func Has(p api.Past, d api.Dot) bool {
	if d.Rep < 0 || d.Rep > 15 || d.Num < 1 || d.Num > 1000000000 {
		return false
	}
	if d.Rep < len(p.Vec) && d.Num <= p.Vec[d.Rep] {
		return true
	}
	return slices.ContainsFunc(p.Cloud, func(s api.Span) bool { return s.Rep == d.Rep && s.Lo <= d.Num && d.Num <= s.Hi })
}

// Covers is the document's definition of what a record covers, word by word.
func Covers(r api.Record, e api.Entry) bool {
	return (r.Sku == "" || r.Sku == e.Sku) && Has(r.Past, e.Dot)
}

// Dots: all dots about which the samples are, and their neighbours.
func Dots() []api.Dot {
	var all []api.Dot
	for rep := range api.MaxReps {
		for num := 1; num <= 10; num++ {
			all = append(all, api.Dot{Rep: rep, Num: num}, api.Dot{Rep: rep, Num: api.MaxNum + 1 - num})
		}
		all = append(all, api.Dot{Rep: rep, Num: api.MaxNum / 2})
	}
	return all
}

// Those: the items of the list, in their order, for which keep holds.
func Those[T any](list []T, keep func(item T) bool) []T {
	return slices.DeleteFunc(slices.Clone(list), func(item T) bool { return !keep(item) })
}

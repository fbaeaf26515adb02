package sample

import (
	"cmp"
	"slices"
	"strings"

	"barrow/api"
	"barrow/past"
)

// EdgeEntryLists: lists of entries in form, at their bounds.
func EdgeEntryLists() [][]api.Entry {
	return [][]api.Entry{
		nil, {}, {Entry(0, 3, "A", 5), Entry(1, 1, "B", 2), Entry(1, 4, "A", 1)}, {Entry(0, 1, "A", 1)}, {Entry(15, 1000000000, "A", 1000000)}, {Entry(0, 1, "A", 1000000), Entry(1, 1, "A", 1000000)},
		{Entry(0, 1, "B", 1), Entry(0, 2, "A-1", 1), Entry(0, 3, "A", 1)}, {Entry(0, 1, "A10", 1), Entry(0, 2, "A2", 1), Entry(0, 3, "A", 1), Entry(0, 4, "A.1", 1), Entry(0, 5, "0", 1)},
		{Entry(0, 1, strings.Repeat("Z", 24), 7), Entry(0, 1000000000, strings.Repeat("Z", 23), 7), Entry(1, 1, strings.Repeat("Z", 24), 7)},
	}
}

// LooseEntries: entries in form, in any order, of few dots; those of one dot are alike unless clash.
func LooseEntries(roll Roll, clash bool) []api.Entry {
	skus := []string{"A", "B", "A-1", "A10", "A2"}
	var list []api.Entry
	for range roll(9) {
		d := looseDot(roll)
		e := Entry(d.Rep, d.Num, skus[(d.Rep+d.Num)%len(skus)], 1+(d.Rep*7+d.Num)%api.MaxQty)
		if clash && roll(6) == 0 {
			e.Sku = skus[roll(len(skus))]
		}
		if clash && roll(6) == 0 {
			e.Qty = api.MaxQty
		}
		list = append(list, e)
	}
	return list
}

func looseDot(roll Roll) api.Dot {
	if roll(8) == 0 {
		return api.Dot{Rep: 15, Num: api.MaxNum - roll(3)}
	}
	return api.Dot{Rep: roll(3), Num: 1 + roll(6)}
}

// EntryLists: lists of entries in form, edges and thrown ones. A dot that stands in two of them may have unlike contents.
func EntryLists(roll Roll, count int) [][]api.Entry {
	lists := EdgeEntryLists()
	for range count {
		lists = append(lists, rising(LooseEntries(roll, true)))
	}
	return lists
}

// AlikeEntryLists: thrown lists of entries in form; a dot has the same contents in all of them.
func AlikeEntryLists(roll Roll, count int) [][]api.Entry {
	var lists [][]api.Entry
	for range count {
		lists = append(lists, rising(LooseEntries(roll, false)))
	}
	return lists
}

// rising sorts the entries by their dots and keeps the first of each.
func rising(list []api.Entry) []api.Entry {
	slices.SortStableFunc(list, func(x, y api.Entry) int {
		return cmp.Or(cmp.Compare(x.Dot.Rep, y.Dot.Rep), cmp.Compare(x.Dot.Num, y.Dot.Num))
	})
	return slices.CompactFunc(list, func(x, y api.Entry) bool { return x.Dot == y.Dot })
}

// Pasts: canonical ones, edges and thrown ones, of the dots of the lists of entries.
func Pasts(roll Roll, count int) []api.Past {
	all := []api.Past{
		{}, Past([]int{3}), Past([]int{0, 1}, Span(0, 3, 3), Span(1, 4, 4)), Past(slices.Repeat([]int{api.MaxNum}, 16)), Past(nil, Span(15, api.MaxNum, api.MaxNum)), Past(nil, Span(0, 2, api.MaxNum), Span(15, 2, 2)),
		Past(slices.Repeat([]int{1}, 16), Span(0, 3, 3), Span(0, 5, 5), Span(1, 3, 4), Span(1, 6, 6), Span(2, 5, 6)),
	}
	for range count {
		all = append(all, looseNorm(roll))
	}
	return all
}

func looseNorm(roll Roll) api.Past { return past.Norm(LoosePast(roll)) }

// LoosePast: a past of few dots, in any form.
func LoosePast(roll Roll) api.Past {
	p := Past([]int{roll(4), roll(4) - 1, roll(3) - 1})
	for range roll(5) {
		lo := 1 + roll(6)
		p.Cloud = append(p.Cloud, Span(roll(3), lo, lo+roll(2)))
	}
	if roll(3) == 0 {
		p.Cloud = append(p.Cloud, Span(15, api.MaxNum-roll(3), api.MaxNum-roll(2)))
	}
	return p
}

// EdgeRecordLists: lists of records in form, at their bounds.
func EdgeRecordLists() [][]api.Record {
	most := slices.Repeat([]int{api.MaxNum}, 16)
	return [][]api.Record{
		nil, {}, {Record("", []int{1})}, {Record("", most)}, {Record("", nil, Span(15, api.MaxNum, api.MaxNum))}, {Record("", []int{1}), Record("", []int{1}, Span(0, 3, 3)), Record("", []int{1}, Span(0, 3, 4)), Record("", []int{2})},
		{Record("", []int{0, 2}), Record("A", []int{2}, Span(0, 4, 4), Span(1, 2, 3)), Record("A", []int{3})}, {Record("A", nil, Span(0, 2, 2)), Record("A", []int{1})}, {Record("A", []int{1}), Record("A-1", []int{1}), Record("A10", []int{1}), Record("A2", []int{1}), Record("B", []int{1})},
		{Record("", most), Record("A", []int{1}), Record(strings.Repeat("Z", 24), most)}, {Record("A", []int{1, 5}), Record("A", []int{2})},
	}
}

// LooseRecords: records of few SKUs, in any order and form, but that their SKUs are SKUs or empty.
func LooseRecords(roll Roll) []api.Record {
	skus := []string{"", "A", "B", "A-1", "A10"}
	var list []api.Record
	for range roll(6) {
		list = append(list, api.Record{Sku: skus[roll(len(skus))], Past: LoosePast(roll)})
	}
	return list
}

// RecordLists: lists of records in form, edges and thrown ones.
func RecordLists(roll Roll, count int) [][]api.Record {
	lists := EdgeRecordLists()
	for range count {
		lists = append(lists, risingRecords(LooseRecords(roll)))
	}
	return lists
}

func risingRecords(list []api.Record) []api.Record {
	var out []api.Record
	for _, r := range list {
		if p := past.Norm(r.Past); !past.Empty(p) {
			out = append(out, api.Record{Sku: r.Sku, Past: p})
		}
	}
	order := func(x, y api.Record) int {
		return cmp.Or(cmp.Compare(x.Sku, y.Sku), past.Compare(x.Past, y.Past))
	}
	slices.SortFunc(out, order)
	return slices.CompactFunc(out, func(x, y api.Record) bool { return order(x, y) == 0 })
}

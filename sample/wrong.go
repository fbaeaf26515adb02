package sample

import (
	"math"
	"slices"
	"strings"

	"barrow/api"
)

const (
	leastInt = math.MinInt
	greatInt = math.MaxInt
)

// WrongSkus: texts that are no SKU, the empty one left out.
func WrongSkus() []string {
	return []string{"a", "A-", "-A", "A--B", "A B", "A\xff", "\x00", "É", strings.Repeat("A", 25)}
}

// A Wrong is a value that is out of form, and the first error that applies to it.
type Wrong[T any] struct {
	Value T
	Err   api.Errno
}

func wrong[T any](err api.Errno, values ...T) []Wrong[T] {
	var all []Wrong[T]
	for _, v := range values {
		all = append(all, Wrong[T]{v, err})
	}
	return all
}

// WrongEntries: each is out of form in one thing, or in several.
func WrongEntries() []Wrong[api.Entry] {
	return slices.Concat(
		wrong(api.ErrRep, Entry(-1, 1, "A", 1), Entry(16, 1, "A", 1), Entry(leastInt, 1, "A", 1), Entry(greatInt, 1, "A", 1), Entry(16, 0, "a", 0), Entry(16, 0, "A", 5)),
		wrong(api.ErrArg, Entry(0, 0, "A", 1), Entry(0, -1, "A", 1), Entry(15, 1000000001, "A", 1), Entry(0, leastInt, "A", 1), Entry(0, greatInt, "a", 0), Entry(0, 0, "a", 0)),
		wrong(api.ErrSku, Entry(0, 1, "", 1), Entry(0, 1, "a", 1), Entry(0, 1, "A-", 1), Entry(0, 1, "A\xff", 1), Entry(0, 1, strings.Repeat("A", 25), 1), Entry(0, 1, "a", 0)),
		wrong(api.ErrQty, Entry(0, 1, "A", 0), Entry(0, 1, "A", -1), Entry(0, 1, "A", 1000001), Entry(0, 1, "A", leastInt), Entry(0, 1, "A", greatInt)),
	)
}

// WrongEntryLists: lists of entries that aren't in form.
func WrongEntryLists() [][]api.Entry {
	lists := [][]api.Entry{
		{Entry(0, 3, "A", 5), Entry(0, 3, "A", 1)}, {Entry(0, 3, "A", 5), Entry(0, 3, "A", 5)}, {Entry(1, 1, "A", 5), Entry(0, 3, "A", 1)}, {Entry(0, 3, "A", 5), Entry(0, 2, "A", 5)},
		{Entry(0, 1, "A", 1), Entry(2, 5, "A", 1), Entry(1, 7, "A", 1)}, {Entry(0, 1, "A", 1), Entry(0, 2, "A", 1), Entry(0, 2, "B", 1)},
	}
	for _, w := range WrongEntries() {
		e := w.Value
		lists = append(lists, []api.Entry{e}, []api.Entry{Entry(0, 1, "A", 1), e, Entry(15, 9, "B", 2)}, []api.Entry{Entry(0, 1, "A", 1), e})
	}
	return lists
}

// WrongPasts: pasts that aren't canonical.
func WrongPasts() []api.Past {
	return []api.Past{
		Past([]int{0}), Past([]int{1, 0}), Past([]int{-1}), Past([]int{1000000001}), Past(make([]int, 17)), Past(nil, Span(0, 1, 1)), Past([]int{3}, Span(0, 4, 4)), Past([]int{3}, Span(0, 2, 5)),
		Past(nil, Span(1, 3, 3), Span(0, 3, 3)), Past(nil, Span(0, 3, 3), Span(0, 4, 4)), Past(nil, Span(0, 3, 3), Span(0, 3, 3)), Past(nil, Span(16, 3, 3)), Past(nil, Span(-1, 3, 3)), Past(nil, Span(0, 5, 4)), Past(nil, Span(0, 3, 1000000001)),
	}
}

// WrongRecords: each is out of form in one thing, or in several.
func WrongRecords() []Wrong[api.Record] {
	var all []Wrong[api.Record]
	for _, sku := range WrongSkus() {
		all = append(all, wrong(api.ErrSku, Record(sku, []int{1}), Record(sku, nil), Record(sku, []int{0}))...)
	}
	for _, sku := range []string{"", "A"} {
		all = append(all, wrong(api.ErrForm, Record(sku, nil), Record(sku, []int{}))...)
		for _, p := range WrongPasts() {
			all = append(all, wrong(api.ErrForm, api.Record{Sku: sku, Past: p})...)
		}
	}
	return all
}

// WrongRecordLists: lists of records that aren't in form.
func WrongRecordLists() [][]api.Record {
	lists := [][]api.Record{
		{Record("", []int{1}), Record("", []int{1})}, {Record("A", []int{2}), Record("A", []int{1})}, {Record("A", []int{1}), Record("", []int{1})}, {Record("B", []int{1}), Record("A", []int{2})}, {Record("A", []int{1}), Record("B", []int{1}), Record("B", []int{1})},
		{Record("A", []int{1}), Record("A", nil, Span(0, 2, 2))}, {Record("A", []int{1}, Span(0, 3, 4)), Record("A", []int{1}, Span(0, 3, 3))}, {Record("A", []int{1}, Span(1, 2, 2)), Record("A", []int{1})}, {Record("A2", []int{1}), Record("A10", []int{1})},
	}
	for _, w := range WrongRecords() {
		r := w.Value
		lists = append(lists, []api.Record{r}, []api.Record{Record("", []int{7}), r}, []api.Record{r, Record("Z", []int{7})})
	}
	return lists
}

package lines_test

import (
	"math"
	"math/rand/v2"
	"slices"

	"barrow/api"
	"barrow/goods"
	"barrow/sample"
)

const (
	leastInt = math.MinInt
	greatInt = math.MaxInt
)

var (
	en = sample.Entry
	pa = sample.Past
	sp = sample.Span
)

func es(list ...api.Entry) []api.Entry { return list }

// example is the list es of the chapter's examples.
func example() []api.Entry { return es(en(0, 3, "A", 5), en(1, 1, "B", 2), en(1, 4, "A", 1)) }

// same: one list, place by place, where nil and empty are one.
func same(a, b []api.Entry) bool { return slices.Equal(a, b) }

// fault is the chapter's definition of CheckEntry, word by word.
func fault(e api.Entry) api.Errno {
	switch {
	case !(e.Dot.Rep >= 0 && e.Dot.Rep <= 15):
		return api.ErrRep
	case !(e.Dot.Num >= 1 && e.Dot.Num <= 1000000000):
		return api.ErrArg
	case !goods.Good(e.Sku):
		return api.ErrSku
	case !(e.Qty >= 1 && e.Qty <= 1000000):
		return api.ErrQty
	}
	return api.OK
}

// ahead: does x stand ahead of y, by Rep and then by Num?
func ahead(x, y api.Dot) bool { return x.Rep < y.Rep || x.Rep == y.Rep && x.Num < y.Num }

// inForm is the document's definition of a list in form.
func inForm(list []api.Entry) bool {
	for i, e := range list {
		if fault(e) != api.OK {
			return false
		}
		for _, later := range list[i+1:] {
			if !ahead(e.Dot, later.Dot) {
				return false
			}
		}
	}
	return true
}

// sorting is the chapter's definition of Sort, word by word.
func sorting(list []api.Entry) ([]api.Entry, api.Errno) {
	for _, e := range list {
		if err := fault(e); err != api.OK {
			return nil, err
		}
	}
	var out []api.Entry
	for _, e := range list {
		for _, other := range list {
			if e.Dot == other.Dot && (e.Sku != other.Sku || e.Qty != other.Qty) {
				return nil, api.ErrClash
			}
		}
		if !slices.Contains(out, e) {
			at := 0
			for at < len(out) && ahead(out[at].Dot, e.Dot) {
				at++
			}
			out = slices.Insert(out, at, e)
		}
	}
	return out, api.OK
}

// badEntries: each with the first error that applies.
func badEntries() map[api.Entry]api.Errno {
	all := map[api.Entry]api.Errno{}
	for _, w := range sample.WrongEntries() {
		all[w.Value] = w.Err
	}
	return all
}

// samples: lists in form, the same at every run of the tests.
func samples(count int) [][]api.Entry { return sample.EntryLists(newDice().IntN, count) }

// pasts: canonical ones, about the dots of the samples.
func pasts(count int) []api.Past { return sample.Pasts(newDice().IntN, count) }

func newDice() *rand.Rand { return rand.New(rand.NewPCG(9, 10)) }

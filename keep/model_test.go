package keep_test

import (
	"cmp"
	"math"
	"math/rand/v2"
	"slices"

	"barrow/api"
	"barrow/goods"
	"barrow/past"
	"barrow/sample"
)

const (
	leastInt = math.MinInt
	greatInt = math.MaxInt
)

var (
	en = sample.Entry
	pa = sample.Past
	re = sample.Record
	sp = sample.Span
)

func es(list ...api.Entry) []api.Entry { return list }

func rs(list ...api.Record) []api.Record { return list }

// example is the list rs of the chapter's examples.
func example() []api.Record {
	return rs(re("", []int{0, 2}), re("A", []int{2}, sp(0, 4, 4), sp(1, 2, 3)), re("A", []int{3}))
}

// entries is the list of the chapter's example of Apply.
func entries() []api.Entry {
	return es(en(0, 3, "A", 5), en(0, 5, "A", 1), en(1, 2, "B", 7), en(1, 3, "A", 2))
}

func same(a, b []api.Record) bool { return sample.SameRecords(a, b) }

func sameEntries(a, b []api.Entry) bool { return slices.Equal(a, b) }

// order is the order of records.
func order(x, y api.Record) int {
	switch {
	case x.Sku < y.Sku:
		return -1
	case x.Sku > y.Sku:
		return 1
	}
	return past.Compare(x.Past, y.Past)
}

// fault is the chapter's definition of CheckRecord.
func fault(r api.Record) api.Errno {
	if r.Sku != "" && !goods.Good(r.Sku) {
		return api.ErrSku
	}
	if !past.IsNorm(r.Past) || len(r.Past.Vec) == 0 && len(r.Past.Cloud) == 0 {
		return api.ErrForm
	}
	return api.OK
}

// inForm is the chapter's definition of a list in form.
func inForm(list []api.Record) bool {
	for i, r := range list {
		if fault(r) != api.OK || i > 0 && order(list[i-1], r) != -1 {
			return false
		}
	}
	return true
}

// sorting is the chapter's definition of Sort.
func sorting(list []api.Record) ([]api.Record, api.Errno) {
	var out []api.Record
	for _, r := range list {
		if r.Sku != "" && !goods.Good(r.Sku) {
			return nil, api.ErrSku
		}
		r.Past = past.Norm(r.Past)
		at := 0
		for at < len(out) && order(out[at], r) < 0 {
			at++
		}
		twice := at < len(out) && order(out[at], r) == 0
		if past.Size(r.Past) > 0 && !twice {
			out = slices.Insert(out, at, r)
		}
	}
	return out, api.OK
}

// has: does the list hold the record?
func has(list []api.Record, r api.Record) bool {
	return slices.ContainsFunc(list, func(x api.Record) bool { return order(x, r) == 0 })
}

// dots: all dots about which the samples are, and their neighbours.
func dots() []api.Dot {
	var all []api.Dot
	for rep := range 4 {
		for num := 1; num <= 9; num++ {
			all = append(all, api.Dot{Rep: rep, Num: num})
		}
	}
	for num := api.MaxNum - 4; num <= api.MaxNum; num++ {
		all = append(all, api.Dot{Rep: 0, Num: num}, api.Dot{Rep: 15, Num: num})
	}
	return all
}

// probes: entries of these dots, of each SKU of the samples and of one more.
func probes() []api.Entry {
	var all []api.Entry
	for _, d := range dots() {
		for _, sku := range []string{"A", "A-1", "A10", "B", "C"} {
			all = append(all, api.Entry{Dot: d, Sku: sku, Qty: 1})
		}
	}
	return all
}

// looseEntries: entries that need not be in form.
func looseEntries() []api.Entry {
	all := slices.Concat(probes(), es(en(0, 1, "", 1), en(0, 1, "a", 0), en(1, 2, "\xff", leastInt)))
	for _, w := range sample.WrongEntries() {
		all = append(all, w.Value)
	}
	return all
}

// loosePasts: pasts that need not be canonical.
func loosePasts() []api.Past {
	dice := newDice()
	all := slices.Concat(sample.WrongPasts(), []api.Past{{}, pa([]int{greatInt, leastInt}), pa(slices.Repeat([]int{greatInt}, 20)), pa(nil, sp(0, leastInt, greatInt)), pa(nil, sp(-1, 1, 5), sp(16, 1, 5), sp(greatInt, 1, 5)), pa(nil, sp(1, 5, 1)), pa([]int{0, 0, 0}, sp(0, 1, 2))})
	for range 30 {
		all = append(all, sample.LoosePast(dice.IntN))
	}
	return all
}

// mixedLists: lists of records in any order and form, wrong SKUs among them.
func mixedLists() [][]api.Record {
	dice := newDice()
	all := sample.WrongRecordLists()
	for range 600 {
		all = append(all, sample.LooseRecords(dice.IntN))
	}
	for _, sku := range sample.WrongSkus() {
		all = append(all, append(sample.LooseRecords(dice.IntN), re(sku, []int{1})), append(sample.LooseRecords(dice.IntN), re(sku, nil)))
	}
	return all
}

func lists(count int) [][]api.Record { return sample.RecordLists(newDice().IntN, count) }

func pasts(count int) []api.Past { return sample.Pasts(newDice().IntN, count) }

// rising: by dots, each once.
func rising(list []api.Entry) []api.Entry {
	out := slices.Clone(list)
	slices.SortFunc(out, func(x, y api.Entry) int {
		return cmp.Or(cmp.Compare(x.Dot.Rep, y.Dot.Rep), cmp.Compare(x.Dot.Num, y.Dot.Num))
	})
	return slices.Compact(out)
}

func newDice() *rand.Rand { return rand.New(rand.NewPCG(11, 12)) }

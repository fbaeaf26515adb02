package lines_test

import (
	"math"
	"math/rand/v2"
	"slices"
	"strings"

	"barrow/api"
	"barrow/goods"
	"barrow/past"
)

const (
	leastInt = math.MinInt
	greatInt = math.MaxInt
)

func en(rep, num int, sku string, qty int) api.Entry {
	return api.Entry{Dot: api.Dot{Rep: rep, Num: num}, Sku: sku, Qty: qty}
}

func es(list ...api.Entry) []api.Entry { return list }

func pa(vec []int, cloud ...api.Span) api.Past { return api.Past{Vec: vec, Cloud: cloud} }

func sp(rep, lo, hi int) api.Span { return api.Span{Rep: rep, Lo: lo, Hi: hi} }

// example is the list es of the chapter's examples.
func example() []api.Entry { return es(en(0, 3, "A", 5), en(1, 1, "B", 2), en(1, 4, "A", 1)) }

// same: one list, place by place, where nil and empty are one.
func same(a, b []api.Entry) bool { return slices.Equal(a, b) }

func samePast(a, b api.Past) bool {
	return slices.Equal(a.Vec, b.Vec) && slices.Equal(a.Cloud, b.Cloud)
}

// fault is the chapter's definition of CheckEntry, word by word.
func fault(e api.Entry) api.Errno {
	switch {
	case !(e.Dot.Rep >= 0 && e.Dot.Rep <= 15):
		return api.ErrRep
	case !(e.Dot.Num >= 1 && e.Dot.Num <= 1000000000):
		return api.ErrArg
	case !goods.Good(e.Sku):
		return api.ErrSku
	case !(e.Qty >= 1 && e.Qty <= 1000000):
		return api.ErrQty
	}
	return api.OK
}

// ahead: does x stand ahead of y, by Rep and then by Num?
func ahead(x, y api.Dot) bool { return x.Rep < y.Rep || x.Rep == y.Rep && x.Num < y.Num }

// inForm is the document's definition of a list in form.
func inForm(list []api.Entry) bool {
	for i, e := range list {
		if fault(e) != api.OK {
			return false
		}
		for _, later := range list[i+1:] {
			if !ahead(e.Dot, later.Dot) {
				return false
			}
		}
	}
	return true
}

// sorting is the chapter's definition of Sort, word by word.
func sorting(list []api.Entry) ([]api.Entry, api.Errno) {
	for _, e := range list {
		if err := fault(e); err != api.OK {
			return nil, err
		}
	}
	var out []api.Entry
	for _, e := range list {
		for _, other := range list {
			if e.Dot == other.Dot && (e.Sku != other.Sku || e.Qty != other.Qty) {
				return nil, api.ErrClash
			}
		}
		if !slices.Contains(out, e) {
			at := 0
			for at < len(out) && ahead(out[at].Dot, e.Dot) {
				at++
			}
			out = slices.Insert(out, at, e)
		}
	}
	return out, api.OK
}

// member: is the dot in the past? p is canonical.
func member(p api.Past, d api.Dot) bool {
	if d.Rep < len(p.Vec) && d.Num <= p.Vec[d.Rep] {
		return true
	}
	return slices.ContainsFunc(p.Cloud, func(s api.Span) bool { return s.Rep == d.Rep && s.Lo <= d.Num && d.Num <= s.Hi })
}

func those(list []api.Entry, keep func(e api.Entry) bool) []api.Entry {
	return slices.DeleteFunc(slices.Clone(list), func(e api.Entry) bool { return !keep(e) })
}

// badEntries: each is out of form in one thing, or in several; err is the first.
func badEntries() map[api.Entry]api.Errno {
	long := strings.Repeat("A", 25)
	return map[api.Entry]api.Errno{
		en(-1, 1, "A", 1): api.ErrRep, en(16, 1, "A", 1): api.ErrRep, en(leastInt, 1, "A", 1): api.ErrRep, en(greatInt, 1, "A", 1): api.ErrRep, en(16, 0, "a", 0): api.ErrRep, en(16, 0, "A", 5): api.ErrRep,
		en(0, 0, "A", 1): api.ErrArg, en(0, -1, "A", 1): api.ErrArg, en(15, 1000000001, "A", 1): api.ErrArg, en(0, leastInt, "A", 1): api.ErrArg, en(0, greatInt, "a", 0): api.ErrArg, en(0, 0, "a", 0): api.ErrArg,
		en(0, 1, "", 1): api.ErrSku, en(0, 1, "a", 1): api.ErrSku, en(0, 1, "A-", 1): api.ErrSku, en(0, 1, "A\xff", 1): api.ErrSku, en(0, 1, long, 1): api.ErrSku, en(0, 1, "a", 0): api.ErrSku,
		en(0, 1, "A", 0): api.ErrQty, en(0, 1, "A", -1): api.ErrQty, en(0, 1, "A", 1000001): api.ErrQty, en(0, 1, "A", leastInt): api.ErrQty, en(0, 1, "A", greatInt): api.ErrQty,
	}
}

// badLists: lists that aren't in form.
func badLists() [][]api.Entry {
	lists := [][]api.Entry{
		es(en(0, 3, "A", 5), en(0, 3, "A", 1)), es(en(0, 3, "A", 5), en(0, 3, "A", 5)), es(en(1, 1, "A", 5), en(0, 3, "A", 1)), es(en(0, 3, "A", 5), en(0, 2, "A", 5)), es(en(0, 1, "A", 1), en(2, 5, "A", 1), en(1, 7, "A", 1)), es(en(0, 1, "A", 1), en(0, 2, "A", 1), en(0, 2, "B", 1)),
	}
	for e := range badEntries() {
		lists = append(lists, es(e), es(en(0, 1, "A", 1), e, en(15, 9, "B", 2)), es(en(0, 1, "A", 1), e))
	}
	return lists
}

// badPasts: pasts that aren't canonical.
func badPasts() []api.Past {
	return []api.Past{pa([]int{0}), pa([]int{1, 0}), pa([]int{-1}), pa([]int{1000000001}), pa(make([]int, 17)), pa(nil, sp(0, 1, 1)), pa([]int{3}, sp(0, 4, 4)), pa(nil, sp(1, 3, 3), sp(0, 3, 3)), pa(nil, sp(0, 3, 3), sp(0, 4, 4)), pa(nil, sp(16, 3, 3)), pa(nil, sp(0, 5, 4))}
}

func edgeLists() [][]api.Entry {
	return [][]api.Entry{
		nil, {}, example(), es(en(0, 1, "A", 1)), es(en(15, 1000000000, "A", 1000000)), es(en(0, 1, "A", 1000000), en(1, 1, "A", 1000000)), es(en(0, 1, "B", 1), en(0, 2, "A-1", 1), en(0, 3, "A", 1)), es(en(0, 1, "A10", 1), en(0, 2, "A2", 1), en(0, 3, "A", 1), en(0, 4, "A.1", 1), en(0, 5, "0", 1)),
		es(en(0, 1, strings.Repeat("Z", 24), 7), en(0, 1000000000, strings.Repeat("Z", 23), 7), en(1, 1, strings.Repeat("Z", 24), 7)),
	}
}

// loose: entries in form, in any order, about few dots; of one dot the contents are alike unless clash.
func loose(dice *rand.Rand, clash bool) []api.Entry {
	skus := []string{"A", "B", "A-1", "A10", "A2"}
	var list []api.Entry
	for range dice.IntN(9) {
		rep, num := dice.IntN(3), 1+dice.IntN(6)
		if dice.IntN(8) == 0 {
			rep, num = 15, api.MaxNum-dice.IntN(3)
		}
		e := en(rep, num, skus[(rep+num)%len(skus)], 1+(rep*7+num)%api.MaxQty)
		if clash && dice.IntN(6) == 0 {
			e.Sku = skus[dice.IntN(len(skus))]
		}
		if clash && dice.IntN(6) == 0 {
			e.Qty = api.MaxQty
		}
		list = append(list, e)
	}
	return list
}

// samples: lists in form, the same at every run of the tests.
func samples(count int) [][]api.Entry {
	dice := newDice()
	lists := edgeLists()
	for range count {
		list, err := sorting(loose(dice, true))
		if err == api.OK {
			lists = append(lists, list)
		}
	}
	return lists
}

// pasts: canonical ones, about the dots of the samples.
func pasts(count int) []api.Past {
	dice := newDice()
	all := []api.Past{{}, pa([]int{3}), pa([]int{0, 1}, sp(0, 3, 3), sp(1, 4, 4)), pa(slices.Repeat([]int{api.MaxNum}, 16)), pa(nil, sp(15, api.MaxNum, api.MaxNum)), pa(nil, sp(0, 2, api.MaxNum), sp(15, 2, 2)), pa(slices.Repeat([]int{1}, 16), sp(0, 3, 3), sp(0, 5, 5), sp(1, 3, 4), sp(1, 6, 6), sp(2, 5, 6))}
	for range count {
		p := api.Past{Vec: []int{dice.IntN(4), dice.IntN(4) - 1, dice.IntN(3) - 1}}
		for range dice.IntN(5) {
			lo := 1 + dice.IntN(6)
			p.Cloud = append(p.Cloud, sp(dice.IntN(3), lo, lo+dice.IntN(2)))
		}
		if dice.IntN(3) == 0 {
			p.Cloud = append(p.Cloud, sp(15, api.MaxNum-dice.IntN(3), api.MaxNum-dice.IntN(2)))
		}
		all = append(all, past.Norm(p))
	}
	return all
}

func newDice() *rand.Rand { return rand.New(rand.NewPCG(9, 10)) }

package swot_test

import (
	"cmp"
	"math/rand/v2"
	"slices"
	"testing"

	"barrow/api"
	"barrow/keep"
	"barrow/lines"
	"barrow/past"
	"barrow/sample"
	"barrow/swot"
)

var (
	en = sample.Entry
	pa = sample.Past
	re = sample.Record
	sp = sample.Span
)

func es(list ...api.Entry) []api.Entry { return list }

func rs(list ...api.Record) []api.Record { return list }

// one: a state with one live entry, which has heard of just that.
func one(e api.Entry) api.Swot { return api.Swot{Live: es(e), Past: past.Of([]api.Dot{e.Dot})} }

// gone: a state that has heard of some dots, and nothing is live.
func gone(vec ...int) api.Swot { return api.Swot{Past: pa(vec)} }

// waiting: a state that holds a record and nothing else.
func waiting(sku string, vec ...int) api.Swot { return api.Swot{Defer: rs(re(sku, vec))} }

func same(a, b api.Swot) bool { return sample.SameSwot(a, b) }

func isZero(s api.Swot) bool { return same(s, api.Swot{}) }

func holds(list []api.Entry, d api.Dot) bool {
	return slices.ContainsFunc(list, func(e api.Entry) bool { return e.Dot == d })
}

func isCovered(recs []api.Record, e api.Entry) bool {
	return slices.ContainsFunc(recs, func(r api.Record) bool { return sample.Covers(r, e) })
}

// inForm is the document's definition, word by word.
func inForm(s api.Swot) bool {
	if lines.Check(s.Live) != api.OK || !past.IsNorm(s.Past) || keep.Check(s.Defer) != api.OK {
		return false
	}
	if slices.ContainsFunc(s.Defer, func(r api.Record) bool { return past.Within(r.Past, s.Past) }) {
		return false
	}
	return !slices.ContainsFunc(s.Live, func(e api.Entry) bool { return !sample.Has(s.Past, e.Dot) || isCovered(s.Defer, e) })
}

// clash: is a dot live in both with unlike contents?
func clash(a, b api.Swot) bool {
	return slices.ContainsFunc(a.Live, func(x api.Entry) bool {
		return slices.ContainsFunc(b.Live, func(y api.Entry) bool { return x.Dot == y.Dot && (x.Sku != y.Sku || x.Qty != y.Qty) })
	})
}

// joining is 'What joins mean', word by word, of states in form that don't clash.
func joining(a, b api.Swot) api.Swot {
	var live []api.Entry
	for _, e := range slices.Concat(a.Live, b.Live) {
		both := holds(a.Live, e.Dot) && holds(b.Live, e.Dot)
		oneAlone := holds(a.Live, e.Dot) && !sample.Has(b.Past, e.Dot) || holds(b.Live, e.Dot) && !sample.Has(a.Past, e.Dot)
		if (both || oneAlone) && !isCovered(a.Defer, e) && !isCovered(b.Defer, e) && !holds(live, e.Dot) {
			live = append(live, e)
		}
	}
	slices.SortFunc(live, func(x, y api.Entry) int {
		return cmp.Or(cmp.Compare(x.Dot.Rep, y.Dot.Rep), cmp.Compare(x.Dot.Num, y.Dot.Num))
	})
	heard := past.Join(a.Past, b.Past)
	recs, _ := keep.Sort(slices.Concat(a.Defer, b.Defer))
	return api.Swot{Live: live, Past: heard, Defer: sample.Those(recs, func(r api.Record) bool { return !past.Within(r.Past, heard) })}
}

// standing is the chapter's definition of Order, of states in form that don't clash.
func standing(a, b api.Swot) int {
	within, behind := same(joining(a, b), b), same(joining(b, a), a)
	switch {
	case same(a, b):
		return api.Same
	case within:
		return api.Before
	case behind:
		return api.After
	}
	return api.Apart
}

// mixed: states in form; some of them clash.
func mixed(count int) []api.Swot { return sample.Swots(newDice().IntN, count) }

// alike: states in form of which no two clash; some of them are within others.
func alike(t *testing.T, count int) []api.Swot {
	t.Helper()
	all := append(sample.AlikeSwots(newDice().IntN, count), api.Swot{}, waiting("A", 2), waiting("", 1), gone(2, 1), api.Swot{Past: pa([]int{1}), Defer: rs(re("A", []int{3}), re("B", []int{0, 4}))})
	for i := range count / 2 {
		all = append(all, joined(t, all[i], all[i+1]))
	}
	return all
}

// joined: the Join, which must be OK.
func joined(t *testing.T, a, b api.Swot) api.Swot {
	t.Helper()
	got, err := swot.Join(a, b)
	if err != api.OK {
		t.Errorf("Join(%v, %v) = %v, %d", a, b, got, err)
	}
	return got
}

// thrown: states whose parts are each in form, and which may be out of form together.
func thrown(count int) []api.Swot {
	dice := newDice()
	lists, pasts, recs := sample.EntryLists(dice.IntN, 60), sample.Pasts(dice.IntN, 60), sample.RecordLists(dice.IntN, 60)
	var all []api.Swot
	for range count {
		s := api.Swot{Live: lists[dice.IntN(len(lists))], Past: pasts[dice.IntN(len(pasts))]}
		// Often without records, or with the live entries heard of: else hardly one is in form.
		if dice.IntN(2) == 0 {
			s.Defer = recs[dice.IntN(len(recs))]
		}
		if dice.IntN(2) == 0 {
			dots, _ := lines.Dots(s.Live)
			s.Past = past.Join(s.Past, dots)
		}
		all = append(all, s)
	}
	return all
}

func newDice() *rand.Rand { return rand.New(rand.NewPCG(17, 18)) }

package act_test

import (
	"cmp"
	"math"
	"math/rand/v2"
	"slices"

	"barrow/api"
	"barrow/goods"
	"barrow/keep"
	"barrow/lines"
	"barrow/past"
	"barrow/sample"
)

const (
	leastInt = math.MinInt
	greatInt = math.MaxInt
)

var (
	en = sample.Entry
	pa = sample.Past
	sp = sample.Span
)

func es(list ...api.Entry) []api.Entry { return list }

func re(sku string, p api.Past) []api.Record { return []api.Record{{Sku: sku, Past: p}} }

// given is what Decide is handed.
type given struct {
	live []api.Entry
	seen api.Past
	rep  int
	lim  api.Limits
	act  api.Act
}

// L, S and their limits, of the chapter's examples.
func exampleLive() []api.Entry { return es(en(0, 1, "A", 5), en(1, 2, "A", 7), en(1, 3, "B", 1)) }

func example(rep int, a api.Act) given {
	return given{exampleLive(), pa([]int{3, 3}), rep, api.Limits{Lines: 2, Count: 4}, a}
}

func set(sku string, qty int) api.Act { return api.Act{Kind: api.ActSet, Sku: sku, Qty: qty} }

func add(sku string, qty int) api.Act { return api.Act{Kind: api.ActAdd, Sku: sku, Qty: qty} }

func remove(sku string) api.Act { return api.Act{Kind: api.ActRemove, Sku: sku} }

func removeTo(sku string, p api.Past) api.Act {
	return api.Act{Kind: api.ActRemoveTo, Sku: sku, Past: p}
}

func clearAll() api.Act { return api.Act{Kind: api.ActClear} }

func clearTo(p api.Past) api.Act { return api.Act{Kind: api.ActClearTo, Past: p} }

// fault is the chapter's definition of Check, word by word.
func fault(a api.Act) api.Errno {
	uses := map[int][]string{1: {"sku", "qty"}, 2: {"sku", "qty"}, 3: {"sku"}, 4: {"sku", "past"}, 5: {}, 6: {"past"}}
	fields, known := uses[a.Kind]
	switch {
	case !known:
		return api.ErrKind
	case slices.Contains(fields, "past") && !past.IsNorm(a.Past):
		return api.ErrForm
	case slices.Contains(fields, "sku") && !goods.Good(a.Sku):
		return api.ErrSku
	case slices.Contains(fields, "qty") && !(a.Qty >= 1 && a.Qty <= 1000000):
		return api.ErrQty
	}
	return api.OK
}

// greatest: the replica's greatest number in a past.
func greatest(p api.Past, rep int) int {
	n := 0
	if rep < len(p.Vec) {
		n = p.Vec[rep]
	}
	for _, s := range p.Cloud {
		if s.Rep == rep {
			n = max(n, s.Hi)
		}
	}
	return n
}

func dots(list []api.Entry) api.Past {
	var all []api.Dot
	for _, e := range list {
		all = append(all, e.Dot)
	}
	return past.Of(all)
}

func sum(list []api.Entry) int {
	n := 0
	for _, e := range list {
		n += e.Qty
	}
	return n
}

// refusal is the chapter's list of Decide's errors in their order.
func refusal(g given) api.Errno {
	of := ofSku(g.live, g.act.Sku)
	adding := g.act.Kind == api.ActSet || g.act.Kind == api.ActAdd
	switch {
	case lines.Check(g.live) != api.OK, !past.IsNorm(g.seen), slices.ContainsFunc(g.live, func(e api.Entry) bool { return !sample.Has(g.seen, e.Dot) }):
		return api.ErrForm
	case !(g.rep >= 0 && g.rep <= 15):
		return api.ErrRep
	case !(g.lim.Lines >= 1 && g.lim.Lines <= 1000), !(g.lim.Count >= 1 && g.lim.Count <= 1000000000):
		return api.ErrArg
	case fault(g.act) != api.OK:
		return fault(g.act)
	case adding && len(of) == 0 && countSkus(g.live) >= g.lim.Lines:
		return api.ErrFull
	case g.act.Kind == api.ActAdd && sum(of)+g.act.Qty > 1000000:
		return api.ErrOver
	case adding && greatest(g.seen, g.rep) >= g.lim.Count:
		return api.ErrCount
	case g.act.Kind == api.ActRemove && len(of) == 0:
		return api.ErrAbsent
	}
	return api.OK
}

func ofSku(list []api.Entry, sku string) []api.Entry {
	return sample.Those(list, func(e api.Entry) bool { return e.Sku == sku })
}

func countSkus(list []api.Entry) int {
	skus := map[string]int{}
	for _, e := range list {
		skus[e.Sku]++
	}
	return len(skus)
}

// decided is the chapter's definition of Decide, word by word.
func decided(g given) (api.Facts, api.Errno) {
	if err := refusal(g); err != api.OK {
		return api.Facts{}, err
	}
	of := ofSku(g.live, g.act.Sku)
	own := sample.Those(of, func(e api.Entry) bool { return e.Dot.Rep == g.rep })
	next := api.Dot{Rep: g.rep, Num: greatest(g.seen, g.rep) + 1}
	none := len(g.act.Past.Vec)+len(g.act.Past.Cloud) == 0
	switch {
	case g.act.Kind == api.ActSet:
		return api.Facts{Adds: es(api.Entry{Dot: next, Sku: g.act.Sku, Qty: g.act.Qty}), Gone: dots(of)}, api.OK
	case g.act.Kind == api.ActAdd:
		return api.Facts{Adds: es(api.Entry{Dot: next, Sku: g.act.Sku, Qty: g.act.Qty + sum(own)}), Gone: dots(own)}, api.OK
	case g.act.Kind == api.ActRemove:
		return api.Facts{Gone: dots(of)}, api.OK
	case g.act.Kind == api.ActClear:
		return api.Facts{Gone: dots(g.live)}, api.OK
	case none:
		return api.Facts{}, api.OK
	case g.act.Kind == api.ActRemoveTo:
		return api.Facts{Recs: re(g.act.Sku, g.act.Past)}, api.OK
	}
	return api.Facts{Recs: re("", g.act.Past)}, api.OK
}

func inForm(f api.Facts) bool {
	return lines.Check(f.Adds) == api.OK && past.IsNorm(f.Gone) && keep.Check(f.Recs) == api.OK
}

// eventFault is the chapter's definition of Event, word by word.
func eventFault(f api.Facts) api.Errno {
	if !inForm(f) {
		return api.ErrForm
	}
	gone := len(f.Gone.Vec)+len(f.Gone.Cloud) > 0
	adds, recs := len(f.Adds), len(f.Recs)
	isA := adds == 0 && recs == 0 && !gone
	isB := adds == 1 && recs == 0 && greatest(f.Gone, f.Adds[0].Dot.Rep) < f.Adds[0].Dot.Num
	isC := adds == 0 && recs == 0 && gone
	isD := adds == 0 && recs == 1 && !gone
	if isA || isB || isC || isD {
		return api.OK
	}
	return api.ErrArg
}

// effected is the chapter's definition of Effect, word by word.
func effected(live []api.Entry, f api.Facts) ([]api.Entry, api.Errno) {
	if lines.Check(live) != api.OK {
		return nil, api.ErrForm
	}
	if err := eventFault(f); err != api.OK {
		return nil, err
	}
	var out []api.Entry
	for _, e := range live {
		if len(f.Adds) == 1 && f.Adds[0].Dot == e.Dot {
			return nil, api.ErrClash
		}
		covered := slices.ContainsFunc(f.Recs, func(r api.Record) bool { return sample.Covers(r, e) })
		if !sample.Has(f.Gone, e.Dot) && !covered {
			out = append(out, e)
		}
	}
	out = append(out, f.Adds...)
	slices.SortFunc(out, func(x, y api.Entry) int {
		return cmp.Or(cmp.Compare(x.Dot.Rep, y.Dot.Rep), cmp.Compare(x.Dot.Num, y.Dot.Num))
	})
	return out, api.OK
}

func newDice() *rand.Rand { return rand.New(rand.NewPCG(13, 14)) }

// pick: one of the list.
func pick[T any](dice *rand.Rand, list []T) T { return list[dice.IntN(len(list))] }

// acts: of every kind, edges and wrong ones among them.
func acts() []api.Act {
	skus := slices.Concat([]string{"A", "B", "A-1", "A2", "C", ""}, sample.WrongSkus()[:3])
	qtys := []int{leastInt, -1, 0, 1, 7, 999988, 999989, 1000000, 1000001, greatInt}
	contexts := slices.Concat(sample.Pasts(newDice().IntN, 4), sample.WrongPasts()[:4])
	var all []api.Act
	for _, kind := range []int{leastInt, -1, 0, 1, 2, 3, 4, 5, 6, 7, greatInt} {
		for _, sku := range skus {
			for i, qty := range qtys {
				all = append(all, api.Act{Kind: kind, Sku: sku, Qty: qty, Past: contexts[i]})
				all = append(all, api.Act{Kind: kind, Sku: sku, Qty: qty, Past: contexts[(i+5)%len(contexts)]})
			}
		}
	}
	return all
}

// goodActs: those that hang on nothing else.
func goodActs() []api.Act {
	return sample.Those(acts(), func(a api.Act) bool { return fault(a) == api.OK })
}

// scenes: what a replica may have when it decides; the act is left out.
func scenes(count int) []given {
	dice := newDice()
	var all []given
	for _, live := range slices.Concat(sample.EntryLists(dice.IntN, count), sample.AlikeEntryLists(dice.IntN, count)) {
		seen := past.Join(dots(live), past.Norm(sample.LoosePast(dice.IntN)))
		rep := pick(dice, []int{0, 1, 2, 3, 15})
		lim := api.Limits{Lines: pick(dice, []int{1, 2, 3, 5, 1000}), Count: pick(dice, []int{1, 4, 6, 7, 9, 1000000000})}
		all = append(all, given{live: live, seen: seen, rep: rep, lim: lim})
	}
	return all
}

// decisions: scenes and acts thrown together, most of them taken.
func decisions() []given {
	dice := newDice()
	acts := goodActs()
	var all []given
	for _, s := range scenes(120) {
		for range 60 {
			g := s
			g.act = pick(dice, acts)
			all = append(all, g)
		}
	}
	return all
}

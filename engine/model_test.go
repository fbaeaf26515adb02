package engine_test

import (
	"cmp"
	"math"
	"math/rand/v2"
	"slices"

	"barrow/api"
	"barrow/engine"
	"barrow/keep"
	"barrow/past"
	"barrow/sample"
	"barrow/swot"
	"barrow/tomb"
)

var (
	en = sample.Entry
	pa = sample.Past
	re = sample.Record
	sp = sample.Span
)

func es(list ...api.Entry) []api.Entry { return list }

func rs(list ...api.Record) []api.Record { return list }

func added(e api.Entry) api.Facts { return api.Facts{Adds: es(e)} }

func gone(vec ...int) api.Facts { return api.Facts{Gone: pa(vec)} }

// A world is an engine's calls, and the document's words on its states.
type world[S any] struct {
	name   string
	fold   func(list []S, workers int) (S, api.Errno)
	read   func(list []S, workers int) ([][]api.Line, api.Errno)
	replay func(events []api.Facts) (S, api.Errno)
	join   func(a, b S) (S, api.Errno)
	check  func(s S) api.Errno
	same   func(a, b S) bool
	// adds: the entries that count for a clash.
	adds func(s S) []api.Entry
	// of: the state of facts; facts: some whose state it is.
	of    func(f api.Facts) S
	facts func(s S) api.Facts
	mixed func(roll sample.Roll, count int) []S // some clash
	alike func(roll sample.Roll, count int) []S // no two clash
	wrong func() []S
}

func tombs() world[api.Facts] {
	itself := func(f api.Facts) api.Facts { return f }
	return world[api.Facts]{
		name: "Tomb", fold: engine.Fold[api.Facts, engine.Tomb], read: engine.Read[api.Facts, engine.Tomb], replay: engine.Replay[api.Facts, engine.Tomb],
		join: tomb.Join, check: tomb.Check, same: sample.SameFacts, adds: func(f api.Facts) []api.Entry { return f.Adds }, of: itself, facts: itself,
		mixed: sample.Facts, alike: sample.AlikeFacts, wrong: sample.WrongFacts,
	}
}

func swots() world[api.Swot] {
	return world[api.Swot]{
		name: "Swot", fold: engine.Fold[api.Swot, engine.Swot], read: engine.Read[api.Swot, engine.Swot], replay: engine.Replay[api.Swot, engine.Swot],
		join: swot.Join, check: swot.Check, same: sample.SameSwot, adds: func(s api.Swot) []api.Entry { return s.Live }, of: sample.State, facts: leastFacts,
		mixed: sample.Swots, alike: sample.AlikeSwots, wrong: sample.WrongSwots,
	}
}

// leastFacts: facts whose state is s, which is in form.
func leastFacts(s api.Swot) api.Facts {
	var live []api.Dot
	for _, e := range s.Live {
		live = append(live, e.Dot)
	}
	return api.Facts{Adds: s.Live, Gone: past.Minus(s.Past, past.Of(live)), Recs: s.Defer}
}

// union is what joining facts means, of any number of them at once; no two clash.
func union(list []api.Facts) api.Facts {
	var adds []api.Entry
	var pasts []api.Past
	var recs []api.Record
	for _, f := range list {
		adds, pasts, recs = append(adds, f.Adds...), append(pasts, f.Gone), append(recs, f.Recs...)
	}
	slices.SortFunc(adds, func(x, y api.Entry) int {
		return cmp.Or(cmp.Compare(x.Dot.Rep, y.Dot.Rep), cmp.Compare(x.Dot.Num, y.Dot.Num))
	})
	recs, _ = keep.Sort(recs)
	return api.Facts{Adds: slices.Compact(adds), Gone: past.Join(pasts...), Recs: recs}
}

// clash: is one dot in both lists with unlike contents?
func clash(a, b []api.Entry) bool {
	return slices.ContainsFunc(a, func(x api.Entry) bool {
		return slices.ContainsFunc(b, func(y api.Entry) bool { return x.Dot == y.Dot && (x.Sku != y.Sku || x.Qty != y.Qty) })
	})
}

// clashes: do two of the lists clash?
func clashes(lists [][]api.Entry) bool {
	for i, a := range lists {
		if slices.ContainsFunc(lists[i+1:], func(b []api.Entry) bool { return clash(a, b) }) {
			return true
		}
	}
	return false
}

func mapped[T, R any](list []T, f func(item T) R) []R {
	var out []R
	for _, item := range list {
		out = append(out, f(item))
	}
	return out
}

// folded is the chapter's definition of Fold: the form of all, then the clash of any two, then the state of all facts together.
func (w world[S]) folded(list []S) (S, api.Errno) {
	var none S
	if slices.ContainsFunc(list, func(s S) bool { return w.check(s) != api.OK }) {
		return none, api.ErrForm
	}
	if clashes(mapped(list, w.adds)) {
		return none, api.ErrClash
	}
	return w.of(union(mapped(list, w.facts))), api.OK
}

// toldOf is the document's definition of a cart's lines, of a state in form.
func (w world[S]) toldOf(s S) []api.Line {
	live := sample.State(w.facts(s)).Live
	skus := mapped(live, func(e api.Entry) string { return e.Sku })
	slices.Sort(skus)
	return mapped(slices.Compact(skus), func(sku string) api.Line {
		line := api.Line{Sku: sku}
		for _, e := range live {
			if e.Sku == sku {
				line.Qty, line.Parts = line.Qty+e.Qty, line.Parts+1
			}
		}
		return line
	})
}

func sameLists(a, b [][]api.Line) bool { return slices.EqualFunc(a, b, slices.Equal[[]api.Line]) }

// numbersOfWorkers: few and many, and those that count as others.
func numbersOfWorkers() []int {
	return []int{math.MinInt, -1, 0, 1, 2, 3, 5, 15, 16, 17, 100, math.MaxInt}
}

// thrownList: some of the states, in any order, some of them several times.
func thrownList[S any](roll sample.Roll, from []S, most int) []S {
	var list []S
	for range roll(most + 1) {
		list = append(list, from[roll(len(from))])
	}
	return list
}

func shuffled[S any](dice *rand.Rand, list []S) []S {
	list = slices.Clone(list)
	dice.Shuffle(len(list), func(i, j int) { list[i], list[j] = list[j], list[i] })
	return list
}

func newDice() *rand.Rand { return rand.New(rand.NewPCG(25, 26)) }

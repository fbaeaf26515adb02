package tomb_test

import (
	"math/rand/v2"
	"slices"
	"testing"

	"barrow/api"
	"barrow/keep"
	"barrow/lines"
	"barrow/past"
	"barrow/sample"
	"barrow/tomb"
)

var (
	en = sample.Entry
	pa = sample.Past
	re = sample.Record
	sp = sample.Span
)

func es(list ...api.Entry) []api.Entry { return list }

func rs(list ...api.Record) []api.Record { return list }

// f, g and h are those of the chapter's examples.
func f() api.Facts {
	return api.Facts{Adds: es(en(0, 1, "A", 5), en(0, 2, "B", 2), en(1, 1, "A", 1)), Gone: pa([]int{1})}
}

func g() api.Facts { return api.Facts{Recs: rs(re("A", []int{0, 2}))} }

func h() api.Facts { return api.Facts{Adds: es(en(1, 2, "A", 7))} }

func add(e api.Entry) api.Facts { return api.Facts{Adds: es(e)} }

func gone(vec ...int) api.Facts { return api.Facts{Gone: pa(vec)} }

func rec(sku string, vec ...int) api.Facts { return api.Facts{Recs: rs(re(sku, vec))} }

func same(a, b api.Facts) bool { return sample.SameFacts(a, b) }

func isZero(f api.Facts) bool { return same(f, api.Facts{}) }

// inForm is the document's definition.
func inForm(f api.Facts) bool {
	return lines.Check(f.Adds) == api.OK && past.IsNorm(f.Gone) && keep.Check(f.Recs) == api.OK
}

// hasAdd, hasRec: is this a fact of f? (Of the dots of Gone, sample.Has tells it.)
func hasAdd(f api.Facts, e api.Entry) bool {
	return slices.ContainsFunc(f.Adds, func(x api.Entry) bool { return x.Dot == e.Dot && x.Sku == e.Sku && x.Qty == e.Qty })
}

func hasRec(f api.Facts, r api.Record) bool {
	return slices.ContainsFunc(f.Recs, func(x api.Record) bool { return x.Sku == r.Sku && sample.SamePast(x.Past, r.Past) })
}

func removed(f api.Facts, e api.Entry) bool {
	return sample.Has(f.Gone, e.Dot) || slices.ContainsFunc(f.Recs, func(r api.Record) bool { return sample.Covers(r, e) })
}

// live is the document's definition, word by word.
func live(f api.Facts) []api.Entry {
	return sample.Those(f.Adds, func(e api.Entry) bool { return !removed(f, e) })
}

func heard(f api.Facts, d api.Dot) bool {
	return sample.Has(f.Gone, d) || slices.ContainsFunc(f.Adds, func(e api.Entry) bool { return e.Dot == d })
}

// clashing: the first dot that stands in both Adds with unlike contents.
func clashing(a, b api.Facts) (api.Dot, bool) {
	var first api.Dot
	found := false
	for _, x := range a.Adds {
		for _, y := range b.Adds {
			unlike := x.Dot == y.Dot && (x.Sku != y.Sku || x.Qty != y.Qty)
			ahead := x.Dot.Rep < first.Rep || x.Dot.Rep == first.Rep && x.Dot.Num < first.Num
			if unlike && (!found || ahead) {
				first, found = x.Dot, true
			}
		}
	}
	return first, found
}

// holdsJust: is got in form, and a fact in it just if it is wanted? The facts of a and b are asked about, and got's own.
func holdsJust(got, a, b api.Facts, wantAdd func(e api.Entry) bool, wantGone func(d api.Dot) bool, wantRec func(r api.Record) bool) bool {
	if !inForm(got) {
		return false
	}
	for _, e := range slices.Concat(a.Adds, b.Adds, got.Adds) {
		if hasAdd(got, e) != wantAdd(e) {
			return false
		}
	}
	for _, d := range sample.Dots() {
		if sample.Has(got.Gone, d) != wantGone(d) {
			return false
		}
	}
	for _, r := range slices.Concat(a.Recs, b.Recs, got.Recs) {
		if hasRec(got, r) != wantRec(r) {
			return false
		}
	}
	return true
}

// isUnion: is got the facts of both, each once?
func isUnion(got, a, b api.Facts) bool {
	return holdsJust(got, a, b,
		func(e api.Entry) bool { return hasAdd(a, e) || hasAdd(b, e) },
		func(d api.Dot) bool { return sample.Has(a.Gone, d) || sample.Has(b.Gone, d) },
		func(r api.Record) bool { return hasRec(a, r) || hasRec(b, r) })
}

// isLess: is got the facts of a that are no facts of b?
func isLess(got, a, b api.Facts) bool {
	return holdsJust(got, a, b,
		func(e api.Entry) bool { return hasAdd(a, e) && !hasAdd(b, e) },
		func(d api.Dot) bool { return sample.Has(a.Gone, d) && !sample.Has(b.Gone, d) },
		func(r api.Record) bool { return hasRec(a, r) && !hasRec(b, r) })
}

// within: is each fact of a a fact of b?
func within(a, b api.Facts) bool {
	for _, e := range a.Adds {
		if !hasAdd(b, e) {
			return false
		}
	}
	for _, d := range sample.Dots() {
		if sample.Has(a.Gone, d) && !sample.Has(b.Gone, d) {
			return false
		}
	}
	return !slices.ContainsFunc(a.Recs, func(r api.Record) bool { return !hasRec(b, r) })
}

// mixed: facts in form; some of them clash.
func mixed(count int) []api.Facts { return sample.Facts(newDice().IntN, count) }

// alike: facts in form of which no two clash; some of them are within others.
func alike(t *testing.T, count int) []api.Facts {
	t.Helper()
	all := append(sample.AlikeFacts(newDice().IntN, count), api.Facts{}, g(), gone(2, 1), rec("", 1))
	for i := range count / 2 {
		all = append(all, joined(t, all[i], all[i+1]))
	}
	return all
}

// joined: the Join, which must be OK.
func joined(t *testing.T, a, b api.Facts) api.Facts {
	t.Helper()
	got, err := tomb.Join(a, b)
	if err != api.OK {
		t.Errorf("Join(%v, %v) = %v, %d", a, b, got, err)
	}
	return got
}

func newDice() *rand.Rand { return rand.New(rand.NewPCG(15, 16)) }

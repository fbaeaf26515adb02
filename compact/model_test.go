package compact_test

import (
	"math/rand/v2"
	"slices"
	"testing"

	"barrow/api"
	"barrow/compact"
	"barrow/past"
	"barrow/sample"
	"barrow/swot"
	"barrow/tomb"
)

var (
	en = sample.Entry
	pa = sample.Past
	re = sample.Record
	sp = sample.Span
)

func es(list ...api.Entry) []api.Entry { return list }

func rs(list ...api.Record) []api.Record { return list }

func dot(rep, num int) api.Dot { return api.Dot{Rep: rep, Num: num} }

// example is f of the chapter's first examples.
func example() api.Facts {
	return api.Facts{
		Adds: es(en(0, 1, "A", 5), en(0, 2, "A", 2), en(1, 1, "B", 7)),
		Gone: pa([]int{1}, sp(2, 5, 5)),
		Recs: rs(re("", []int{0, 0, 0, 1}), re("A", []int{2})),
	}
}

// waiting and its rest are f and g of the chapter's last example.
func waiting() api.Facts {
	return api.Facts{Adds: es(en(0, 1, "A", 5)), Recs: rs(re("A", []int{2}))}
}

func rest() api.Facts { return api.Facts{Adds: es(en(0, 2, "A", 6))} }

func same(a, b api.Swot) bool { return sample.SameSwot(a, b) }

func sameFacts(a, b api.Facts) bool { return sample.SameFacts(a, b) }

// covering: how many records of f cover the entry?
func covering(f api.Facts, e api.Entry) int {
	return len(sample.Those(f.Recs, func(r api.Record) bool { return sample.Covers(r, e) }))
}

// fateOf is the chapter's definition of Fate, word by word, of facts in form and a dot.
func fateOf(f api.Facts, d api.Dot) api.Fate {
	fate := api.Fate{Dot: d}
	adds := sample.Those(f.Adds, func(e api.Entry) bool { return e.Dot == d })
	for _, e := range adds {
		fate.Recs = covering(f, e)
	}
	gone := sample.Has(f.Gone, d)
	switch {
	case !gone && len(adds) == 0:
		fate.Kind = api.FateUnknown
	case gone:
		fate.Kind = api.FateGone
	case fate.Recs > 0:
		fate.Kind = api.FateBarred
	default:
		fate.Kind = api.FateLive
	}
	return fate
}

// storyOf is the chapter's definition of Story, of facts in form and a good SKU.
func storyOf(f api.Facts, sku string) []api.Fate {
	var story []api.Fate
	for _, e := range f.Adds {
		if e.Sku == sku {
			story = append(story, fateOf(f, e.Dot))
		}
	}
	return story
}

// spentOf is the chapter's definition of Spent, of facts in form.
func spentOf(f api.Facts) api.Spent {
	heard := sample.State(f).Past
	dead := sample.Those(f.Adds, func(e api.Entry) bool { return fateOf(f, e.Dot).Kind != api.FateLive })
	ended := sample.Those(f.Recs, func(r api.Record) bool { return past.Within(r.Past, heard) })
	gone := 0
	for _, n := range f.Gone.Vec {
		gone += n
	}
	for _, s := range f.Gone.Cloud {
		gone += s.Hi - s.Lo + 1
	}
	return api.Spent{Adds: len(dead), Gone: gone, Recs: len(ended)}
}

// areLeast: are f the least facts of s, as the chapter says them word by word?
func areLeast(f api.Facts, s api.Swot) bool {
	if !slices.Equal(f.Adds, s.Live) || !past.IsNorm(f.Gone) || !sample.SameRecords(f.Recs, s.Defer) {
		return false
	}
	return !slices.ContainsFunc(sample.Dots(), func(d api.Dot) bool {
		live := slices.ContainsFunc(s.Live, func(e api.Entry) bool { return e.Dot == d })
		return sample.Has(f.Gone, d) != (sample.Has(s.Past, d) && !live)
	})
}

// mixed: facts in form; some of them clash.
func mixed(count int) []api.Facts {
	return append(sample.Facts(newDice().IntN, count), example(), waiting(), rest())
}

// alike: facts in form of which no two clash; some of them are within others.
func alike(t *testing.T, count int) []api.Facts {
	t.Helper()
	all := append(sample.AlikeFacts(newDice().IntN, count), api.Facts{}, api.Facts{Gone: pa([]int{2, 1})}, api.Facts{Recs: rs(re("", []int{1}))}, api.Facts{Recs: rs(re("A", []int{4, 4}))})
	for i := range count / 2 {
		all = append(all, joined(t, all[i], all[i+1]))
	}
	return all
}

// joined: the tomb.Join, which must be OK.
func joined(t *testing.T, a, b api.Facts) api.Facts {
	t.Helper()
	got, err := tomb.Join(a, b)
	if err != api.OK {
		t.Errorf("tomb.Join(%v, %v) = %v, %d", a, b, got, err)
	}
	return got
}

// joinedStates: the swot.Join, which must be OK.
func joinedStates(t *testing.T, a, b api.Swot) api.Swot {
	t.Helper()
	got, err := swot.Join(a, b)
	if err != api.OK {
		t.Errorf("swot.Join(%v, %v) = %v, %d", a, b, got, err)
	}
	return got
}

// compacted: the Compact, which must be OK.
func compacted(t *testing.T, f api.Facts) api.Swot {
	t.Helper()
	got, err := compact.Compact(f)
	if err != api.OK {
		t.Errorf("Compact(%v) = %v, %d", f, got, err)
	}
	return got
}

// pruned: the Prune, which must be OK.
func pruned(t *testing.T, f api.Facts) api.Facts {
	t.Helper()
	got, err := compact.Prune(f)
	if err != api.OK {
		t.Errorf("Prune(%v) = %v, %d", f, got, err)
	}
	return got
}

// expanded: the Expand, which must be OK.
func expanded(t *testing.T, s api.Swot) api.Facts {
	t.Helper()
	got, err := compact.Expand(s)
	if err != api.OK {
		t.Errorf("Expand(%v) = %v, %d", s, got, err)
	}
	return got
}

func newDice() *rand.Rand { return rand.New(rand.NewPCG(21, 22)) }

package compact

import (
	"cmp"
	"slices"

	"barrow/api"
	"barrow/keep"
	"barrow/lines"
	"barrow/past"
	"barrow/tomb"
)

// Fate: what became of the dot.
func Fate(f api.Facts, d api.Dot) (api.Fate, api.Errno) {
	if err := tomb.Check(f); err != api.OK {
		return api.Fate{}, err
	}
	if !isDot(d) {
		return api.Fate{}, api.ErrArg
	}
	if e, added := lines.Find(f.Adds, d); added {
		return fateOfAdd(f, e), api.OK
	}
	if past.Has(f.Gone, d) {
		return api.Fate{Dot: d, Kind: api.FateGone}, api.OK
	}
	return api.Fate{Dot: d, Kind: api.FateUnknown}, api.OK
}

func isDot(d api.Dot) bool {
	return 0 <= d.Rep && d.Rep < api.MaxReps && 1 <= d.Num && d.Num <= api.MaxNum
}

// Story: the fates of all adds of the SKU.
func Story(f api.Facts, sku string) ([]api.Fate, api.Errno) {
	if err := tomb.Check(f); err != api.OK {
		return nil, err
	}
	adds, err := lines.Of(f.Adds, sku)
	if err != api.OK {
		return nil, err
	}
	var story []api.Fate
	for _, e := range adds {
		story = append(story, fateOfAdd(f, e))
	}
	return story, api.OK
}

// fateOfAdd is for one of the adds of f, and for facts in form.
func fateOfAdd(f api.Facts, e api.Entry) api.Fate {
	fate := api.Fate{Dot: e.Dot, Kind: api.FateLive, Recs: bars(f.Recs, e)}
	switch {
	case past.Has(near(f.Gone, e.Dot), e.Dot):
		fate.Kind = api.FateGone
	case fate.Recs > 0:
		fate.Kind = api.FateBarred
	}
	return fate
}

// bars: how many of the records, which are in form, cover the entry.
func bars(recs []api.Record, e api.Entry) int {
	n := 0
	for _, r := range recs {
		if keep.Covers(api.Record{Sku: r.Sku, Past: near(r.Past, e.Dot)}, e) {
			n++
		}
	}
	return n
}

// near: of a canonical past what may hold the dot. past.Has and keep.Covers, which take any past, go through all of a cloud: too slow where each of many adds asks.
func near(p api.Past, d api.Dot) api.Past {
	at, _ := slices.BinarySearchFunc(p.Cloud, d, func(s api.Span, d api.Dot) int {
		return cmp.Or(cmp.Compare(s.Rep, d.Rep), cmp.Compare(s.Hi, d.Num))
	})
	return api.Past{Vec: p.Vec, Cloud: p.Cloud[at:min(at+1, len(p.Cloud))]}
}

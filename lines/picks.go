package lines

import (
	"cmp"
	"slices"

	"barrow/api"
	"barrow/goods"
	"barrow/past"
)

// Find: the entry of the dot.
func Find(es []api.Entry, d api.Dot) (api.Entry, bool) {
	at := slices.IndexFunc(es, func(e api.Entry) bool { return e.Dot == d })
	if at < 0 {
		return api.Entry{}, false
	}
	return es[at], true
}

// pick: those of the entries, in their order, for which keep holds.
func pick(es []api.Entry, keep func(e api.Entry) bool) []api.Entry {
	var out []api.Entry
	for _, e := range es {
		if keep(e) {
			out = append(out, e)
		}
	}
	return out
}

// Of: the entries of the SKU.
func Of(es []api.Entry, sku string) ([]api.Entry, api.Errno) {
	if err := Check(es); err != api.OK {
		return nil, err
	}
	if !goods.Good(sku) {
		return nil, api.ErrSku
	}
	return pick(es, func(e api.Entry) bool { return e.Sku == sku }), api.OK
}

// Own: the replica's entries of the SKU.
func Own(es []api.Entry, rep int, sku string) ([]api.Entry, api.Errno) {
	if err := Check(es); err != api.OK {
		return nil, err
	}
	if !isRep(rep) {
		return nil, api.ErrRep
	}
	if !goods.Good(sku) {
		return nil, api.ErrSku
	}
	return pick(es, func(e api.Entry) bool { return e.Dot.Rep == rep && e.Sku == sku }), api.OK
}

// Dots: the entries' dots as a context.
func Dots(es []api.Entry) (api.Past, api.Errno) {
	if err := Check(es); err != api.OK {
		return api.Past{}, err
	}
	var dots []api.Dot
	for _, e := range es {
		dots = append(dots, e.Dot)
	}
	return past.Of(dots), api.OK
}

// Inside: the entries whose dots are in p.
func Inside(es []api.Entry, p api.Past) ([]api.Entry, api.Errno) { return parted(es, p, true) }

// Outside: the entries whose dots aren't in p.
func Outside(es []api.Entry, p api.Past) ([]api.Entry, api.Errno) { return parted(es, p, false) }

func parted(es []api.Entry, p api.Past, inside bool) ([]api.Entry, api.Errno) {
	if Check(es) != api.OK || !past.IsNorm(p) {
		return nil, api.ErrForm
	}
	return pick(es, func(e api.Entry) bool { return past.Has(near(p, e.Dot), e.Dot) == inside }), api.OK
}

// near: of a canonical past what may hold the dot. past.Has, which takes any past, goes through all of a cloud: too slow where each of many entries asks.
func near(p api.Past, d api.Dot) api.Past {
	at, _ := slices.BinarySearchFunc(p.Cloud, d, func(s api.Span, d api.Dot) int {
		return cmp.Or(cmp.Compare(s.Rep, d.Rep), cmp.Compare(s.Hi, d.Num))
	})
	return api.Past{Vec: p.Vec, Cloud: p.Cloud[at:min(at+1, len(p.Cloud))]}
}

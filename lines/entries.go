package lines

import (
	"cmp"
	"slices"

	"barrow/api"
	"barrow/goods"
)

// CheckEntry: is the entry in form?
func CheckEntry(e api.Entry) api.Errno {
	switch {
	case !isRep(e.Dot.Rep):
		return api.ErrRep
	case e.Dot.Num < 1 || e.Dot.Num > api.MaxNum:
		return api.ErrArg
	case !goods.Good(e.Sku):
		return api.ErrSku
	case e.Qty < 1 || e.Qty > api.MaxQty:
		return api.ErrQty
	}
	return api.OK
}

func isRep(rep int) bool { return 0 <= rep && rep < api.MaxReps }

// Check: is the list in form?
func Check(es []api.Entry) api.Errno {
	for i, e := range es {
		if CheckEntry(e) != api.OK || i > 0 && byDot(es[i-1], e) >= 0 {
			return api.ErrForm
		}
	}
	return api.OK
}

func byDot(x, y api.Entry) int {
	return cmp.Or(cmp.Compare(x.Dot.Rep, y.Dot.Rep), cmp.Compare(x.Dot.Num, y.Dot.Num))
}

// Sort: the entries in form, each once.
func Sort(es []api.Entry) ([]api.Entry, api.Errno) {
	for _, e := range es {
		if err := CheckEntry(e); err != api.OK {
			return nil, err
		}
	}
	return rising(slices.Clone(es))
}

// Union: the entries of both.
func Union(a, b []api.Entry) ([]api.Entry, api.Errno) {
	if Check(a) != api.OK || Check(b) != api.OK {
		return nil, api.ErrForm
	}
	return rising(slices.Concat(a, b))
}

// rising sorts its own list; the entries are in form.
func rising(es []api.Entry) ([]api.Entry, api.Errno) {
	slices.SortFunc(es, byDot)
	es = slices.Compact(es)
	for i := range es {
		// Behind Compact two of one dot differ in something else.
		if i > 0 && es[i-1].Dot == es[i].Dot {
			return nil, api.ErrClash
		}
	}
	return es, api.OK
}

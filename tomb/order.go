package tomb

import (
	"cmp"
	"slices"

	"barrow/api"
	"barrow/keep"
	"barrow/past"
)

// Within: are all facts of a in b?
func Within(a, b api.Facts) (bool, api.Errno) {
	if err := checkBoth(a, b); err != api.OK {
		return false, err
	}
	return within(a, b), api.OK
}

// within is for facts in form, as are less and its parts.
func within(a, b api.Facts) bool {
	rest := less(a, b)
	return len(rest.Adds) == 0 && past.Empty(rest.Gone) && len(rest.Recs) == 0
}

// Order: how a stands to b (api.Same, Before, After, Apart).
func Order(a, b api.Facts) (int, api.Errno) {
	if err := checkBoth(a, b); err != api.OK {
		return 0, err
	}
	below, above := within(a, b), within(b, a)
	switch {
	case below && above:
		return api.Same, api.OK
	case below:
		return api.Before, api.OK
	case above:
		return api.After, api.OK
	}
	return api.Apart, api.OK
}

// Less: the facts of a that aren't in b.
func Less(a, b api.Facts) (api.Facts, api.Errno) {
	if err := checkBoth(a, b); err != api.OK {
		return api.Facts{}, err
	}
	return less(a, b), api.OK
}

func less(a, b api.Facts) api.Facts {
	return api.Facts{Adds: lessAdds(a.Adds, b.Adds), Gone: past.Minus(a.Gone, b.Gone), Recs: lessRecs(a.Recs, b.Recs)}
}

func lessAdds(a, b []api.Entry) []api.Entry {
	var out []api.Entry
	for _, e := range a {
		if other, found := addOf(b, e.Dot); !found || other != e {
			out = append(out, e)
		}
	}
	return out
}

func lessRecs(a, b []api.Record) []api.Record {
	var out []api.Record
	for _, r := range a {
		if _, found := slices.BinarySearchFunc(b, r, keep.Compare); !found {
			// Norm leaves the past as it is, in memory of its own.
			out = append(out, api.Record{Sku: r.Sku, Past: past.Norm(r.Past)})
		}
	}
	return out
}

// Clash: the first dot that has one content in a and another in b.
func Clash(a, b api.Facts) (api.Dot, bool) {
	if checkBoth(a, b) != api.OK {
		return api.Dot{}, false
	}
	for _, e := range a.Adds {
		if other, found := addOf(b.Adds, e.Dot); found && other != e {
			return e.Dot, true
		}
	}
	return api.Dot{}, false
}

// addOf: the entry of the dot, in a list in form. lines.Find, which takes any list, goes through all of it: too slow where each of many entries asks.
func addOf(es []api.Entry, d api.Dot) (api.Entry, bool) {
	at, found := slices.BinarySearchFunc(es, d, func(e api.Entry, d api.Dot) int {
		return cmp.Or(cmp.Compare(e.Dot.Rep, d.Rep), cmp.Compare(e.Dot.Num, d.Num))
	})
	if !found {
		return api.Entry{}, false
	}
	return es[at], true
}

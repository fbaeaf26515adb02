package keep

import (
	"cmp"
	"maps"
	"slices"
	"strings"

	"barrow/api"
	"barrow/lines"
	"barrow/past"
)

// CheckRecord: is the record in form?
func CheckRecord(r api.Record) api.Errno {
	switch {
	case !isSkuOrEmpty(r.Sku):
		return api.ErrSku
	case !past.IsNorm(r.Past) || past.Empty(r.Past):
		return api.ErrForm
	}
	return api.OK
}

// isSkuOrEmpty asks lines for what a SKU is, since this layer stands on lines and past alone.
func isSkuOrEmpty(sku string) bool {
	_, err := lines.Of(nil, sku)
	return sku == "" || err == api.OK
}

// Check: is the list in form?
func Check(rs []api.Record) api.Errno {
	for i, r := range rs {
		if CheckRecord(r) != api.OK || i > 0 && Compare(rs[i-1], r) >= 0 {
			return api.ErrForm
		}
	}
	return api.OK
}

// Compare: -1, 0 or 1, the order of records.
func Compare(a, b api.Record) int {
	if by := strings.Compare(a.Sku, b.Sku); by != 0 {
		return by
	}
	return past.Compare(a.Past, b.Past)
}

// Sort: the records in form, each once.
func Sort(rs []api.Record) ([]api.Record, api.Errno) {
	var out []api.Record
	for _, r := range rs {
		if !isSkuOrEmpty(r.Sku) {
			return nil, api.ErrSku
		}
		if !past.Empty(r.Past) {
			out = append(out, copied(r))
		}
	}
	slices.SortFunc(out, Compare)
	return slices.CompactFunc(out, func(x, y api.Record) bool { return Compare(x, y) == 0 }), api.OK
}

// copied: the record in memory of its own, its past in canonical form.
func copied(r api.Record) api.Record { return api.Record{Sku: r.Sku, Past: past.Norm(r.Past)} }

// Union: the records of both.
func Union(a, b []api.Record) ([]api.Record, api.Errno) {
	if Check(a) != api.OK || Check(b) != api.OK {
		return nil, api.ErrForm
	}
	var out []api.Record
	for len(a) > 0 && len(b) > 0 {
		switch by := Compare(a[0], b[0]); {
		case by < 0:
			out, a = append(out, copied(a[0])), a[1:]
		case by > 0:
			out, b = append(out, copied(b[0])), b[1:]
		default: // one of the two is enough
			a = a[1:]
		}
	}
	for _, r := range slices.Concat(a, b) {
		out = append(out, copied(r))
	}
	return out, api.OK
}

// Waits: the records whose context isn't within p.
func Waits(rs []api.Record, p api.Past) ([]api.Record, api.Errno) {
	if Check(rs) != api.OK || !past.IsNorm(p) {
		return nil, api.ErrForm
	}
	var out []api.Record
	for _, r := range rs {
		if !within(r.Past, p) {
			out = append(out, copied(r))
		}
	}
	return out, api.OK
}

// within is past.Within, for canonical pasts: that one takes any, and goes through all of p, which is too slow where each of many records asks.
func within(a, p api.Past) bool {
	for rep, n := range a.Vec {
		if n > 0 && !holds(p, api.Span{Rep: rep, Lo: 1, Hi: n}) {
			return false
		}
	}
	return !slices.ContainsFunc(a.Cloud, func(s api.Span) bool { return !holds(p, s) })
}

// holds: of a canonical past no two pieces touch, so that a span is in it just if it is in one piece.
func holds(p api.Past, s api.Span) bool {
	if s.Rep < len(p.Vec) && s.Hi <= p.Vec[s.Rep] {
		return true
	}
	at, _ := slices.BinarySearchFunc(p.Cloud, s, func(x, s api.Span) int {
		return cmp.Or(cmp.Compare(x.Rep, s.Rep), cmp.Compare(x.Hi, s.Hi))
	})
	return at < len(p.Cloud) && p.Cloud[at].Rep == s.Rep && p.Cloud[at].Lo <= s.Lo
}

// Fold: one record a SKU, which cover the same entries.
func Fold(rs []api.Record) ([]api.Record, api.Errno) {
	if err := Check(rs); err != api.OK {
		return nil, err
	}
	bySku := map[string][]api.Past{}
	for _, r := range rs {
		bySku[r.Sku] = append(bySku[r.Sku], r.Past)
	}
	all := past.Join(bySku[""]...)
	var out []api.Record
	for _, sku := range slices.Sorted(maps.Keys(bySku)) {
		own := past.Join(bySku[sku]...)
		if sku != "" {
			own = past.Minus(own, all)
		}
		if !past.Empty(own) {
			out = append(out, api.Record{Sku: sku, Past: own})
		}
	}
	return out, api.OK
}

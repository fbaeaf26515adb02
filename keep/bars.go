package keep

import (
	"slices"

	"barrow/api"
	"barrow/lines"
	"barrow/past"
)

// Covers: does the record cover the entry?
func Covers(r api.Record, e api.Entry) bool {
	return (r.Sku == "" || r.Sku == e.Sku) && past.Has(r.Past, e.Dot)
}

// Bars: how many of the records cover the entry.
func Bars(rs []api.Record, e api.Entry) int {
	n := 0
	for _, r := range rs {
		if Covers(r, e) {
			n++
		}
	}
	return n
}

// Apply: the entries that no record covers.
func Apply(es []api.Entry, rs []api.Record) ([]api.Entry, api.Errno) {
	if err := lines.Check(es); err != api.OK {
		return nil, err
	}
	// Few records, and each held against its entries as a set: Bars, entry by entry, would go through all of them each time.
	folded, err := Fold(rs)
	if err != api.OK {
		return nil, err
	}
	if len(folded) == 0 {
		// Most states have no record, and are asked often.
		return slices.Clone(es), api.OK
	}
	dots := dotsBySku(es)
	var barred []api.Past
	for _, r := range folded {
		barred = append(barred, past.Meet(past.Of(dots[r.Sku]), r.Past))
	}
	return lines.Outside(es, past.Join(barred...))
}

// dotsBySku: of each SKU the dots of its entries; of the empty one, which stands for every SKU in a record, those of all entries.
func dotsBySku(es []api.Entry) map[string][]api.Dot {
	dots := map[string][]api.Dot{}
	for _, e := range es {
		dots[e.Sku] = append(dots[e.Sku], e.Dot)
		dots[""] = append(dots[""], e.Dot)
	}
	return dots
}

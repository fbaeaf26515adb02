package audit

import (
	"cmp"
	"slices"

	"barrow/api"
	"barrow/keep"
	"barrow/lines"
	"barrow/past"
)

// Faults: the numbers of the rules that the state breaks, rising.
func Faults(s api.Swot) []int {
	broken := [...]bool{
		slices.ContainsFunc(s.Live, isNoEntry),
		!rises(s.Live, compareDots),
		!past.IsNorm(s.Past),
		hasUnheard(s.Live, s.Past),
		slices.ContainsFunc(s.Defer, isNoRecord),
		!rises(s.Defer, keep.Compare),
		hasEnded(s.Defer, s.Past),
		hasCovered(s.Live, s.Defer),
	}
	var numbers []int
	for i, is := range broken {
		if is {
			numbers = append(numbers, i+1)
		}
	}
	return numbers
}

func isNoEntry(e api.Entry) bool { return lines.CheckEntry(e) != api.OK }

func isNoRecord(r api.Record) bool { return keep.CheckRecord(r) != api.OK }

// rises: does the list rise strictly?
func rises[T any](list []T, compare func(x, y T) int) bool {
	for i := 1; i < len(list); i++ {
		if compare(list[i-1], list[i]) >= 0 {
			return false
		}
	}
	return true
}

func compareDots(x, y api.Entry) int {
	return cmp.Or(cmp.Compare(x.Dot.Rep, y.Dot.Rep), cmp.Compare(x.Dot.Num, y.Dot.Num))
}

// hasUnheard: is the dot of an entry not in the past?
func hasUnheard(live []api.Entry, heard api.Past) bool {
	dots := make([]api.Dot, 0, len(live))
	for _, e := range live {
		// What is no dot is in no past, and past.Of would leave it out.
		if !isDot(e.Dot) {
			return true
		}
		dots = append(dots, e.Dot)
	}
	return !past.Within(past.Of(dots), heard)
}

func isDot(d api.Dot) bool {
	return 0 <= d.Rep && d.Rep < api.MaxReps && 1 <= d.Num && d.Num <= api.MaxNum
}

// hasEnded: is the past of a record within what was heard?
func hasEnded(rs []api.Record, heard api.Past) bool {
	var bare []api.Record
	for _, r := range rs {
		// keep.Sort would leave it out.
		if past.Empty(r.Past) {
			return true
		}
		bare = append(bare, api.Record{Past: r.Past})
	}
	// In form, and without SKUs, which may be none: so keep takes them, which looks each one up by search.
	bare, _ = keep.Sort(bare)
	waits, _ := keep.Waits(bare, past.Norm(heard))
	return len(waits) < len(bare)
}

// hasCovered: does a record cover an entry?
func hasCovered(live []api.Entry, rs []api.Record) bool {
	// SKU by SKU, as sets: to hold each record against each entry is too slow where both are many.
	dots := map[string][]api.Dot{}
	for _, e := range live {
		dots[e.Sku] = append(dots[e.Sku], e.Dot)
		// In a record the empty SKU stands for every one.
		dots[""] = append(dots[""], e.Dot)
	}
	pasts := map[string][]api.Past{}
	for _, r := range rs {
		pasts[r.Sku] = append(pasts[r.Sku], r.Past)
	}
	for sku, list := range pasts {
		if !past.Empty(past.Meet(past.Of(dots[sku]), past.Join(list...))) {
			return true
		}
	}
	return false
}

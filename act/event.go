package act

import (
	"barrow/api"
	"barrow/keep"
	"barrow/lines"
	"barrow/past"
)

// Empty: do the facts say nothing?
func Empty(f api.Facts) bool {
	return len(f.Adds) == 0 && len(f.Recs) == 0 && past.Empty(f.Gone)
}

// Event: are the facts in form, and such as an act can make?
func Event(f api.Facts) api.Errno {
	switch {
	case lines.Check(f.Adds) != api.OK || !past.IsNorm(f.Gone) || keep.Check(f.Recs) != api.OK:
		return api.ErrForm
	case !isOneActs(f):
		return api.ErrArg
	}
	return api.OK
}

// isOneActs: could one act have made the facts? They are in form.
func isOneActs(f api.Facts) bool {
	switch {
	case len(f.Adds) == 0 && len(f.Recs) == 0:
		return true
	case len(f.Adds) == 1 && len(f.Recs) == 0:
		// A new dot comes behind all that its replica knows of its own.
		dot := f.Adds[0].Dot
		return past.Last(f.Gone, dot.Rep) < dot.Num
	}
	return len(f.Adds) == 0 && len(f.Recs) == 1 && past.Empty(f.Gone)
}

// Effect: the live entries behind the event.
func Effect(live []api.Entry, f api.Facts) ([]api.Entry, api.Errno) {
	if err := lines.Check(live); err != api.OK {
		return nil, err
	}
	if err := Event(f); err != api.OK {
		return nil, err
	}
	for _, e := range f.Adds {
		if _, found := lines.Find(live, e.Dot); found {
			return nil, api.ErrClash
		}
	}
	stay, _ := lines.Outside(live, f.Gone)
	stay, _ = keep.Apply(stay, f.Recs)
	return lines.Union(stay, f.Adds)
}

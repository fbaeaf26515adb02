package keep_test

import (
	"slices"
	"testing"

	"barrow/api"
	"barrow/keep"
	"barrow/lines"
	"barrow/sample"
)

// merged is the chapter's kernel rule, word by word; what is handed in is in form.
func merged(a []api.Entry, ap api.Past, b []api.Entry, bp api.Past) ([]api.Entry, api.Errno) {
	var kept []api.Entry
	for _, e := range a {
		at := slices.IndexFunc(b, func(x api.Entry) bool { return x.Dot == e.Dot })
		if at >= 0 && (b[at].Sku != e.Sku || b[at].Qty != e.Qty) {
			return nil, api.ErrClash
		}
		if at >= 0 || !sample.Has(bp, e.Dot) {
			kept = append(kept, e)
		}
	}
	for _, e := range b {
		if !sample.Has(ap, e.Dot) {
			kept = append(kept, e)
		}
	}
	return rising(kept), api.OK
}

func checkMerge(t *testing.T, a []api.Entry, ap api.Past, b []api.Entry, bp api.Past) {
	t.Helper()
	want, wantErr := merged(a, ap, b, bp)
	got, err := keep.Merge(a, ap, b, bp)
	if !sameEntries(got, want) || err != wantErr {
		t.Errorf("Merge(%v, %v, %v, %v) = %v, %d, want %v, %d", a, ap, b, bp, got, err, want, wantErr)
	}
	back, backErr := keep.Merge(b, bp, a, ap)
	if !sameEntries(back, got) || backErr != err {
		t.Errorf("Merge(%v, %v, %v, %v) = %v, %d, the other way %v, %d", a, ap, b, bp, got, err, back, backErr)
	}
	if lines.Check(got) != api.OK {
		t.Errorf("Merge(%v, %v, %v, %v) = %v isn't in form", a, ap, b, bp, got)
	}
}

func TestMerge(t *testing.T) { // P7.5
	dice := newDice()
	contexts := pasts(60)
	throw := func() api.Past { return contexts[dice.IntN(len(contexts))] }
	alike := sample.AlikeEntryLists(dice.IntN, 40)
	unlike := sample.EntryLists(dice.IntN, 40)
	for _, lists := range [][][]api.Entry{alike, unlike} {
		for _, a := range lists {
			for _, b := range lists {
				for range 10 {
					checkMerge(t, a, throw(), b, throw())
				}
			}
		}
	}
}

func TestMergesExamples(t *testing.T) { // P7.5
	a5, b2, c1 := en(0, 1, "A", 5), en(0, 2, "B", 2), en(1, 1, "C", 1)
	for _, c := range []struct {
		a    []api.Entry
		ap   api.Past
		b    []api.Entry
		bp   api.Past
		want []api.Entry
		err  api.Errno
	}{
		{es(a5, b2), pa([]int{2}), es(a5, c1), pa([]int{2, 1}), es(a5, c1), api.OK}, {es(a5), pa([]int{1}), es(en(0, 1, "A", 6)), pa([]int{1}), nil, api.ErrClash}, {es(a5), pa([]int{1}), es(en(0, 1, "B", 5)), pa([]int{1}), nil, api.ErrClash},
		{es(a5), pa([]int{0}), es(en(0, 1, "A", 6)), pa([]int{1}), nil, api.ErrForm}, {es(a5), pa([]int{1}), nil, pa(nil), es(a5), api.OK}, {es(a5), pa([]int{1}), nil, pa([]int{1}), nil, api.OK}, {es(c1), pa(nil), es(a5), pa(nil), es(a5, c1), api.OK},
		// It isn't asked that a state's dots are in its past.
		{es(a5, b2), pa(nil), es(a5), pa([]int{2}), es(a5), api.OK}, {es(a5), pa([]int{0, 1}), es(a5, c1), pa(nil), es(a5), api.OK}, {es(a5), pa([]int{1}), es(a5), pa([]int{1}), es(a5), api.OK}, {nil, pa([]int{9}), nil, pa(nil, sp(3, 7, 8)), nil, api.OK},
	} {
		if got, err := keep.Merge(c.a, c.ap, c.b, c.bp); !sameEntries(got, c.want) || err != c.err {
			t.Errorf("Merge(%v, %v, %v, %v) = %v, %d, want %v, %d", c.a, c.ap, c.b, c.bp, got, err, c.want, c.err)
		}
	}
}

func TestMergeOutOfForm(t *testing.T) { // P7.5
	refused := func(a []api.Entry, ap api.Past, b []api.Entry, bp api.Past) {
		t.Helper()
		if got, err := keep.Merge(a, ap, b, bp); len(got) != 0 || err != api.ErrForm {
			t.Errorf("Merge(%v, %v, %v, %v) = %v, %d", a, ap, b, bp, got, err)
		}
	}
	// Where the lists clash too, the form is asked ahead of that.
	one, two, p := es(en(0, 1, "A", 5)), es(en(0, 1, "A", 6)), pa([]int{1})
	for _, wrong := range sample.WrongEntryLists() {
		refused(wrong, p, two, p)
		refused(one, p, wrong, p)
		refused(wrong, p, wrong, p)
	}
	for _, wrong := range sample.WrongPasts() {
		refused(one, wrong, two, p)
		refused(one, p, two, wrong)
		refused(nil, wrong, nil, wrong)
	}
}

package act_test

import (
	"slices"
	"sync"
	"testing"

	"barrow/act"
	"barrow/api"
	"barrow/past"
	"barrow/sample"
)

// facts: all kinds of them, events and others, in form and not.
func facts() []api.Facts {
	dice := newDice()
	adds := slices.Concat(sample.EdgeEntryLists(), sample.AlikeEntryLists(dice.IntN, 8), sample.WrongEntryLists()[:12], [][]api.Entry{es(en(0, 4, "A", 1)), es(en(1, 5, "B", 2)), es(en(15, 1000000000, "A", 1))})
	gone := slices.Concat(sample.Pasts(dice.IntN, 6), sample.WrongPasts()[:6], []api.Past{pa([]int{3}), pa([]int{4}), pa(nil, sp(0, 4, 4)), pa(nil, sp(0, 5, 5)), pa(nil, sp(1, 5, 5)), pa(nil, sp(15, 2, 999999999))})
	recs := slices.Concat(sample.EdgeRecordLists()[:5], sample.WrongRecordLists()[:3])
	var all []api.Facts
	for _, a := range adds {
		for _, g := range gone {
			for _, r := range recs {
				all = append(all, api.Facts{Adds: a, Gone: g, Recs: r})
			}
		}
	}
	return all
}

func TestEmpty(t *testing.T) { // P8.1
	for _, f := range facts() {
		want := len(f.Adds) == 0 && len(f.Recs) == 0 && past.Size(f.Gone) == 0
		if got := act.Empty(f); got != want {
			t.Errorf("Empty(%v) = %t", f, got)
		}
	}
	for _, c := range []struct {
		f    api.Facts
		want bool
	}{
		{api.Facts{}, true}, {api.Facts{Adds: es(), Recs: []api.Record{}, Gone: pa([]int{})}, true}, {api.Facts{Gone: pa([]int{0, -1}, sp(16, 1, 1), sp(0, 2, 1))}, true}, {api.Facts{Gone: pa([]int{0, 1})}, false}, {api.Facts{Gone: pa(nil, sp(0, 0, 1))}, false},
		{api.Facts{Adds: es(api.Entry{})}, false}, {api.Facts{Recs: []api.Record{{}}}, false},
	} {
		if got := act.Empty(c.f); got != c.want {
			t.Errorf("Empty(%v) = %t", c.f, got)
		}
	}
}

func TestEvent(t *testing.T) { // P8.1
	for _, f := range facts() {
		if got := act.Event(f); got != eventFault(f) {
			t.Errorf("Event(%v) = %d, want %d", f, got, eventFault(f))
		}
	}
	one, rec := es(en(0, 4, "A", 1)), re("A", pa([]int{1}))
	for _, c := range []struct {
		f    api.Facts
		want api.Errno
	}{
		{api.Facts{}, api.OK}, {api.Facts{Adds: one}, api.OK}, {api.Facts{Adds: one, Gone: pa(nil, sp(0, 5, 5))}, api.ErrArg}, {api.Facts{Adds: one, Gone: pa(nil, sp(0, 4, 4))}, api.ErrArg}, {api.Facts{Adds: one, Gone: pa([]int{3})}, api.OK}, {api.Facts{Adds: one, Gone: pa([]int{4})}, api.ErrArg},
		{api.Facts{Adds: one, Gone: pa(nil, sp(1, 5, 5))}, api.OK}, {api.Facts{Adds: one, Gone: pa([]int{1}, sp(0, 5, 5))}, api.ErrArg}, {api.Facts{Adds: one, Recs: rec}, api.ErrArg}, {api.Facts{Recs: rec}, api.OK}, {api.Facts{Recs: rec, Gone: pa(nil, sp(1, 5, 5))}, api.ErrArg},
		{api.Facts{Adds: exampleLive()}, api.ErrArg}, {api.Facts{Recs: []api.Record{{Past: pa([]int{1})}, {Past: pa([]int{2})}}}, api.ErrArg}, {api.Facts{Gone: pa([]int{0})}, api.ErrForm}, {api.Facts{Adds: es(en(0, 0, "A", 1))}, api.ErrForm}, {api.Facts{Gone: pa([]int{1})}, api.OK}, {api.Facts{Recs: re("a", pa([]int{1})), Adds: one}, api.ErrForm},
	} {
		if got := act.Event(c.f); got != c.want {
			t.Errorf("Event(%v) = %d, want %d", c.f, got, c.want)
		}
	}
}

func checkEffect(t *testing.T, live []api.Entry, f api.Facts) {
	t.Helper()
	got, err := act.Effect(live, f)
	if want, wantErr := effected(live, f); !slices.Equal(got, want) || err != wantErr {
		t.Errorf("Effect(%v, %v) = %v, %d, want %v, %d", live, f, got, err, want, wantErr)
	}
}

func TestEffect(t *testing.T) { // P8.3
	dice := newDice()
	lists := slices.Concat(sample.EntryLists(dice.IntN, 40), sample.WrongEntryLists()[:4])
	for _, f := range facts() {
		checkEffect(t, pick(dice, lists), f)
	}
	events := sample.Those(facts(), func(f api.Facts) bool { return eventFault(f) == api.OK })
	for _, live := range lists {
		for _, f := range events {
			checkEffect(t, live, f)
		}
	}
}

func TestEffectsExamples(t *testing.T) { // P8.3
	one := es(en(1, 3, "B", 1))
	for _, c := range []struct {
		live []api.Entry
		f    api.Facts
		want []api.Entry
		err  api.Errno
	}{
		{exampleLive(), api.Facts{Adds: es(en(0, 4, "A", 9)), Gone: pa([]int{1}, sp(1, 2, 2))}, es(en(0, 4, "A", 9), en(1, 3, "B", 1)), api.OK},
		{exampleLive(), api.Facts{Adds: es(en(0, 4, "A", 14)), Gone: pa([]int{1})}, es(en(0, 4, "A", 14), en(1, 2, "A", 7), en(1, 3, "B", 1)), api.OK},
		{exampleLive(), api.Facts{Recs: re("A", pa([]int{0, 2}))}, es(en(0, 1, "A", 5), en(1, 3, "B", 1)), api.OK},
		{exampleLive(), api.Facts{Recs: re("", pa([]int{0, 3}))}, es(en(0, 1, "A", 5)), api.OK},
		{exampleLive(), api.Facts{}, exampleLive(), api.OK}, {nil, api.Facts{}, nil, api.OK}, {nil, api.Facts{Adds: one}, one, api.OK},
		{exampleLive(), api.Facts{Adds: one}, nil, api.ErrClash}, {exampleLive(), api.Facts{Adds: es(en(1, 3, "A", 2))}, nil, api.ErrClash},
		{exampleLive(), api.Facts{Adds: one, Gone: pa([]int{0, 3})}, nil, api.ErrArg}, {exampleLive(), api.Facts{Adds: one, Gone: pa([]int{0})}, nil, api.ErrForm}, {es(en(0, 2, "A", 1), en(0, 1, "A", 1)), api.Facts{Adds: one, Recs: re("", pa([]int{1}))}, nil, api.ErrForm},
		{nil, api.Facts{Adds: exampleLive()}, nil, api.ErrArg},
	} {
		if got, err := act.Effect(c.live, c.f); !slices.Equal(got, c.want) || err != c.err {
			t.Errorf("Effect(%v, %v) = %v, %d, want %v, %d", c.live, c.f, got, err, c.want, c.err)
		}
	}
}

// checkBehind: what P8.4 says of the live entries behind each kind of act.
func checkBehind(t *testing.T, g given, l []api.Entry) {
	t.Helper()
	before, behind := ofSku(g.live, g.act.Sku), ofSku(l, g.act.Sku)
	own := sample.Those(behind, func(e api.Entry) bool { return e.Dot.Rep == g.rep })
	notIn := func(e api.Entry) bool { return !sample.Has(g.act.Past, e.Dot) }
	holds := false
	switch g.act.Kind {
	case api.ActSet:
		holds = len(behind) == 1 && behind[0].Qty == g.act.Qty
	case api.ActAdd:
		holds = sum(behind) == sum(before)+g.act.Qty && len(own) == 1
	case api.ActRemove:
		holds = len(behind) == 0
	case api.ActClear:
		holds = len(l) == 0
	case api.ActRemoveTo:
		holds = slices.Equal(behind, sample.Those(before, notIn))
	case api.ActClearTo:
		holds = slices.Equal(l, sample.Those(g.live, notIn))
	}
	if !holds {
		t.Errorf("behind %v the live entries are %v", g, l)
	}
	other := func(e api.Entry) bool { return e.Sku != g.act.Sku }
	all := g.act.Kind == api.ActClear || g.act.Kind == api.ActClearTo
	if !all && !slices.Equal(sample.Those(l, other), sample.Those(g.live, other)) {
		t.Errorf("behind %v the live entries, those of other SKUs too, are %v", g, l)
	}
}

func TestWhatIsLiveBehindAnAct(t *testing.T) { // P8.4
	taken := map[int]int{}
	for _, g := range decisions() {
		f, err := decide(g)
		if err != api.OK {
			continue
		}
		l, err := act.Effect(g.live, f)
		if err != api.OK {
			t.Errorf("Effect of what is decided of %v: %d", g, err)
		}
		checkBehind(t, g, l)
		taken[g.act.Kind]++
	}
	for kind := 1; kind <= 6; kind++ {
		if taken[kind] < 100 {
			t.Errorf("only %d acts of kind %d were taken", taken[kind], kind)
		}
	}
}

func TestDecideHangsOnWhatIsHandedInAlone(t *testing.T) { // P8.5
	all := decisions()[:3000]
	first := make([]api.Facts, len(all))
	for i, g := range all {
		first[i], _ = decide(g)
	}
	var group sync.WaitGroup
	for range 4 {
		group.Go(func() {
			// The other way round, other calls between, and in memory of another size.
			for i, g := range slices.Backward(all) {
				act.Effect(g.live, first[i])
				again, _ := decide(g.roomy())
				if !sample.SameFacts(again, first[i]) {
					t.Errorf("Decide of %v = %v, and then %v", g, first[i], again)
				}
			}
		})
	}
	group.Wait()
}

func TestNilAndEmptyListsAreOne(t *testing.T) { // P8.5
	emptied := api.Past{Vec: []int{}, Cloud: []api.Span{}}
	lim := api.Limits{Lines: 1, Count: 1}
	for _, a := range []api.Act{set("A", 1), add("A", 1), remove("A"), clearAll(), removeTo("A", api.Past{}), clearTo(api.Past{})} {
		f, err := act.Decide(nil, api.Past{}, 0, lim, a)
		a.Past = emptied
		again, errAgain := act.Decide(es(), emptied, 0, lim, a)
		if !sample.SameFacts(f, again) || err != errAgain {
			t.Errorf("Decide of %v over nil lists = %v, %d, over empty ones %v, %d", a, f, err, again, errAgain)
		}
	}
}

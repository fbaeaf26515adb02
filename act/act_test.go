package act_test

import (
	"slices"
	"testing"

	"barrow/act"
	"barrow/api"
	"barrow/past"
	"barrow/sample"
)

func TestCheck(t *testing.T) { // P8.1
	for _, a := range acts() {
		if got := act.Check(a); got != fault(a) {
			t.Errorf("Check(%v) = %d, want %d", a, got, fault(a))
		}
	}
	off := pa([]int{0})
	for _, c := range []struct {
		a    api.Act
		want api.Errno
	}{
		{api.Act{}, api.ErrKind}, {api.Act{Kind: 7, Sku: "a", Past: off}, api.ErrKind}, {removeTo("a", off), api.ErrForm}, {removeTo("a", api.Past{}), api.ErrSku}, {removeTo("", pa([]int{1})), api.ErrSku}, {clearTo(off), api.ErrForm},
		{set("a", 0), api.ErrSku}, {set("", 1), api.ErrSku}, {add("A", 0), api.ErrQty}, {set("A", 1000001), api.ErrQty}, {set("A", 1000000), api.OK}, {add("A", 1), api.OK}, {remove("c"), api.ErrSku}, {remove(""), api.ErrSku},
		// What a kind doesn't use has no meaning.
		{api.Act{Kind: api.ActSet, Sku: "A", Qty: 1, Past: off}, api.OK}, {api.Act{Kind: api.ActAdd, Sku: "A", Qty: 1, Past: off}, api.OK}, {api.Act{Kind: api.ActRemove, Sku: "A", Qty: -1, Past: off}, api.OK},
		{api.Act{Kind: api.ActRemoveTo, Sku: "A", Qty: -1}, api.OK}, {api.Act{Kind: api.ActClear, Sku: "a", Qty: -1, Past: off}, api.OK}, {api.Act{Kind: api.ActClearTo, Sku: "a", Qty: -1}, api.OK},
	} {
		if got := act.Check(c.a); got != c.want {
			t.Errorf("Check(%v) = %d, want %d", c.a, got, c.want)
		}
	}
}

func nextOf(seen api.Past, rep, count int) (api.Dot, api.Errno) {
	switch {
	case !past.IsNorm(seen):
		return api.Dot{}, api.ErrForm
	case !(rep >= 0 && rep <= 15):
		return api.Dot{}, api.ErrRep
	case greatest(seen, rep) >= min(count, 1000000000):
		return api.Dot{}, api.ErrCount
	}
	return api.Dot{Rep: rep, Num: greatest(seen, rep) + 1}, api.OK
}

func TestNext(t *testing.T) { // P8.1
	for _, seen := range slices.Concat(sample.Pasts(newDice().IntN, 60), sample.WrongPasts()) {
		for _, rep := range []int{leastInt, -1, 0, 1, 2, 3, 15, 16, greatInt} {
			for _, count := range []int{leastInt, -1, 0, 1, 2, 3, 4, 5, 6, 7, 8, 999999999, 1000000000, 1000000001, greatInt} {
				got, err := act.Next(seen, rep, count)
				if want, wantErr := nextOf(seen, rep, count); got != want || err != wantErr {
					t.Errorf("Next(%v, %d, %d) = %v, %d, want %v, %d", seen, rep, count, got, err, want, wantErr)
				}
			}
		}
	}
	for _, c := range []struct {
		seen       api.Past
		rep, count int
		want       api.Dot
		err        api.Errno
	}{
		{pa([]int{3, 3}), 0, 4, api.Dot{Rep: 0, Num: 4}, api.OK}, {pa([]int{4, 3}), 0, 4, api.Dot{}, api.ErrCount}, {pa(nil), 15, 1, api.Dot{Rep: 15, Num: 1}, api.OK}, {pa(nil), 15, 0, api.Dot{}, api.ErrCount}, {pa([]int{1}, sp(0, 5, 6)), 0, 9, api.Dot{Rep: 0, Num: 7}, api.OK}, {pa([]int{1}, sp(0, 5, 6)), 0, 6, api.Dot{}, api.ErrCount},
		{pa([]int{999999999}), 0, greatInt, api.Dot{Rep: 0, Num: 1000000000}, api.OK}, {pa([]int{1000000000}), 0, greatInt, api.Dot{}, api.ErrCount}, {pa([]int{0}), 16, 0, api.Dot{}, api.ErrForm}, {pa(nil), 16, 0, api.Dot{}, api.ErrRep},
	} {
		if got, err := act.Next(c.seen, c.rep, c.count); got != c.want || err != c.err {
			t.Errorf("Next(%v, %d, %d) = %v, %d, want %v, %d", c.seen, c.rep, c.count, got, err, c.want, c.err)
		}
	}
}

func decide(g given) (api.Facts, api.Errno) {
	return act.Decide(g.live, g.seen, g.rep, g.lim, g.act)
}

func checkDecide(t *testing.T, g given) {
	t.Helper()
	got, err := decide(g)
	want, wantErr := decided(g)
	if !sample.SameFacts(got, want) || err != wantErr {
		t.Errorf("Decide of %v = %v, %d, want %v, %d", g, got, err, want, wantErr)
	}
	if err == api.OK && act.Event(got) != api.OK {
		t.Errorf("Decide of %v = %v, and that is no event: %d", g, got, act.Event(got))
	}
	for _, e := range got.Adds {
		if sample.Has(g.seen, e.Dot) {
			t.Errorf("Decide of %v = %v: the add's dot was seen already", g, got)
		}
	}
}

func TestDecide(t *testing.T) { // P8.2
	for _, g := range decisions() {
		checkDecide(t, g)
	}
	for _, s := range scenes(3) {
		for _, a := range acts() {
			s.act = a
			checkDecide(t, s)
		}
	}
}

func TestDecidesExamples(t *testing.T) { // P8.2
	both := pa([]int{1}, sp(1, 2, 2))
	late := func(a api.Act) given { g := example(0, a); g.seen = pa([]int{4, 3}); return g }
	none := given{nil, pa(nil), 0, api.Limits{Lines: 2, Count: 4}, clearAll()}
	unseen := example(0, clearAll())
	unseen.seen = pa([]int{3})
	for _, c := range []struct {
		name string
		g    given
		want api.Facts
		err  api.Errno
	}{
		{"set", example(0, set("A", 9)), api.Facts{Adds: es(en(0, 4, "A", 9)), Gone: both}, api.OK},
		{"add", example(0, add("A", 9)), api.Facts{Adds: es(en(0, 4, "A", 14)), Gone: pa([]int{1})}, api.OK},
		{"add of another's line", example(2, add("A", 9)), api.Facts{Adds: es(en(2, 1, "A", 9))}, api.OK},
		{"a line too many", example(0, set("C", 1)), api.Facts{}, api.ErrFull},
		{"an add of a line too many", example(0, add("C", 1000000)), api.Facts{}, api.ErrFull},
		{"over", example(0, add("A", 999989)), api.Facts{}, api.ErrOver},
		{"not quite over", example(0, add("A", 999988)), api.Facts{Adds: es(en(0, 4, "A", 999993)), Gone: pa([]int{1})}, api.OK},
		{"set of the most", example(0, set("A", 1000000)), api.Facts{Adds: es(en(0, 4, "A", 1000000)), Gone: both}, api.OK},
		{"set of more than that", example(0, set("A", 1000001)), api.Facts{}, api.ErrQty},
		{"used up", late(set("A", 9)), api.Facts{}, api.ErrCount},
		{"used up, and over", late(add("A", 999989)), api.Facts{}, api.ErrOver},
		{"used up, and full", late(set("C", 1)), api.Facts{}, api.ErrFull},
		{"remove where all is used up", late(remove("A")), api.Facts{Gone: both}, api.OK},
		{"absent", example(0, remove("C")), api.Facts{}, api.ErrAbsent},
		{"no SKU", example(0, remove("c")), api.Facts{}, api.ErrSku},
		{"no kind", example(0, api.Act{Kind: 7}), api.Facts{}, api.ErrKind},
		{"clear", example(0, clearAll()), api.Facts{Gone: pa([]int{1}, sp(1, 2, 3))}, api.OK},
		{"clear of nothing", none, api.Facts{}, api.OK},
		{"removeTo", example(0, removeTo("A", pa([]int{0, 2}))), api.Facts{Recs: re("A", pa([]int{0, 2}))}, api.OK},
		{"removeTo of what isn't here", example(0, removeTo("C", pa(nil, sp(9, 9, 9)))), api.Facts{Recs: re("C", pa(nil, sp(9, 9, 9)))}, api.OK},
		{"removeTo nothing", example(0, removeTo("A", pa(nil))), api.Facts{}, api.OK},
		{"removeTo no SKU", example(0, removeTo("", pa([]int{0, 2}))), api.Facts{}, api.ErrSku},
		{"clearTo", example(0, clearTo(pa([]int{0, 3}))), api.Facts{Recs: re("", pa([]int{0, 3}))}, api.OK},
		{"clearTo nothing", example(0, clearTo(pa(nil))), api.Facts{}, api.OK},
		{"not seen", unseen, api.Facts{}, api.ErrForm},
	} {
		if got, err := decide(c.g); !sample.SameFacts(got, c.want) || err != c.err {
			t.Errorf("%s: Decide = %v, %d, want %v, %d", c.name, got, err, c.want, c.err)
		}
		checkDecide(t, c.g)
	}
}

// TestDecidesErrorsInOrder: with each error all those behind it in the chapter's list apply too.
func TestDecidesErrorsInOrder(t *testing.T) { // P8.2
	wrongAct := api.Act{Kind: 7, Sku: "a", Past: pa([]int{0})}
	refused := func(name string, g given, want api.Errno) {
		t.Helper()
		if got, err := decide(g); !sample.SameFacts(got, api.Facts{}) || err != want {
			t.Errorf("%s: Decide of %v = %v, %d, want %d", name, g, got, err, want)
		}
	}
	worst := func() given { return given{exampleLive(), pa([]int{3, 3}), 16, api.Limits{}, wrongAct} }
	for _, live := range sample.WrongEntryLists() {
		g := worst()
		g.live = live
		refused("live", g, api.ErrForm)
		g.act, g.rep, g.lim, g.seen = clearAll(), 0, api.Limits{Lines: 2, Count: 4}, pa(slices.Repeat([]int{1000000000}, 16))
		refused("live", g, api.ErrForm)
	}
	for _, seen := range sample.WrongPasts() {
		g := worst()
		g.seen = seen
		refused("seen", g, api.ErrForm)
		refused("seen", given{nil, seen, 0, api.Limits{Lines: 2, Count: 4}, clearAll()}, api.ErrForm)
	}
	for _, e := range exampleLive() {
		g := worst()
		g.seen = past.Minus(g.seen, past.Of([]api.Dot{e.Dot}))
		refused("an entry's dot that isn't seen", g, api.ErrForm)
	}
	for _, rep := range []int{leastInt, -1, 16, greatInt} {
		g := worst()
		g.rep = rep
		refused("replica", g, api.ErrRep)
	}
	for _, lim := range []api.Limits{{}, {Lines: 0, Count: 4}, {Lines: 1001, Count: 4}, {Lines: 2, Count: 0}, {Lines: 2, Count: 1000000001}, {Lines: leastInt, Count: 4}, {Lines: 2, Count: leastInt}, {Lines: greatInt, Count: 4}, {Lines: 2, Count: greatInt}} {
		g := worst()
		g.rep, g.lim = 0, lim
		refused("limits", g, api.ErrArg)
		g.act = clearAll()
		refused("limits", g, api.ErrArg)
	}
	g := worst()
	g.rep, g.lim = 0, api.Limits{Lines: 1, Count: 1}
	refused("kind", g, api.ErrKind)
	g.act.Kind = api.ActRemoveTo
	refused("past", g, api.ErrForm)
}

func TestDecideAtTheLimits(t *testing.T) { // P8.2
	for _, c := range []struct {
		name  string
		lines int
		count int
		a     api.Act
		want  api.Errno
	}{
		{"room for one more line", 3, 4, set("C", 1), api.OK}, {"room for one more line by an add", 3, 4, add("C", 1000000), api.OK}, {"no more line", 2, 4, add("C", 1), api.ErrFull}, {"more lines than the limit", 1, 4, set("C", 1), api.ErrFull}, {"a line that is there", 1, 4, set("A", 1), api.OK}, {"an add to a line that is there", 1, 4, add("B", 1), api.OK},
		{"the greatest limits", 1000, 1000000000, set("C", 1), api.OK}, {"the last number", 2, 4, set("A", 1), api.OK}, {"behind the last number", 2, 3, set("A", 1), api.ErrCount}, {"far behind the last number", 2, 1, add("A", 1), api.ErrCount}, {"clear behind the last number", 1, 1, clearAll(), api.OK},
	} {
		g := example(0, c.a)
		g.lim = api.Limits{Lines: c.lines, Count: c.count}
		if _, err := decide(g); err != c.want {
			t.Errorf("%s: Decide of %v: %d, want %d", c.name, g, err, c.want)
		}
		checkDecide(t, g)
	}
}

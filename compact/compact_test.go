package compact_test

import (
	"slices"
	"testing"

	"barrow/api"
	"barrow/compact"
	"barrow/keep"
	"barrow/past"
	"barrow/sample"
	"barrow/swot"
	"barrow/tomb"
)

func TestCompact(t *testing.T) { // P13.1
	live, waits := 0, 0
	for _, f := range mixed(2000) {
		want := sample.State(f)
		got, err := compact.Compact(f)
		if !same(got, want) || err != api.OK {
			t.Errorf("Compact(%v) = %v, %d, want %v", f, got, err, want)
		}
		if swot.Check(got) != api.OK {
			t.Errorf("Compact(%v) = %v isn't in form", f, got)
		}
		live += min(1, len(want.Live))
		waits += min(1, len(want.Defer))
	}
	if live < 500 || waits < 500 {
		t.Errorf("in %d states something is live, in %d something waits", live, waits)
	}
}

func TestCompactsExamples(t *testing.T) { // P13.1
	f := example()
	for _, c := range []struct {
		f    api.Facts
		want api.Swot
	}{
		{f, api.Swot{Live: es(en(1, 1, "B", 7)), Past: pa([]int{2, 1}, sp(2, 5, 5)), Defer: rs(re("", []int{0, 0, 0, 1}))}},
		{api.Facts{}, api.Swot{}},
		{api.Facts{Adds: []api.Entry{}, Gone: pa([]int{}), Recs: []api.Record{}}, api.Swot{}},
		{waiting(), api.Swot{Past: pa([]int{1}), Defer: rs(re("A", []int{2}))}},
		{joined(t, waiting(), rest()), api.Swot{Past: pa([]int{2})}},
		// A record of which all dots were heard doesn't wait, whether it covers something or not.
		{api.Facts{Adds: es(en(0, 1, "A", 5)), Recs: rs(re("B", []int{1}))}, api.Swot{Live: es(en(0, 1, "A", 5)), Past: pa([]int{1})}},
		{api.Facts{Gone: pa([]int{3}), Recs: rs(re("", []int{3}), re("A", []int{4}))}, api.Swot{Past: pa([]int{3}), Defer: rs(re("A", []int{4}))}},
		// A record waits for what another one names too.
		{api.Facts{Recs: rs(re("", []int{1}), re("A", []int{1}))}, api.Swot{Defer: rs(re("", []int{1}), re("A", []int{1}))}},
		// A gone dot that has an add, and one that has none, are both heard of.
		{api.Facts{Adds: es(en(0, 1, "A", 5), en(0, 3, "A", 5)), Gone: pa(nil, sp(0, 2, 3))}, api.Swot{Live: es(en(0, 1, "A", 5)), Past: pa([]int{3})}},
	} {
		if got, err := compact.Compact(c.f); !same(got, c.want) || err != api.OK {
			t.Errorf("Compact(%v) = %v, %d, want %v", c.f, got, err, c.want)
		}
	}
}

func TestFactsOutOfForm(t *testing.T) { // P13.1, P13.2, P13.4
	for _, f := range sample.WrongFacts() {
		if got, err := compact.Compact(f); !same(got, api.Swot{}) || err != api.ErrForm {
			t.Errorf("Compact(%v) = %v, %d", f, got, err)
		}
		if got, err := compact.Prune(f); !sameFacts(got, api.Facts{}) || err != api.ErrForm {
			t.Errorf("Prune(%v) = %v, %d", f, got, err)
		}
		if got, err := compact.Spent(f); got != (api.Spent{}) || err != api.ErrForm {
			t.Errorf("Spent(%v) = %v, %d", f, got, err)
		}
		// ErrForm comes ahead of the other errors.
		for _, d := range []api.Dot{dot(0, 1), dot(9, 9), dot(0, 0), dot(16, 1)} {
			if got, err := compact.Fate(f, d); got != (api.Fate{}) || err != api.ErrForm {
				t.Errorf("Fate(%v, %v) = %v, %d", f, d, got, err)
			}
		}
		for _, sku := range []string{"A", "C", "a", ""} {
			if got, err := compact.Story(f, sku); len(got) != 0 || err != api.ErrForm {
				t.Errorf("Story(%v, %q) = %v, %d", f, sku, got, err)
			}
		}
	}
}

func TestSame(t *testing.T) { // P13.1
	facts := mixed(50)
	var states []api.Swot
	for _, f := range facts {
		states = append(states, sample.State(f))
	}
	yes := 0
	for _, f := range facts {
		for _, s := range states {
			want := same(sample.State(f), s)
			if got := compact.Same(f, s); got != want {
				t.Errorf("Same(%v, %v) = %t", f, s, got)
			}
			if want {
				yes++
			}
		}
	}
	if yes < len(facts) || yes > len(facts)*len(facts)/4 {
		t.Errorf("of %d pairs %d are the same", len(facts)*len(facts), yes)
	}
}

// nearStates: a state, changed in one thing.
func nearStates(s api.Swot) []api.Swot {
	other := func(change func(s *api.Swot)) api.Swot {
		changed := sample.RoomySwot(s)
		change(&changed)
		return changed
	}
	all := []api.Swot{
		other(func(s *api.Swot) { s.Past = past.Put(s.Past, dot(9, 9)) }),
		other(func(s *api.Swot) { s.Past = past.Put(s.Past, dot(0, past.Last(s.Past, 0)+1)) }),
		other(func(s *api.Swot) { s.Past.Vec = append(s.Past.Vec, 0) }),
		other(func(s *api.Swot) { s.Defer, _ = keep.Union(s.Defer, rs(re("", []int{0, 0, 0, 0, 0, 1}))) }),
	}
	for i := range s.Live {
		all = append(all,
			other(func(s *api.Swot) { s.Live = slices.Delete(s.Live, i, i+1) }),
			other(func(s *api.Swot) { s.Live[i].Qty = s.Live[i].Qty%api.MaxQty + 1 }),
			other(func(s *api.Swot) { s.Live[i].Sku = "Q" }),
			other(func(s *api.Swot) { s.Past = past.Minus(s.Past, past.Of([]api.Dot{s.Live[i].Dot})) }))
	}
	for i := range s.Defer {
		all = append(all,
			other(func(s *api.Swot) { s.Defer = slices.Delete(s.Defer, i, i+1) }),
			other(func(s *api.Swot) { s.Defer[i].Sku = "Q" }),
			other(func(s *api.Swot) { s.Defer[i].Past = past.Put(s.Defer[i].Past, dot(9, 9)) }))
	}
	return all
}

func TestWhatIsNearlyTheState(t *testing.T) { // P13.1
	inForm := 0
	for _, f := range mixed(300) {
		s := sample.State(f)
		// Beyond the greatest number there is no next dot.
		if past.Last(s.Past, 0) == api.MaxNum {
			continue
		}
		if !compact.Same(f, s) {
			t.Errorf("Same(%v, %v) is false", f, s)
		}
		for _, near := range nearStates(s) {
			// What a change adds may have been there.
			if got := compact.Same(f, near); got != same(s, near) {
				t.Errorf("Same(%v, %v) = %t", f, near, got)
			}
			if swot.Check(near) == api.OK {
				inForm++
			}
		}
	}
	if inForm < 500 {
		t.Errorf("only %d are in form", inForm)
	}
}

func TestSameOutOfForm(t *testing.T) { // P13.1
	for _, f := range sample.WrongFacts() {
		for _, s := range []api.Swot{{}, {Live: f.Adds, Past: f.Gone, Defer: f.Recs}, sample.WrongSwots()[0], sample.State(example())} {
			if compact.Same(f, s) {
				t.Errorf("Same(%v, %v) is true", f, s)
			}
		}
	}
	for _, s := range sample.WrongSwots() {
		for _, f := range []api.Facts{{}, example(), {Adds: s.Live, Gone: s.Past, Recs: s.Defer}} {
			if compact.Same(f, s) {
				t.Errorf("Same(%v, %v) is true", f, s)
			}
		}
	}
	if !compact.Same(api.Facts{}, api.Swot{Live: []api.Entry{}, Past: pa([]int{}), Defer: []api.Record{}}) {
		t.Error("empty lists are no longer the empty state")
	}
	// These mean what the facts come to, and aren't in form.
	if compact.Same(api.Facts{}, api.Swot{Past: pa([]int{0})}) || compact.Same(api.Facts{Gone: pa([]int{0})}, api.Swot{}) || compact.Same(api.Facts{Gone: pa([]int{1})}, api.Swot{Past: pa(nil, sp(0, 1, 1))}) {
		t.Error("Same takes what isn't in form")
	}
}

func TestTheStateOfTheJoinIsTheJoinOfTheStates(t *testing.T) { // P13.3
	facts := alike(t, 60)
	for _, a := range facts {
		for _, b := range facts {
			one := compacted(t, joined(t, a, b))
			two := joinedStates(t, compacted(t, a), compacted(t, b))
			if !same(one, two) {
				t.Errorf("%v and %v: the state of the join is %v, the join of the states %v", a, b, one, two)
			}
		}
	}
}

func TestTheStateOfTheJoinOfThoseThatDoNotClash(t *testing.T) { // P13.3
	facts := mixed(60)
	held := 0
	for _, a := range facts {
		for _, b := range facts {
			if _, clash := tomb.Clash(a, b); clash {
				continue
			}
			held++
			one := compacted(t, joined(t, a, b))
			two := joinedStates(t, compacted(t, a), compacted(t, b))
			if !same(one, two) {
				t.Errorf("%v and %v: the state of the join is %v, the join of the states %v", a, b, one, two)
			}
		}
	}
	if held < 3000 {
		t.Errorf("only %d pairs don't clash", held)
	}
}

func TestWhatIsForgottenIsNeverMissed(t *testing.T) { // P13.3
	dice := newDice()
	facts := alike(t, 200)
	for range 400 {
		var few []api.Facts
		var all api.Facts
		for range 2 + dice.IntN(6) {
			f := facts[dice.IntN(len(facts))]
			few = append(few, f)
			all = joined(t, all, f)
		}
		want := compacted(t, all)
		for range 3 {
			dice.Shuffle(len(few), func(i, j int) { few[i], few[j] = few[j], few[i] })
			var state api.Swot
			for _, f := range few {
				state = joinedStates(t, state, compacted(t, f))
				// Once more what came already: it changes nothing.
				state = joinedStates(t, compacted(t, few[0]), state)
			}
			if !same(state, want) {
				t.Errorf("%v joined one by one are %v, want %v", few, state, want)
			}
		}
	}
}

func TestWhatIsDeadStaysDead(t *testing.T) { // P13.3, P10
	facts := alike(t, 60)
	for _, a := range facts {
		for _, b := range facts {
			both := joined(t, a, b)
			for _, e := range a.Adds {
				before, _ := compact.Fate(a, e.Dot)
				behind, _ := compact.Fate(both, e.Dot)
				if before.Kind != api.FateLive && behind.Kind == api.FateLive {
					t.Errorf("%v is dead in %v, and live with %v", e, a, b)
				}
			}
		}
	}
}

func TestExpand(t *testing.T) { // P13.4
	for _, s := range append(sample.Swots(newDice().IntN, 1000), sample.State(example()), sample.State(waiting())) {
		f, err := compact.Expand(s)
		if !areLeast(f, s) || err != api.OK || tomb.Check(f) != api.OK {
			t.Errorf("Expand(%v) = %v, %d", s, f, err)
		}
		if back := compacted(t, f); !same(back, s) {
			t.Errorf("Compact of Expand(%v) = %v", s, back)
		}
		if !compact.Same(f, s) {
			t.Errorf("Same(Expand(%v)) is false", s)
		}
	}
	for _, s := range sample.WrongSwots() {
		if got, err := compact.Expand(s); !sameFacts(got, api.Facts{}) || err != api.ErrForm {
			t.Errorf("Expand(%v) = %v, %d", s, got, err)
		}
	}
}

func TestPrune(t *testing.T) { // P13.4
	less := 0
	for _, f := range append(mixed(1000), alike(t, 1000)...) {
		state := sample.State(f)
		p := pruned(t, f)
		if !areLeast(p, state) || !sameFacts(p, expanded(t, compacted(t, f))) {
			t.Errorf("Prune(%v) = %v, the state is %v", f, p, state)
		}
		if again := pruned(t, p); !sameFacts(again, p) {
			t.Errorf("Prune(Prune(%v)) = %v, and once is %v", f, again, p)
		}
		for _, e := range p.Adds {
			if fateOf(p, e.Dot).Kind != api.FateLive {
				t.Errorf("Prune(%v) = %v: %v isn't live", f, p, e)
			}
		}
		for _, r := range p.Recs {
			if past.Within(r.Past, sample.State(p).Past) {
				t.Errorf("Prune(%v) = %v: %v doesn't wait", f, p, r)
			}
		}
		if spent := spentOf(p); spent.Adds != 0 || spent.Recs != 0 {
			t.Errorf("Prune(%v) = %v still has %v", f, p, spent)
		}
		if len(p.Adds) < len(f.Adds) && len(p.Recs) < len(f.Recs) {
			less++
		}
	}
	if less < 100 {
		t.Errorf("only %d have both adds and records to spare", less)
	}
}

func TestWhatIsPrunedIsNeverMissed(t *testing.T) { // P13.4
	held := 0
	for _, facts := range [][]api.Facts{mixed(60), alike(t, 50)} {
		for _, f := range facts {
			p := pruned(t, f)
			for _, g := range facts {
				if _, clash := tomb.Clash(f, g); clash {
					continue
				}
				held++
				one, two := compacted(t, joined(t, p, g)), compacted(t, joined(t, f, g))
				if !same(one, two) {
					t.Errorf("Prune(%v) with %v comes to %v, unpruned to %v", f, g, one, two)
				}
			}
		}
	}
	if held < 6000 {
		t.Errorf("only %d pairs don't clash", held)
	}
}

func TestPrunesExamples(t *testing.T) { // P13.4
	for _, c := range []struct{ f, want api.Facts }{
		{example(), api.Facts{Adds: es(en(1, 1, "B", 7)), Gone: pa([]int{2}, sp(2, 5, 5)), Recs: rs(re("", []int{0, 0, 0, 1}))}},
		{api.Facts{}, api.Facts{}},
		{waiting(), api.Facts{Gone: pa([]int{1}), Recs: rs(re("A", []int{2}))}},
		{joined(t, waiting(), rest()), api.Facts{Gone: pa([]int{2})}},
		// A live dot in the midst of dead ones.
		{api.Facts{Adds: es(en(0, 2, "A", 1)), Gone: pa([]int{1}, sp(0, 3, 4))}, api.Facts{Adds: es(en(0, 2, "A", 1)), Gone: pa([]int{1}, sp(0, 3, 4))}},
		{api.Facts{Adds: es(en(15, api.MaxNum, "A", 1)), Gone: pa(slices.Repeat([]int{api.MaxNum}, 16))}, api.Facts{Gone: pa(slices.Repeat([]int{api.MaxNum}, 16))}},
		{api.Facts{Adds: es(en(0, 1, "A", 1), en(0, 2, "B", 1)), Recs: rs(re("B", []int{2}))}, api.Facts{Adds: es(en(0, 1, "A", 1)), Gone: pa(nil, sp(0, 2, 2))}},
	} {
		if got := pruned(t, c.f); !sameFacts(got, c.want) {
			t.Errorf("Prune(%v) = %v, want %v", c.f, got, c.want)
		}
		if got := expanded(t, sample.State(c.f)); !sameFacts(got, c.want) {
			t.Errorf("Expand(%v) = %v, want %v", sample.State(c.f), got, c.want)
		}
	}
}

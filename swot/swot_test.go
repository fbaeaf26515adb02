package swot_test

import (
	"slices"
	"testing"

	"barrow/act"
	"barrow/api"
	"barrow/past"
	"barrow/sample"
	"barrow/swot"
	"barrow/tomb"
)

func TestCheck(t *testing.T) { // P11.1
	for _, s := range mixed(500) {
		if got := swot.Check(s); got != api.OK {
			t.Errorf("Check(%v) = %d", s, got)
		}
	}
	for _, s := range sample.WrongSwots() {
		if got := swot.Check(s); got != api.ErrForm {
			t.Errorf("Check(%v) = %d", s, got)
		}
	}
	right := 0
	for _, s := range thrown(5000) {
		want := api.ErrForm
		if inForm(s) {
			want = api.OK
			right++
		}
		if got := swot.Check(s); got != want {
			t.Errorf("Check(%v) = %d, want %d", s, got, want)
		}
	}
	if right < 500 || right > 4500 {
		t.Errorf("of 5000 states %d are in form", right)
	}
}

func TestChecksExamples(t *testing.T) { // P11.1
	a := es(en(0, 1, "A", 5))
	for _, c := range []struct {
		s    api.Swot
		want api.Errno
	}{
		{api.Swot{}, api.OK}, {api.Swot{Live: a}, api.ErrForm}, {api.Swot{Live: a, Past: pa([]int{1})}, api.OK}, {api.Swot{Past: pa([]int{2}), Defer: rs(re("A", []int{1}))}, api.ErrForm}, {api.Swot{Live: a, Past: pa([]int{1}), Defer: rs(re("", []int{3}))}, api.ErrForm},
		// What a record is about, but for the SKU or but for the dot, isn't covered by it.
		{api.Swot{Live: a, Past: pa([]int{1}), Defer: rs(re("B", []int{3}))}, api.OK}, {api.Swot{Live: a, Past: pa([]int{1}), Defer: rs(re("A", nil, sp(0, 2, 3)))}, api.OK}, {api.Swot{Live: a, Past: pa([]int{1}), Defer: rs(re("A", []int{3}))}, api.ErrForm},
		// One dot that wasn't heard of is enough for a record to wait.
		{api.Swot{Past: pa([]int{2}), Defer: rs(re("A", []int{3}))}, api.OK}, {api.Swot{Past: pa([]int{2}), Defer: rs(re("A", []int{1}, sp(1, 7, 7)))}, api.OK}, {api.Swot{Past: pa([]int{2}, sp(1, 7, 7)), Defer: rs(re("A", []int{1}, sp(1, 7, 7)))}, api.ErrForm},
		{gone(0), api.ErrForm}, {waiting("A"), api.ErrForm}, {waiting("a", 1), api.ErrForm}, {waiting("A", 1), api.OK},
	} {
		if got := swot.Check(c.s); got != c.want {
			t.Errorf("Check(%v) = %d, want %d", c.s, got, c.want)
		}
	}
}

// manyFacts: facts of all kinds, those that one act can make among them.
func manyFacts() []api.Facts {
	dice := newDice()
	all := append(sample.Facts(dice.IntN, 300), sample.WrongFacts()...)
	for _, p := range sample.Pasts(dice.IntN, 60) {
		all = append(all, api.Facts{Gone: p}, api.Facts{Recs: rs(api.Record{Sku: "A", Past: p})}, api.Facts{Recs: rs(api.Record{Past: p})})
		for rep := range 3 {
			add := en(rep, past.Last(p, rep)+1, "A", 7)
			behind := en(rep, past.Last(p, rep)+5, "B", api.MaxQty)
			all = append(all, api.Facts{Adds: es(add), Gone: p}, api.Facts{Adds: es(behind), Gone: p}, api.Facts{Adds: es(add), Gone: p, Recs: rs(re("A", []int{1}))}, api.Facts{Adds: es(add, behind), Gone: p})
		}
	}
	return all
}

func TestEvent(t *testing.T) { // P11.1
	byErr := map[api.Errno]int{}
	for _, f := range manyFacts() {
		want, wantErr := api.Swot{}, act.Event(f)
		if wantErr == api.OK {
			want = api.Swot{Live: f.Adds, Past: f.Gone, Defer: f.Recs}
			if len(f.Adds) == 1 {
				want.Past = past.Put(f.Gone, f.Adds[0].Dot)
			}
		}
		got, err := swot.Event(f)
		if !same(got, want) || err != wantErr {
			t.Errorf("Event(%v) = %v, %d, want %v, %d", f, got, err, want, wantErr)
		}
		if err == api.OK && (!inForm(got) || !same(got, sample.State(f))) {
			t.Errorf("Event(%v) = %v, and the state of it is %v", f, got, sample.State(f))
		}
		byErr[err]++
	}
	if byErr[api.OK] < 200 || byErr[api.ErrArg] < 100 || byErr[api.ErrForm] < 100 {
		t.Errorf("too few of one kind: %v", byErr)
	}
}

func TestEventsExamples(t *testing.T) { // P11.1
	four := es(en(0, 4, "A", 9))
	rec := rs(re("A", []int{0, 2}))
	for _, c := range []struct {
		f    api.Facts
		want api.Swot
		err  api.Errno
	}{
		{api.Facts{Adds: four, Gone: pa([]int{1}, sp(1, 2, 2))}, api.Swot{Live: four, Past: pa([]int{1}, sp(0, 4, 4), sp(1, 2, 2))}, api.OK}, {api.Facts{Recs: rec}, api.Swot{Defer: rec}, api.OK}, {api.Facts{}, api.Swot{}, api.OK}, {api.Facts{Gone: pa([]int{3})}, gone(3), api.OK}, {api.Facts{Adds: four, Gone: pa([]int{3})}, api.Swot{Live: four, Past: pa([]int{4})}, api.OK},
		{api.Facts{Adds: four, Gone: pa([]int{4})}, api.Swot{}, api.ErrArg}, {api.Facts{Adds: four, Recs: rec}, api.Swot{}, api.ErrArg}, {api.Facts{Adds: es(en(0, 1, "A", 1), en(0, 2, "A", 1))}, api.Swot{}, api.ErrArg}, {api.Facts{Gone: pa([]int{1}), Recs: rec}, api.Swot{}, api.ErrArg},
		{api.Facts{Gone: pa([]int{0})}, api.Swot{}, api.ErrForm}, {api.Facts{Adds: four, Gone: pa([]int{4, 0})}, api.Swot{}, api.ErrForm}, {api.Facts{Adds: four, Recs: rs(re("a", []int{1}))}, api.Swot{}, api.ErrForm},
	} {
		if got, err := swot.Event(c.f); !same(got, c.want) || err != c.err {
			t.Errorf("Event(%v) = %v, %d, want %v, %d", c.f, got, err, c.want, c.err)
		}
	}
}

func TestLiveAndPast(t *testing.T) { // P11.1
	for _, s := range slices.Concat(mixed(300), sample.WrongSwots(), thrown(500)) {
		want, wantErr := s, api.OK
		if !inForm(s) {
			want, wantErr = api.Swot{}, api.ErrForm
		}
		if got, err := swot.Live(s); !slices.Equal(got, want.Live) || err != wantErr {
			t.Errorf("Live(%v) = %v, %d, want %v, %d", s, got, err, want.Live, wantErr)
		}
		if got, err := swot.Past(s); !sample.SamePast(got, want.Past) || err != wantErr {
			t.Errorf("Past(%v) = %v, %d, want %v, %d", s, got, err, want.Past, wantErr)
		}
	}
}

// fate is the chapter's definition of Knows, word by word.
func fate(s api.Swot, d api.Dot) int {
	switch {
	case !inForm(s) || !sample.Has(s.Past, d):
		return api.FateUnknown
	case holds(s.Live, d):
		return api.FateLive
	}
	return api.FateGone
}

func TestKnows(t *testing.T) { // P11.1
	none := []api.Dot{{}, {Rep: 0, Num: 0}, {Rep: 0, Num: -1}, {Rep: -1, Num: 1}, {Rep: 16, Num: 1}, {Rep: 15, Num: api.MaxNum + 1}, {Rep: 1 << 60, Num: 1 << 60}}
	fates := [4]int{}
	for _, s := range slices.Concat(mixed(60), sample.WrongSwots()) {
		for _, d := range append(none, sample.Dots()...) {
			want := fate(s, d)
			if got := swot.Knows(s, d); got != want {
				t.Errorf("Knows(%v, %v) = %d, want %d", s, d, got, want)
			}
			fates[want]++
		}
	}
	for _, kind := range []int{api.FateUnknown, api.FateLive, api.FateGone} {
		if fates[kind] < 100 {
			t.Errorf("only %d dots are as %d says", fates[kind], kind)
		}
	}
}

func TestKnowsExamples(t *testing.T) { // P11.1
	s := api.Swot{Live: es(en(0, 1, "A", 5)), Past: pa([]int{2}, sp(1, 4, 4)), Defer: rs(re("B", []int{0, 0, 3}))}
	for d, want := range map[api.Dot]int{
		{Rep: 0, Num: 1}: api.FateLive, {Rep: 0, Num: 2}: api.FateGone, {Rep: 0, Num: 3}: api.FateUnknown, {Rep: 1, Num: 4}: api.FateGone, {Rep: 1, Num: 3}: api.FateUnknown, {Rep: 0, Num: 0}: api.FateUnknown, {Rep: -1, Num: 1}: api.FateUnknown,
		// That a record which waits names a dot isn't to have heard of it.
		{Rep: 2, Num: 1}: api.FateUnknown,
	} {
		if got := swot.Knows(s, d); got != want {
			t.Errorf("Knows(%v) = %d, want %d", d, got, want)
		}
	}
	s.Defer = rs(re("A", []int{3}))
	if got := swot.Knows(s, api.Dot{Rep: 0, Num: 1}); got != api.FateUnknown {
		t.Errorf("Knows of a state that isn't in form = %d", got)
	}
}

func checkJoin(t *testing.T, a, b api.Swot) {
	t.Helper()
	got, err := swot.Join(a, b)
	switch {
	case clash(a, b):
		if !isZero(got) || err != api.ErrClash {
			t.Errorf("Join(%v, %v) = %v, %d", a, b, got, err)
		}
	case !same(got, joining(a, b)) || err != api.OK || !inForm(got):
		t.Errorf("Join(%v, %v) = %v, %d, want %v", a, b, got, err, joining(a, b))
	}
	if back, backErr := swot.Join(b, a); !same(back, got) || backErr != err {
		t.Errorf("Join(%v, %v) = %v, %d, the other way %v, %d", a, b, got, err, back, backErr)
	}
}

func TestJoin(t *testing.T) { // P11.2, P11.3
	clashes, freed := 0, 0
	for _, all := range [][]api.Swot{mixed(40), alike(t, 40)} {
		for _, a := range all {
			for _, b := range all {
				checkJoin(t, a, b)
				if clash(a, b) {
					clashes++
				} else if len(joining(a, b).Defer) < max(len(a.Defer), len(b.Defer)) {
					freed++
				}
			}
		}
	}
	if clashes < 100 || freed < 100 {
		t.Errorf("only %d clashes, and in %d a record ends its waiting", clashes, freed)
	}
}

func TestJoinsExamples(t *testing.T) { // P11.2
	five, six := one(en(0, 1, "A", 5)), one(en(0, 1, "A", 6))
	tea, waits := one(en(0, 2, "B", 1)), api.Swot{Past: pa([]int{1}), Defer: rs(re("A", []int{2}))}
	two := api.Swot{Live: es(en(0, 1, "A", 5), en(0, 2, "B", 2)), Past: pa([]int{2})}
	for _, c := range []struct {
		a, b, want api.Swot
		err        api.Errno
	}{
		{five, gone(1), gone(1), api.OK}, {five, waiting("A", 2), waits, api.OK}, {waits, one(en(0, 2, "A", 1)), gone(2), api.OK}, {waits, tea, api.Swot{Live: tea.Live, Past: pa([]int{2})}, api.OK}, {five, six, api.Swot{}, api.ErrClash}, {five, one(en(0, 1, "B", 5)), api.Swot{}, api.ErrClash},
		{five, five, five, api.OK}, {five, api.Swot{}, five, api.OK}, {api.Swot{}, api.Swot{}, api.Swot{}, api.OK}, {two, five, two, api.OK}, {two, gone(1), api.Swot{Live: two.Live[1:], Past: two.Past}, api.OK}, {five, one(en(1, 1, "A", 6)), api.Swot{Live: es(en(0, 1, "A", 5), en(1, 1, "A", 6)), Past: pa([]int{1, 1})}, api.OK},
		// A record of the empty SKU hits all; one whose dots this joining brings hits and waits no more; one that knew them all along isn't there.
		{five, waiting("", 1), gone(1), api.OK}, {two, waiting("B", 2), api.Swot{Live: two.Live[:1], Past: two.Past}, api.OK}, {five, waiting("B", 2), api.Swot{Live: five.Live, Past: five.Past, Defer: rs(re("B", []int{2}))}, api.OK}, {waits, gone(0, 7), api.Swot{Past: pa([]int{1, 7}), Defer: waits.Defer}, api.OK}, {waits, gone(2), gone(2), api.OK},
		{waiting("A", 2), waiting("A", 1), api.Swot{Defer: rs(re("A", []int{1}), re("A", []int{2}))}, api.OK}, {waiting("A", 2), waiting("", 2), api.Swot{Defer: rs(re("", []int{2}), re("A", []int{2}))}, api.OK}, {waiting("A", 2), waiting("A", 2), waiting("A", 2), api.OK},
		// Live in both and covered by neither's own record, since each has heard of the other's dot alone.
		{api.Swot{Live: five.Live, Past: pa([]int{1}), Defer: rs(re("", []int{0, 1}))}, api.Swot{Live: es(en(1, 1, "A", 1)), Past: pa([]int{0, 1}), Defer: rs(re("", []int{1}))}, gone(1, 1), api.OK},
		// A clash is between what is live: what the one has removed, or a record would bar, may have been anything.
		{gone(1), six, gone(1), api.OK}, {api.Swot{Live: five.Live, Past: pa([]int{1}), Defer: rs(re("B", []int{3}))}, one(en(0, 1, "B", 5)), api.Swot{}, api.ErrClash},
		// That an argument isn't in form comes ahead of a clash.
		{five, api.Swot{Live: six.Live, Past: six.Past, Defer: rs(re("a", []int{2}))}, api.Swot{}, api.ErrForm}, {five, api.Swot{Live: six.Live}, api.Swot{}, api.ErrForm}, {five, api.Swot{Live: six.Live, Past: pa([]int{1, 0})}, api.Swot{}, api.ErrForm}, {five, api.Swot{Live: six.Live, Past: pa([]int{1}), Defer: rs(re("", []int{9}))}, api.Swot{}, api.ErrForm},
	} {
		for _, pair := range [][2]api.Swot{{c.a, c.b}, {c.b, c.a}} {
			if got, err := swot.Join(pair[0], pair[1]); !same(got, c.want) || err != c.err {
				t.Errorf("Join(%v, %v) = %v, %d, want %v, %d", pair[0], pair[1], got, err, c.want, c.err)
			}
		}
	}
}

func TestJoinOutOfForm(t *testing.T) { // P11.2
	for _, wrong := range sample.WrongSwots() {
		for _, other := range []api.Swot{{}, one(en(0, 1, "A", 6)), waiting("A", 2), wrong} {
			for _, pair := range [][2]api.Swot{{wrong, other}, {other, wrong}} {
				if got, err := swot.Join(pair[0], pair[1]); !isZero(got) || err != api.ErrForm {
					t.Errorf("Join(%v, %v) = %v, %d", pair[0], pair[1], got, err)
				}
			}
		}
	}
}

func TestJoinIsAssociative(t *testing.T) { // P11.3, P12
	all := alike(t, 11)
	for _, b := range all {
		var ahead, behind []api.Swot
		for _, x := range all {
			ahead = append(ahead, joined(t, x, b))
			behind = append(behind, joined(t, b, x))
		}
		for i, a := range all {
			for j, c := range all {
				left, right := joined(t, ahead[i], c), joined(t, a, behind[j])
				if !same(left, right) {
					t.Errorf("%v, %v, %v joined from the left are %v, from the right %v", a, b, c, left, right)
				}
			}
		}
	}
}

func TestJoinWithItselfAndWithNothing(t *testing.T) { // P11.3, P12
	for _, s := range slices.Concat(mixed(400), alike(t, 100)) {
		for _, pair := range [][2]api.Swot{{s, s}, {s, {}}, {{}, s}} {
			if got, err := swot.Join(pair[0], pair[1]); !same(got, s) || err != api.OK {
				t.Errorf("Join(%v, %v) = %v, %d", pair[0], pair[1], got, err)
			}
		}
	}
}

func TestTheStateOfAJoinIsTheJoinOfTheStates(t *testing.T) { // P11.2
	all := append(sample.AlikeFacts(newDice().IntN, 90), api.Facts{}, api.Facts{Recs: rs(re("A", []int{2}))}, api.Facts{Gone: pa([]int{2, 1})})
	for _, f := range all {
		for _, g := range all {
			both, err := tomb.Join(f, g)
			if err != api.OK {
				t.Fatalf("%v and %v clash", f, g)
			}
			if got := joined(t, sample.State(f), sample.State(g)); !same(got, sample.State(both)) {
				t.Errorf("the states of %v and %v are joined to %v, and the state of both is %v", f, g, got, sample.State(both))
			}
		}
	}
}

// checkDots: what P11.5 says of the dots of a behind the join with b.
func checkDots(t *testing.T, a, b api.Swot) {
	t.Helper()
	j, err := swot.Join(a, b)
	if err != api.OK {
		return
	}
	for _, d := range sample.Dots() {
		if sample.Has(a.Past, d) && !holds(a.Live, d) && holds(j.Live, d) {
			t.Errorf("%v isn't live in %v and is again behind the join with %v", d, a, b)
		}
	}
	for _, e := range a.Live {
		want := holds(b.Live, e.Dot) || !sample.Has(b.Past, e.Dot) && !isCovered(b.Defer, e)
		if holds(j.Live, e.Dot) != want {
			t.Errorf("%v of %v is live behind the join with %v: %t", e, a, b, !want)
		}
	}
}

func TestWhatIsLiveBehindAJoin(t *testing.T) { // P11.5, P10
	for _, all := range [][]api.Swot{mixed(40), alike(t, 40)} {
		for _, a := range all {
			for _, b := range all {
				checkDots(t, a, b)
			}
		}
	}
}

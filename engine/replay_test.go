package engine_test

import (
	"slices"
	"testing"

	"barrow/act"
	"barrow/api"
	"barrow/compact"
	"barrow/sample"
)

// replayed is the chapter's definition of Replay: the first refused event, then the clash of any two, then the state of all facts together.
func (w world[S]) replayed(events []api.Facts) (S, api.Errno) {
	var none S
	for _, f := range events {
		if err := act.Event(f); err != api.OK {
			return none, err
		}
	}
	if clashes(mapped(events, func(f api.Facts) []api.Entry { return f.Adds })) {
		return none, api.ErrClash
	}
	return w.of(union(events)), api.OK
}

func (w world[S]) checkReplay(t *testing.T, events []api.Facts, want S, wantErr api.Errno) {
	t.Helper()
	if got, err := w.replay(events); !w.same(got, want) || err != wantErr {
		t.Errorf("%s: Replay(%v) = %v, %d, want %v, %d", w.name, events, got, err, want, wantErr)
	}
}

func checkReplays[S any](t *testing.T, w world[S]) {
	t.Helper()
	dice := newDice()
	alike, mixed := sample.AlikeEvents(dice.IntN, 300), sample.Events(dice.IntN, 300)
	refused := slices.Concat(sample.UnfitEvents(), sample.WrongFacts()[:10], sample.UnfitEvents(), sample.WrongFacts()[100:110])
	byErr := map[api.Errno]int{}
	for i := range 2000 {
		events := thrownList(dice.IntN, alike, 20)
		switch i % 4 {
		case 1:
			events = append(events, thrownList(dice.IntN, mixed, 12)...)
		case 2:
			events = slices.Concat(thrownList(dice.IntN, mixed, 8), thrownList(dice.IntN, refused, 3), events)
		}
		want, wantErr := w.replayed(events)
		w.checkReplay(t, events, want, wantErr)
		byErr[wantErr]++
	}
	if byErr[api.OK] < 500 || byErr[api.ErrClash] < 100 || byErr[api.ErrForm] < 100 || byErr[api.ErrArg] < 100 {
		t.Errorf("%s: too few of one kind: %v", w.name, byErr)
	}
}

func TestReplay(t *testing.T) { // P15.3
	checkReplays(t, tombs())
	checkReplays(t, swots())
}

func TestReplaysExamples(t *testing.T) { // P15.3
	a5, a9, b1 := en(0, 1, "A", 5), en(0, 2, "A", 9), en(0, 2, "B", 1)
	events := []api.Facts{added(a5), {Adds: es(a9), Gone: pa([]int{1})}}
	swots().checkReplay(t, events, api.Swot{Live: es(a9), Past: pa([]int{2})}, api.OK)
	tombs().checkReplay(t, events, api.Facts{Adds: es(a5, a9), Gone: pa([]int{1})}, api.OK)
	two := api.Facts{Adds: es(a5, b1)}
	for _, c := range []struct {
		events []api.Facts
		err    api.Errno
	}{
		{[]api.Facts{two}, api.ErrArg}, {nil, api.OK}, {[]api.Facts{}, api.OK}, {[]api.Facts{{}, {}}, api.OK},
		// The first that is refused tells the error, whatever stands behind it; and a clash ahead of it doesn't count.
		{[]api.Facts{events[0], two, gone(0)}, api.ErrArg}, {[]api.Facts{events[0], gone(0), two}, api.ErrForm}, {[]api.Facts{added(a5), added(en(0, 1, "A", 6)), two}, api.ErrArg}, {[]api.Facts{added(a5), added(en(0, 1, "A", 6)), gone(0)}, api.ErrForm},
		{[]api.Facts{added(a5), added(en(0, 1, "A", 6))}, api.ErrClash}, {[]api.Facts{added(a5), events[1], gone(2), added(en(0, 1, "B", 5))}, api.ErrClash}, {[]api.Facts{added(en(0, 1, "B", 5)), gone(1), {Recs: rs(re("", []int{1}))}, added(a5)}, api.ErrClash},
	} {
		tombs().checkReplay(t, c.events, api.Facts{}, c.err)
		swots().checkReplay(t, c.events, api.Swot{}, c.err)
	}
}

func TestReplayOfEachEvent(t *testing.T) { // P15.3
	for _, f := range manyEvents() {
		wantFacts, err := tombs().replayed([]api.Facts{f})
		tombs().checkReplay(t, []api.Facts{f}, wantFacts, err)
		wantState, err := swots().replayed([]api.Facts{f})
		swots().checkReplay(t, []api.Facts{f}, wantState, err)
	}
}

func TestReplaysOfBothEngines(t *testing.T) { // P15.4
	dice := newDice()
	alike := sample.AlikeEvents(dice.IntN, 300)
	for range 1000 {
		events := thrownList(dice.IntN, alike, 30)
		facts, err1 := tombs().replay(events)
		got, err2 := swots().replay(events)
		want, err3 := compact.Compact(facts)
		if err1 != api.OK || err2 != api.OK || err3 != api.OK || !sample.SameSwot(got, want) || !sample.SameSwot(got, sample.State(facts)) {
			t.Errorf("Replay(%v) by Swot = %v, %d, the state of that by Tomb %v, %d, %d", events, got, err2, want, err1, err3)
		}
	}
}

func TestReplayOfVeryMany(t *testing.T) { // P15.3
	var events []api.Facts
	for n := 1; n <= 4000; n++ {
		f := added(en(n%3, n, "A", n))
		if n%30 == 0 {
			f.Gone = pa([]int{n - 20})
		}
		events = append(events, f)
	}
	tombs().checkReplay(t, events, union(events), api.OK)
	swots().checkReplay(t, events, sample.State(union(events)), api.OK)
}

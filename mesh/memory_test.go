package mesh_test

import (
	"slices"
	"testing"

	"barrow/api"
	"barrow/engine"
	"barrow/memcheck"
	"barrow/mesh"
	"barrow/sample"
)

type region = memcheck.Region

// answered: the memory of all lists that the store's calls answer.
func answered[S any, E engine.Engine[S]](m *mesh.Mesh[S, E], of func(s S) []region) []region {
	all := append(memcheck.LineTables(m.All()), memcheck.Numbers(m.Waiting()))
	for rep := range m.Head().Reps + 1 {
		touched, _ := m.Touched(rep)
		all = append(all, memcheck.Numbers(touched))
		for cart := range m.Head().Carts + 1 {
			live, _ := m.Live(rep, cart)
			told, _ := m.Lines(rep, cart)
			seen, _ := m.Past(rep, cart)
			state, _ := m.State(rep, cart)
			all = slices.Concat(all, []region{memcheck.Entries(live), memcheck.Lines(told)}, memcheck.Past(seen), of(state))
		}
	}
	for n := range m.Made() + 2 {
		l, _ := m.Look(n)
		all = append(all, memcheck.Bytes(l.Bytes))
	}
	return all
}

// checkAnswers: what is written into answers, spare room too, is lost on the store and on other answers.
func checkAnswers[S any, E engine.Engine[S]](t *testing.T, k kind[S, E], of func(s S) []region) {
	t.Helper()
	dice := newDice()
	for range 12 {
		h := thrownHead(dice)
		p := newPair(t, k, h)
		for i, st := range thrownSteps(dice, h, 90) {
			p.play(st)
			if i%15 > 0 {
				continue
			}
			if memcheck.Shared(slices.Concat(answered(p.m, of), answered(p.m, of))) {
				t.Errorf("%s: a write into one answer changes another", k.name)
			}
			p.check()
		}
		p.check()
	}
}

func TestAnswersAreNewMemory(t *testing.T) { // R7
	checkAnswers(t, tombs(), memcheck.Facts)
	checkAnswers(t, swots(), memcheck.Swot)
}

// checkStay: later calls change nothing of what was answered.
func checkStay[S any, E engine.Engine[S]](t *testing.T, k kind[S, E], of func(s S) []region) {
	t.Helper()
	h := api.Header{Reps: 3, Carts: 2, Lines: 5, Count: 100, Log: 2}
	m := mesh.New[S, E](h)
	p := &player{store: m}
	var all []region
	for i, st := range thrownSteps(newDice(), h, 200) {
		if p.play(st); i%10 == 0 {
			all = append(all, answered(m, of)...)
		}
	}
	if memcheck.Changed(all, nil) {
		t.Errorf("%s: a later call changes what was answered", k.name)
	}
}

func TestAnswersStay(t *testing.T) { // R7
	checkStay(t, tombs(), memcheck.Facts)
	checkStay(t, swots(), memcheck.Swot)
}

// checkActs: an act's past is neither changed nor kept.
func checkActs[S any, E engine.Engine[S]](t *testing.T, k kind[S, E], of func(s S) []region) {
	t.Helper()
	p := newPair(t, k, api.Header{Reps: 2, Carts: 1, Lines: 10, Count: 100, Log: 3})
	pasts := slices.Concat(sample.WrongPasts(), []api.Past{{}, {Vec: []int{1}}, {Vec: []int{0, 3}, Cloud: []api.Span{{Rep: 0, Lo: 2, Hi: 3}, {Rep: 2, Lo: 5, Hi: 9}}}, {Cloud: []api.Span{{Rep: 1, Lo: 3, Hi: 3}}}})
	for i, past := range pasts {
		for kind := api.ActSet; kind <= api.ActClearTo; kind++ {
			a := api.Act{Kind: kind, Sku: "A", Qty: 5, Past: past}
			mine := a
			mine.Past = sample.RoomyPast(past)
			before := memcheck.Past(mine.Past)
			err := p.m.Act(i%2, 0, mine)
			if want := p.s.Act(i%2, 0, a); err != want {
				t.Errorf("%s: Act(%v) = %d, want %d", k.name, a, err, want)
			}
			p.play(step{what: "push", rep: i % 2, to: 1 - i%2})
			if memcheck.Changed(before, answered(p.m, of)) {
				t.Errorf("%s: Act(%v), or a write into what comes of it, changes it", k.name, a)
			}
			memcheck.Changed(nil, before)
		}
		p.check()
		p.play(step{what: "deliver"})
	}
	p.check()
}

func TestActsKeepNothingOfWhatTheyAreHanded(t *testing.T) { // R7
	checkActs(t, tombs(), memcheck.Facts)
	checkActs(t, swots(), memcheck.Swot)
}

package node_test

import (
	"slices"
	"testing"

	"barrow/api"
	"barrow/engine"
	"barrow/memcheck"
	"barrow/node"
	"barrow/sample"
)

type region = memcheck.Region

// A memory tells of the lists of a kind of states.
type memory[S any] struct {
	of    func(s S) []region
	roomy func(s S) S
}

func tombMemory() memory[api.Facts] {
	return memory[api.Facts]{memcheck.Facts, sample.RoomyFacts}
}

func swotMemory() memory[api.Swot] { return memory[api.Swot]{memcheck.Swot, sample.RoomySwot} }

// durable: the memory of a list of carts and of their states, those in its spare room too.
func (m memory[S]) durable(d node.Durable[S]) []region {
	var all []region
	for _, c := range d.Carts[:cap(d.Carts)] {
		all = append(all, m.of(c.State)...)
	}
	same := func(x, y node.Held[S]) bool { return x.Cart == y.Cart }
	return append(all, memcheck.Of(d.Carts, node.Held[S]{Cart: -77}, same))
}

// roomyDurable: in new memory, with spare room in which there is something to lose.
func (m memory[S]) roomyDurable(d node.Durable[S]) node.Durable[S] {
	room := slices.Concat(d.Carts, []node.Held[S]{{Cart: 70}, {Cart: 71}})
	for i, c := range room {
		room[i].State = m.roomy(c.State)
	}
	d.Carts = room[:len(d.Carts)]
	return d
}

// answered: the memory of all that the replica's calls answer, but for those that change it.
func answered[S any, E engine.Engine[S]](m memory[S], n *node.Node[S, E], h api.Header) []region {
	all := append(m.durable(n.Durable()), memcheck.Numbers(n.Touched()))
	for cart := range h.Carts + 1 {
		live, _ := n.Live(cart)
		told, _ := n.Lines(cart)
		seen, _ := n.Past(cart)
		state, _ := n.State(cart)
		all = slices.Concat(all, []region{memcheck.Entries(live), memcheck.Lines(told)}, memcheck.Past(seen), m.of(state))
	}
	message := func(b []byte, _ api.Errno) { all = append(all, memcheck.Bytes(b)) }
	for to := range h.Reps + 1 {
		message(n.Sync(to, false))
		message(n.Sync(to, true))
		message(n.Ask(to))
		for back := range h.Log + 1 {
			message(n.Push(to, back))
		}
	}
	return all
}

// deliverAll: the memory of the answers to the store's messages, each of which comes to its replica.
func deliverAll[S any, E engine.Engine[S]](x sides[S, E]) []region {
	var all []region
	for i, p := range x.nodes.all {
		b, _, err := x.nodes.reps[p.to].(built[S, E]).Deliver(p.m)
		if _, _, want := x.slows.reps[p.to].(thought[S]).slow.deliver(x.slows.all[i].m); err != want {
			panic("the two part")
		}
		all = append(all, memcheck.Bytes(b))
	}
	return all
}

// checkAnswers: what is written into answers, spare room too, is lost on the replicas and on other answers.
func checkAnswers[S any, E engine.Engine[S]](t *testing.T, k kind[S], m memory[S]) {
	t.Helper()
	dice := newDice()
	for range 12 {
		h := thrownHead(dice)
		x := newSides[S, E](k, h)
		for i, st := range thrownSteps(dice, h, 60) {
			x.play(t, st)
			if i%20 > 0 {
				continue
			}
			var all []region
			for _, r := range x.nodes.reps {
				n := r.(built[S, E]).Node
				all = slices.Concat(all, answered(m, n, h), answered(m, n, h))
			}
			if memcheck.Shared(slices.Concat(all, deliverAll(x))) {
				t.Errorf("%s: a write into one answer changes another", k.name)
			}
			x.check(t)
		}
		x.check(t)
	}
}

func TestAnswersAreNewMemory(t *testing.T) { // R7
	checkAnswers[api.Facts, engine.Tomb](t, tombs(), tombMemory())
	checkAnswers[api.Swot, engine.Swot](t, swots(), swotMemory())
}

// checkLoaded: Load neither changes nor keeps what it is handed.
func checkLoaded[S any, E engine.Engine[S]](t *testing.T, k kind[S], m memory[S]) {
	t.Helper()
	dice := newDice()
	states := k.alike(dice.IntN, 40)
	h := api.Header{Reps: 3, Carts: 5, Lines: 10, Count: 100, Log: 2}
	for i := range 40 {
		d := node.Durable[S]{Self: 1, Next: i, Carts: heldBy([]int{0, 2, 3}[i%3:], states[i:])}
		mine := m.roomyDurable(d)
		before := m.durable(mine)
		p := pair[S, E]{k, right(node.Load[S, E](h, mine)), newSlow(ofEngine[S, E](), h, d)}
		if memcheck.Changed(before, answered(m, p.n, h)) {
			t.Errorf("%s: Load(%v), or a write into what comes of it, changes it", k.name, d)
		}
		p.check(t)
		memcheck.Changed(nil, before)
		p.check(t)
		again := right(node.Load[S, E](h, p.n.Durable()))
		memcheck.Changed(nil, answered(m, again, h))
		p.check(t)
	}
	for _, s := range k.wrong()[:60] {
		mine := m.roomyDurable(node.Durable[S]{Carts: []node.Held[S]{{Cart: 0}, {Cart: 1, State: s}}})
		before := m.durable(mine)
		if _, err := node.Load[S, E](h, mine); err != api.ErrForm || memcheck.Changed(before, nil) {
			t.Errorf("%s: Load(%v) = %d, or it changes it", k.name, mine, err)
		}
	}
}

func TestLoadKeepsNothingOfWhatItIsHanded(t *testing.T) { // R7
	checkLoaded[api.Facts, engine.Tomb](t, tombs(), tombMemory())
	checkLoaded[api.Swot, engine.Swot](t, swots(), swotMemory())
}

// checkActs: an act's past is neither changed nor kept.
func checkActs[S any, E engine.Engine[S]](t *testing.T, k kind[S], m memory[S]) {
	t.Helper()
	h := api.Header{Reps: 3, Carts: 1, Lines: 10, Count: 100, Log: 3}
	p := newPair[S, E](k, h, node.Durable[S]{Self: 1})
	for _, past := range slices.Concat(sample.WrongPasts(), []api.Past{{}, {Vec: []int{1}}, {Vec: []int{0, 3}, Cloud: []api.Span{{Rep: 0, Lo: 2, Hi: 3}, {Rep: 2, Lo: 5, Hi: 9}}}, {Cloud: []api.Span{{Rep: 1, Lo: 3, Hi: 3}}}}) {
		for kind := api.ActSet; kind <= api.ActClearTo; kind++ {
			a := api.Act{Kind: kind, Sku: "A", Qty: 5, Past: past}
			mine := a
			mine.Past = sample.RoomyPast(past)
			before := memcheck.Past(mine.Past)
			did, err := p.n.Act(0, mine)
			if want, wantErr := p.s.Act(0, a); did != want || err != wantErr {
				t.Errorf("%s: Act(%v) = %t, %d, want %t, %d", k.name, a, did, err, want, wantErr)
			}
			if memcheck.Changed(before, answered(m, p.n, h)) {
				t.Errorf("%s: Act(%v), or a write into what comes of it, changes it", k.name, a)
			}
			memcheck.Changed(nil, before)
		}
		p.check(t)
	}
}

func TestActsKeepNothingOfWhatTheyAreHanded(t *testing.T) { // R7
	checkActs[api.Facts, engine.Tomb](t, tombs(), tombMemory())
	checkActs[api.Swot, engine.Swot](t, swots(), swotMemory())
}

// checkBytes: a message's bytes are neither changed nor kept.
func checkBytes[S any, E engine.Engine[S]](t *testing.T, k kind[S], m memory[S]) {
	t.Helper()
	f := newForger[S, E](k, k.alike(newDice().IntN, 30))
	h := api.Header{Reps: 3, Carts: 4, Lines: 5, Count: 100, Log: 3}
	p := newPair[S, E](k, h, node.Durable[S]{Self: 1})
	for range 80 {
		b := f.mail(p.s.Next())
		mine := sample.RoomyBytes(b)
		before := []region{memcheck.Bytes(mine)}
		answer, _, err := p.n.Deliver(mine)
		if _, _, want := p.s.deliver(parsed[S, E](b)); err != want {
			t.Fatalf("%s: Deliver(%x): %d, want %d", k.name, b, err, want)
		}
		if memcheck.Changed(before, append(answered(m, p.n, h), memcheck.Bytes(answer))) {
			t.Errorf("%s: Deliver(%x), or a write into what comes of it, changes it", k.name, b)
		}
		memcheck.Changed(nil, before)
	}
	p.check(t)
}

func TestDeliveriesKeepNothingOfWhatTheyAreHanded(t *testing.T) { // R7
	checkBytes[api.Facts, engine.Tomb](t, tombs(), tombMemory())
	checkBytes[api.Swot, engine.Swot](t, swots(), swotMemory())
}

// checkStay: later calls change nothing of what was answered.
func checkStay[S any, E engine.Engine[S]](t *testing.T, k kind[S], m memory[S]) {
	t.Helper()
	dice := newDice()
	h := api.Header{Reps: 3, Carts: 2, Lines: 5, Count: 100, Log: 2}
	s := builtStore[S, E](h)
	var all []region
	for _, st := range thrownSteps(dice, h, 150) {
		s.play(st)
		all = append(all, answered(m, s.reps[st.rep].(built[S, E]).Node, h)...)
	}
	if memcheck.Changed(all, nil) {
		t.Errorf("%s: a later call changes what was answered", k.name)
	}
}

func TestAnswersStay(t *testing.T) { // R7
	checkStay[api.Facts, engine.Tomb](t, tombs(), tombMemory())
	checkStay[api.Swot, engine.Swot](t, swots(), swotMemory())
}

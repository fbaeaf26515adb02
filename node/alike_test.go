package node_test

import (
	"bytes"
	"math/rand/v2"
	"testing"

	"barrow/api"
	"barrow/engine"
	"barrow/mail"
	"barrow/node"
	"barrow/past"
	"barrow/sample"
)

type tombNode = node.Node[api.Facts, engine.Tomb]

type swotNode = node.Node[api.Swot, engine.Swot]

// three are the stores of the two engines, and what their replicas know.
type three struct {
	tombs, swots *store[[]byte]
	known        *store[letter[api.Facts]]
}

func newThree(h api.Header) three {
	return three{builtStore[api.Facts, engine.Tomb](h), builtStore[api.Swot, engine.Swot](h), thoughtStore(ofKnowledge(), h)}
}

func (x three) tomb(rep int) *tombNode {
	return x.tombs.reps[rep].(built[api.Facts, engine.Tomb]).Node
}

func (x three) swot(rep int) *swotNode {
	return x.swots.reps[rep].(built[api.Swot, engine.Swot]).Node
}

// play holds the answers of the two engines against each other, and against what is known.
func (x three) play(t *testing.T, st step) {
	t.Helper()
	one, two, want := x.tombs.play(st), x.swots.play(st), x.known.play(st)
	if one != two || one != want {
		t.Fatalf("%v: Tomb: %s\nSwot: %s\nknown: %s", st, one, two, want)
	}
	if last := len(x.tombs.all) - 1; last >= 0 {
		checkAlikeMails(t, x.tombs.all[last].m, x.swots.all[last].m)
	}
}

// checkAlikeMails: what the one engine sends is the state of what the other does; digests are the same.
func checkAlikeMails(t *testing.T, one, two []byte) {
	t.Helper()
	a, b := right(mail.Get(one)), right(mail.Get(two))
	for i, p := range a.Parts {
		if a.Kind == api.MailAsk {
			if !bytes.Equal(p.Body, b.Parts[i].Body) {
				t.Errorf("the digests %x and %x", p.Body, b.Parts[i].Body)
			}
			continue
		}
		f, s := right(engine.Tomb{}.Unpack(p.Body)), right(engine.Swot{}.Unpack(b.Parts[i].Body))
		if !sample.SameSwot(sample.State(f), s) {
			t.Errorf("a part of kind %d: %v and %v", a.Kind, f, s)
		}
	}
}

// checkStates: each compact state is the State of the facts, and of what is known.
func (x three) checkStates(t *testing.T) {
	t.Helper()
	for rep := range x.tombs.reps {
		known := x.known.reps[rep].(thought[api.Facts]).slow
		for cart := range x.tombs.h.Carts {
			f, s := right(x.tomb(rep).State(cart)), right(x.swot(rep).State(cart))
			if !sample.SameSwot(sample.State(f), s) || !sample.SameSwot(sample.State(known.state(cart)), s) || (engine.Swot{}).Check(s) != api.OK {
				t.Errorf("replica %d, cart %d: %v and %v; known %v", rep, cart, f, s, known.state(cart))
			}
		}
	}
}

func TestBothEnginesAnswerAlike(t *testing.T) { // P20.2, P2, P3, P6
	dice := newDice()
	for range 100 {
		h := thrownHead(dice)
		x := newThree(h)
		for i, st := range thrownSteps(dice, h, 120) {
			x.play(t, st)
			if i%7 == 0 {
				x.checkStates(t)
			}
		}
		x.checkStates(t)
	}
}

// loaded: three stores that begin with facts of which no two clash, the compact one with their States.
func loaded(dice *rand.Rand, h api.Header) three {
	x := three{&store[[]byte]{h: clamped(h)}, &store[[]byte]{h: clamped(h)}, &store[letter[api.Facts]]{h: clamped(h)}}
	for self := range x.tombs.h.Reps {
		one, two := node.Durable[api.Facts]{Self: self, Next: dice.IntN(3)}, node.Durable[api.Swot]{Self: self}
		two.Next = one.Next
		for cart, f := range sample.AlikeFacts(dice.IntN, x.tombs.h.Carts) {
			if dice.IntN(3) > 0 {
				one.Carts, two.Carts = append(one.Carts, node.Held[api.Facts]{Cart: cart, State: f}), append(two.Carts, node.Held[api.Swot]{Cart: cart, State: sample.State(f)})
			}
		}
		x.tombs.reps = append(x.tombs.reps, built[api.Facts, engine.Tomb]{right(node.Load[api.Facts, engine.Tomb](h, one)), h})
		x.swots.reps = append(x.swots.reps, built[api.Swot, engine.Swot]{right(node.Load[api.Swot, engine.Swot](h, two)), h})
		x.known.reps = append(x.known.reps, thought[api.Facts]{newSlow(ofKnowledge(), h, one)})
	}
	return x
}

func TestBothEnginesAnswerAlikeFromLoadedStates(t *testing.T) { // P20.2, P6
	dice := newDice()
	for range 40 {
		h := thrownHead(dice)
		x := loaded(dice, h)
		for i, st := range thrownSteps(dice, h, 80) {
			// Acts that add would make dots that the loaded facts of another replica have, unlike.
			if st.act.Kind == api.ActSet || st.act.Kind == api.ActAdd {
				st.act.Kind = api.ActRemove
			}
			x.play(t, st)
			if i%7 == 0 {
				x.checkStates(t)
			}
		}
		x.checkStates(t)
	}
}

// talk: every replica sends every other one a sync, in any order, and all are delivered, among other deliveries.
func (x three) talk(t *testing.T, dice *rand.Rand) {
	t.Helper()
	reps := x.tombs.h.Reps
	for _, i := range dice.Perm(reps * reps) {
		from, to := i/reps, i%reps
		if from == to {
			continue
		}
		x.play(t, step{what: []string{"sync", "full"}[dice.IntN(2)], rep: from, to: to})
		x.play(t, step{what: "deliver", rep: to})
		for range dice.IntN(3) {
			x.play(t, step{what: []string{"deliver", "restart", "cut", "ask"}[dice.IntN(4)], rep: from, to: to, num: dice.IntN(20), bytes: 1})
		}
	}
}

func TestBehindASyncOfEachPairAllReadTheSame(t *testing.T) { // P4, P6
	dice := newDice()
	for range 60 {
		h := roomyHead(dice)
		x := newThree(h)
		for _, st := range fair(thrownSteps(dice, h, 100)) {
			x.play(t, st)
		}
		x.talk(t, dice)
		for cart := range h.Carts {
			var events []api.Facts
			for rep := range h.Reps {
				events = append(events, x.known.reps[rep].(thought[api.Facts]).state(cart))
			}
			want := sample.State(union(events))
			for rep := range h.Reps {
				s := right(x.swot(rep).State(cart))
				if !sample.SameSwot(s, want) || len(s.Past.Cloud) > 0 || len(s.Defer) > 0 {
					t.Errorf("replica %d, cart %d: %v, want %v", rep, cart, s, want)
				}
			}
		}
	}
}

// A seen is what a replica has heard of in a cart, and what is live there.
type seen struct {
	past api.Past
	live []api.Entry
}

func look[M any](s *store[M]) [][]seen {
	var all [][]seen
	for _, r := range s.reps {
		var carts []seen
		for cart := range s.h.Carts {
			carts = append(carts, seen{right(r.Past(cart)), right(r.Live(cart))})
		}
		all = append(all, carts)
	}
	return all
}

// checkGrowth: what a replica knows is never less, and what was heard of and isn't live never lives again.
func checkGrowth(t *testing.T, st step, ahead, behind [][]seen) {
	t.Helper()
	for rep := range ahead {
		for cart, a := range ahead[rep] {
			b := behind[rep][cart]
			if !past.Within(a.past, b.past) {
				t.Errorf("%v: replica %d, cart %d: the context %v, and then %v", st, rep, cart, a.past, b.past)
			}
			dead := past.Minus(a.past, dotsOf(a.live))
			if !past.Empty(past.Meet(dead, dotsOf(b.live))) {
				t.Errorf("%v: replica %d, cart %d: live %v, and then %v, over %v", st, rep, cart, a.live, b.live, a.past)
			}
		}
	}
}

func dotsOf(list []api.Entry) api.Past {
	var dots []api.Dot
	for _, e := range list {
		dots = append(dots, e.Dot)
	}
	return past.Of(dots)
}

func TestNothingIsUnlearned(t *testing.T) { // P20.3, P10
	dice := newDice()
	for i := range 60 {
		h := thrownHead(dice)
		s := builtStore[api.Swot, engine.Swot](h)
		if i%2 == 0 {
			s = builtStore[api.Facts, engine.Tomb](h)
		}
		ahead := look(s)
		for _, st := range thrownSteps(dice, h, 100) {
			s.play(st)
			behind := look(s)
			checkGrowth(t, st, ahead, behind)
			ahead = behind
		}
	}
}

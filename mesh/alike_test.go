package mesh_test

import (
	"bytes"
	"math/rand/v2"
	"slices"
	"strings"
	"testing"

	"barrow/api"
	"barrow/engine"
	"barrow/mail"
	"barrow/mesh"
	"barrow/past"
	"barrow/sample"
	"barrow/tomb"
)

type (
	tombMesh = mesh.Mesh[api.Facts, engine.Tomb]
	swotMesh = mesh.Mesh[api.Swot, engine.Swot]
)

// both are the stores of the two engines, to which the same is done.
type both struct {
	*testing.T
	tombs *tombMesh
	swots *swotMesh
	a, b  *player
}

func newBoth(t *testing.T, h api.Header) *both {
	x := &both{T: t, tombs: mesh.New[api.Facts, engine.Tomb](h), swots: mesh.New[api.Swot, engine.Swot](h)}
	x.a, x.b = &player{store: x.tombs}, &player{store: x.swots}
	return x
}

func (x *both) play(st step) string {
	x.Helper()
	one, two := x.a.play(st), x.b.play(st)
	if one != two {
		x.Fatalf("%v: Tomb: %s, Swot: %s", st, one, two)
	}
	return one
}

// check: both tell the same, and each compact state is the State of the facts.
func (x *both) check() {
	x.Helper()
	if one, two := reads(x.tombs), reads(x.swots); one != two {
		x.Fatalf("Tomb:\n%s\nSwot:\n%s", one, two)
	}
	if one, two := letters(x.tombs, heading), letters(x.swots, heading); one != two {
		x.Fatalf("Tomb:\n%s\nSwot:\n%s", one, two)
	}
	for rep := range x.tombs.Head().Reps {
		for cart := range x.tombs.Head().Carts {
			f, s := right(x.tombs.State(rep, cart)), right(x.swots.State(rep, cart))
			if !sample.SameSwot(sample.State(f), s) || (engine.Swot{}).Check(s) != api.OK {
				x.Fatalf("replica %d, cart %d: %v and %v", rep, cart, f, s)
			}
		}
	}
	for _, n := range x.tombs.Waiting() {
		x.checkMails(right(x.tombs.Look(n)).Bytes, right(x.swots.Look(n)).Bytes)
	}
}

// checkMails: what the one engine sends is the State of what the other does; digests are the same.
func (x *both) checkMails(one, two []byte) {
	x.Helper()
	a, err := mail.Get(one)
	b, _ := mail.Get(two)
	if err != api.OK {
		return
	}
	for i, p := range a.Parts {
		if a.Kind == api.MailAsk {
			if !bytes.Equal(p.Body, b.Parts[i].Body) {
				x.Errorf("the digests %x and %x", p.Body, b.Parts[i].Body)
			}
			continue
		}
		f, s := right(engine.Tomb{}.Unpack(p.Body)), right(engine.Swot{}.Unpack(b.Parts[i].Body))
		if !sample.SameSwot(sample.State(f), s) {
			x.Errorf("a part of kind %d: %v and %v", a.Kind, f, s)
		}
	}
}

func TestBothEnginesAnswerAlike(t *testing.T) { // P2, P6
	dice := newDice()
	for range 80 {
		h := thrownHead(dice)
		x := newBoth(t, h)
		for i, st := range thrownSteps(dice, h, 150) {
			x.play(st)
			if i%10 == 0 {
				x.check()
			}
		}
		x.check()
	}
}

// talk: every replica sends every other one a sync, in any order, and all are delivered whole, among other deliveries.
func (x *both) talk(dice *rand.Rand) {
	x.Helper()
	reps := x.tombs.Head().Reps
	for _, i := range dice.Perm(reps * reps) {
		from, to := i/reps, i%reps
		if from == to {
			continue
		}
		x.play(step{what: []string{"sync", "full"}[dice.IntN(2)], rep: from, to: to})
		x.play(step{what: "deliver"})
		for range dice.IntN(3) {
			x.play(step{what: []string{"deliver", "restart", "ask", "copy", "drop", "trim", "push"}[dice.IntN(7)], rep: from, to: to, num: dice.IntN(8), cut: 1})
		}
	}
}

// known: the facts of all events that any replica knows in the cart.
func (x *both) known(cart int) api.Facts {
	var all api.Facts
	for rep := range x.tombs.Head().Reps {
		all = right(tomb.Join(all, right(x.tombs.State(rep, cart))))
	}
	return all
}

func TestBehindASyncOfEachPairAllReadTheSame(t *testing.T) { // P4, P6
	dice := newDice()
	for range 50 {
		h := roomyHead(dice)
		x := newBoth(t, h)
		for _, st := range fair(thrownSteps(dice, h, 120)) {
			x.play(st)
		}
		x.talk(dice)
		x.check()
		for cart := range h.Carts {
			want := sample.State(x.known(cart))
			for rep := range h.Reps {
				s := right(x.swots.State(rep, cart))
				if !sample.SameSwot(s, want) || len(s.Past.Cloud) > 0 || len(s.Defer) > 0 {
					t.Errorf("replica %d, cart %d: %v, want %v", rep, cart, s, want)
				}
			}
		}
	}
}

// clientSees: of reads all; of letters which there are, from whom and to whom, but not what is in them.
func clientSees(s store) string {
	way := letters(s, func(b []byte) string { return "" })
	return reads(s) + "\n" + way
}

func checkRestarts[S any, E engine.Engine[S]](t *testing.T, k kind[S, E]) {
	t.Helper()
	dice := newDice()
	for range 40 {
		h := thrownHead(dice)
		one, two := &player{store: mesh.New[S, E](h)}, &player{store: mesh.New[S, E](h)}
		for i, st := range without(thrownSteps(dice, h, 120), "push", "restart") {
			if dice.IntN(8) == 0 {
				two.play(step{what: "restart", rep: dice.IntN(h.Reps)})
			}
			if got, want := two.play(st), one.play(st); got != want {
				t.Fatalf("%s: %v: with restarts %s, without %s", k.name, st, got, want)
			}
			if i%5 == 0 && clientSees(two) != clientSees(one) {
				t.Fatalf("%s: %v: with restarts\n%s\nwithout\n%s", k.name, st, clientSees(two), clientSees(one))
			}
		}
	}
}

func TestRestartsChangeNoLaterAnswer(t *testing.T) { // P9
	checkRestarts(t, tombs())
	checkRestarts(t, swots())
}

// A sight is what a replica has heard of in a cart, and what is live there.
type sight struct {
	past api.Past
	live []api.Entry
}

func look(s store) [][]sight {
	var all [][]sight
	for rep := range s.Head().Reps {
		var carts []sight
		for cart := range s.Head().Carts {
			carts = append(carts, sight{right(s.Past(rep, cart)), right(s.Live(rep, cart))})
		}
		all = append(all, carts)
	}
	return all
}

func dotsOf(list []api.Entry) api.Past {
	var dots []api.Dot
	for _, e := range list {
		dots = append(dots, e.Dot)
	}
	return past.Of(dots)
}

// checkGrowth: what was heard of and isn't live never lives again, and nothing is unheard.
func checkGrowth(t *testing.T, st step, ahead, behind [][]sight) {
	t.Helper()
	for rep := range ahead {
		for cart, a := range ahead[rep] {
			b := behind[rep][cart]
			dead := past.Minus(a.past, dotsOf(a.live))
			if !past.Within(a.past, b.past) || !past.Empty(past.Meet(dead, dotsOf(b.live))) {
				t.Errorf("%v: replica %d, cart %d: live %v over %v, and then %v over %v", st, rep, cart, a.live, a.past, b.live, b.past)
			}
		}
	}
}

func TestNothingLivesAgain(t *testing.T) { // P10
	dice := newDice()
	for i := range 60 {
		h := thrownHead(dice)
		p := &player{store: mesh.New[api.Swot, engine.Swot](h)}
		if i%2 == 0 {
			p.store = mesh.New[api.Facts, engine.Tomb](h)
		}
		ahead := look(p)
		for _, st := range thrownSteps(dice, h, 120) {
			p.play(st)
			behind := look(p)
			checkGrowth(t, st, ahead, behind)
			ahead = behind
		}
	}
}

// What a document's example of the whole says of a remove by context that runs ahead of what it removes.
func checkAhead[S any, E engine.Engine[S]](t *testing.T) {
	t.Helper()
	x := story[S, E]{t, mesh.New[S, E](api.Header{Reps: 2, Carts: 1, Lines: 10, Count: 100, Log: 8, Tokens: 4})}
	x.Act(0, 0, api.Act{Kind: api.ActSet, Sku: "A", Qty: 5})
	seen := right(x.Past(0, 0))
	x.is("Act", 0, api.OK)(0, x.Act(1, 0, api.Act{Kind: api.ActRemoveTo, Sku: "A", Past: seen}))
	x.Restart(1)
	x.is("Send", 1, api.OK)(x.Send(0, 1, false))
	x.is("Deliver", 2, api.OK)(x.Deliver(1))
	x.reads(1)
	x.reads(0, api.Line{Sku: "A", Qty: 5, Parts: 1})
	if touched := right(x.Touched(1)); !slices.Equal(touched, []int{0}) || !strings.Contains(reads(x), "touched [0] 0") {
		t.Errorf("Touched(1) = %v", touched)
	}
}

func TestARemoveThatRunsAhead(t *testing.T) { // P22.1, P9
	checkAhead[api.Facts, engine.Tomb](t)
	checkAhead[api.Swot, engine.Swot](t)
}

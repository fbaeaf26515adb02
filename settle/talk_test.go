package settle_test

import (
	"fmt"
	"math/rand/v2"
	"slices"
	"testing"

	"barrow/api"
	"barrow/cart"
	"barrow/engine"
	"barrow/known"
	"barrow/sample"
	"barrow/settle"
)

// tell: all that the stack's calls tell.
func tell[S any, E engine.Engine[S]](c *cart.Cart[S, E]) string {
	text := fmt.Sprint(c.Head(), c.Made(), c.Waiting(), c.All())
	for rep := range c.Head().Reps {
		touched, _ := c.Touched(rep)
		text += fmt.Sprint("\n", touched)
		for at := range c.Head().Carts {
			state, err := c.State(rep, at)
			text += fmt.Sprint("\n", state, err)
		}
	}
	for n := range c.Made() + 1 {
		l, err := c.Look(n)
		text += fmt.Sprint("\n", l, err)
	}
	return text
}

// played: a stack behind the script.
func played[S any, E engine.Engine[S]](s api.Script) *cart.Cart[S, E] {
	c := cart.New[S, E](s.Head)
	for _, o := range s.Ops {
		c.Step(o)
	}
	return c
}

// talk is the chapter's words: step by step.
func talk[S any, E engine.Engine[S]](c *cart.Cart[S, E], ps []api.Pair, full bool) int {
	kind, delivered := 8, 0
	if full {
		kind = 9
	}
	for _, p := range ps {
		a := c.Step(api.Op{Kind: kind, Rep: p.From, To: p.To})
		if a.Status != 0 {
			continue
		}
		if c.Step(api.Op{Kind: 11, Num: a.Msg}).Status == 0 {
			delivered++
		}
	}
	return delivered
}

// agreed is the chapter's words: View by View.
func agreed[S any, E engine.Engine[S]](c *cart.Cart[S, E]) bool {
	for at := range c.Head().Carts {
		for rep := range c.Head().Reps {
			if !slices.Equal(right(c.View(rep, at)), right(c.View(0, at))) {
				return false
			}
		}
	}
	return true
}

// anyHead: one whose limits are soon reached, or one of several replicas.
func anyHead(dice *rand.Rand) api.Header {
	if dice.IntN(2) == 0 {
		return sample.TightHead(dice.IntN)
	}
	return sample.RoomyHead(dice.IntN)
}

func checkTalk[S any, E engine.Engine[S]](t *testing.T) {
	t.Helper()
	dice := newDice()
	agree := map[bool]int{}
	for range 120 {
		s := known.Thrown(dice.IntN, anyHead(dice), dice.IntN(80))
		one, two := played[S, E](s), played[S, E](s)
		for range 3 {
			ps, full := pairs(dice, s.Head.Reps, dice.IntN(12)), dice.IntN(2) == 0
			good := len(sample.Those(ps, func(p api.Pair) bool { return isGood(p, s.Head.Reps) }))
			got, want := settle.Talk(one, ps, full), talk(two, ps, full)
			if got != want || got != good {
				t.Errorf("Talk(%v, %t) = %d, want %d", ps, full, got, good)
			}
			ahead := tell(one)
			if ahead != tell(two) {
				t.Fatalf("behind Talk(%v, %t)\n%s\nwant\n%s", ps, full, ahead, tell(two))
			}
			agree[agreed(one)]++
			if got := settle.Agreed(one); got != agreed(one) || tell(one) != ahead {
				t.Errorf("Agreed = %t, or it makes a step", got)
			}
		}
	}
	if agree[true] < 20 || agree[false] < 20 {
		t.Errorf("they agree: %v", agree)
	}
}

func TestTalkAndAgreed(t *testing.T) { // P26.7, P26.8
	checkTalk[api.Facts, engine.Tomb](t)
	checkTalk[api.Swot, engine.Swot](t)
}

func TestTalkLeavesAcknowledgements(t *testing.T) { // P26.7
	c := newTomb(api.Header{Reps: 3, Carts: 2, Lines: 10, Count: 100, Log: 8, Tokens: 4})
	c.Step(api.Op{Kind: api.OpSet, Rep: 0, Cart: 1, Sku: "TEA-1", Qty: 5})
	c.Step(api.Op{Kind: api.OpSet, Rep: 2, Cart: 1, Sku: "TEA-1", Qty: 2})
	ps := []api.Pair{{From: 0, To: 1}, {From: 1, To: 1}, {From: 3, To: 0}, {From: 0, To: 3}, {From: -1, To: 0}, {From: 1, To: 2}}
	if n := settle.Talk(c, ps, true); n != 2 || c.Made() != 4 || !slices.Equal(c.Waiting(), []int{2, 4}) {
		t.Errorf("Talk = %d, Made %d, Waiting %v", n, c.Made(), c.Waiting())
	}
	if got := right(c.View(2, 1)); !slices.Equal(got, []api.Line{{Sku: "TEA-1", Qty: 7, Parts: 2}}) {
		t.Errorf("replica 2 reads %v", got)
	}
	if settle.Talk(c, nil, false) != 0 || settle.Talk(c, ps[1:5], false) != 0 || c.Made() != 4 {
		t.Errorf("talks along no good pair make messages: %d", c.Made())
	}
}

// one: a stack of three replicas and two carts behind these steps; each of them is a Set.
func one(sets ...api.Op) *swotCart {
	c := newSwot(api.Header{Reps: 3, Carts: 2, Lines: 9, Count: 9, Log: 9})
	for _, o := range sets {
		o.Kind = api.OpSet
		c.Step(o)
	}
	return c
}

func TestAgreedLooksAtEveryField(t *testing.T) { // P26.8
	a := func(rep, at int, sku string, qty int) api.Op { return api.Op{Rep: rep, Cart: at, Sku: sku, Qty: qty} }
	for _, x := range []struct {
		c    *swotCart
		want bool
		why  string
	}{
		{one(), true, "nothing is there"},
		{one(a(0, 1, "A", 1)), false, "the others lack a line"},
		{one(a(2, 1, "A", 1)), false, "the first lacks a line"},
		{one(a(0, 0, "A", 1), a(1, 0, "A", 1), a(2, 0, "A", 1)), true, "unlike dots, the same lines"},
		{one(a(0, 0, "A", 1), a(1, 0, "A", 1), a(2, 0, "A", 2)), false, "another quantity"},
		{one(a(0, 0, "A", 1), a(1, 0, "B", 1), a(2, 0, "A", 1)), false, "another SKU"},
		{one(a(0, 0, "A", 1), a(1, 0, "A", 1), a(2, 1, "A", 1)), false, "another cart"},
		{one(a(0, 0, "A", 1), a(1, 0, "A", 1), a(2, 0, "A", 1), a(2, 0, "B", 1)), false, "a line more"},
	} {
		if got := settle.Agreed(x.c); got != x.want {
			t.Errorf("%s: Agreed = %t", x.why, got)
		}
	}
	// The same SKU and quantity of two entries at one replica, of one at the others.
	parts := one(a(0, 0, "A", 1), a(1, 0, "A", 1))
	settle.Talk(parts, []api.Pair{{From: 0, To: 1}, {From: 1, To: 2}, {From: 1, To: 0}}, false)
	if !settle.Agreed(parts) {
		t.Error("the three have heard of both entries and don't agree")
	}
	parts.Step(api.Op{Kind: api.OpSet, Rep: 2, Sku: "A", Qty: 2})
	if settle.Agreed(parts) {
		t.Error("two of one entry and two of two entries are held for the same")
	}
	if c := newTomb(api.Header{}); !settle.Agreed(c) || c.Step(api.Op{Kind: api.OpSet, Sku: "A", Qty: 1}).Status != api.OK || !settle.Agreed(c) {
		t.Error("one replica doesn't agree with itself")
	}
}

// knowAll: does each replica's state hold every event that any replica knew?
func knowAll[S any, E engine.Engine[S]](c *cart.Cart[S, E], slow *known.Stack, state func(s S) api.Swot) error {
	for at := range c.Head().Carts {
		want := sample.State(slow.All(at))
		for rep := range c.Head().Reps {
			if got := state(right(c.State(rep, at))); !sample.SameSwot(got, want) {
				return fmt.Errorf("replica %d, cart %d: %v, want %v", rep, at, got, want)
			}
			if got, want := right(c.View(rep, at)), known.Told(want.Live); !slices.Equal(got, want) {
				return fmt.Errorf("replica %d, cart %d reads %v, want %v", rep, at, got, want)
			}
		}
	}
	return nil
}

func same(s api.Swot) api.Swot { return s }

func checkSettle[S any, E engine.Engine[S]](t *testing.T, state func(s S) api.Swot) {
	t.Helper()
	dice := newDice()
	for i := range 150 {
		h := anyHead(dice)
		if i%10 == 0 {
			h.Reps, h.Carts = 1+i/10, 1
		}
		s := known.Thrown(dice.IntN, h, dice.IntN(120))
		c, twin := played[S, E](s), played[S, E](s)
		rounds := settle.Rounds(h.Reps)
		if got := settle.Settle(c); got != len(rounds) {
			t.Errorf("Settle = %d, want %d", got, len(rounds))
		}
		for _, round := range rounds {
			talk(twin, round, false)
		}
		if tell(c) != tell(twin) {
			t.Fatalf("behind Settle\n%s\nwant\n%s", tell(c), tell(twin))
		}
		if err := knowAll(c, known.Played(s), state); err != nil || !settle.Agreed(c) {
			t.Errorf("behind Settle %v", err)
		}
	}
}

func TestSettle(t *testing.T) { // P26.9, P5
	checkSettle[api.Facts, engine.Tomb](t, sample.State)
	checkSettle[api.Swot, engine.Swot](t, same)
}

// amid: the talks along the pairs, each sync delivered, among whatever else that is no act.
func amid[S any, E engine.Engine[S]](c *cart.Cart[S, E], dice *rand.Rand, ps []api.Pair) {
	mine := map[int]bool{}
	var waiting []int
	noise := func() {
		o := sample.ThrownOp(dice.IntN, c.Head(), c.Made(), 0)
		isAct := api.OpSet <= o.Kind && o.Kind <= api.OpClearTo
		isOnMine := api.OpDeliver <= o.Kind && o.Kind <= api.OpTrim && mine[o.Num]
		if !isAct && !isOnMine {
			c.Step(o)
		}
	}
	for len(ps) > 0 || len(waiting) > 0 {
		noise()
		if len(ps) > 0 && (len(waiting) == 0 || dice.IntN(2) == 0) {
			n := c.Step(api.Op{Kind: api.OpSync + dice.IntN(2), Rep: ps[0].From, To: ps[0].To}).Msg
			ps, waiting, mine[n] = ps[1:], append(waiting, n), true
			continue
		}
		i := dice.IntN(len(waiting))
		c.Step(api.Op{Kind: api.OpDeliver, Num: waiting[i]})
		waiting = slices.Delete(waiting, i, i+1)
	}
}

func checkPairs[S any, E engine.Engine[S]](t *testing.T, state func(s S) api.Swot) {
	t.Helper()
	dice := newDice()
	for range 80 {
		s := known.Thrown(dice.IntN, sample.RoomyHead(dice.IntN), dice.IntN(120))
		c := played[S, E](s)
		amid(c, dice, shuffled(dice, settle.Pairs(s.Head.Reps)))
		if err := knowAll(c, known.Played(s), state); err != nil || !settle.Agreed(c) {
			t.Errorf("behind a sync of each pair %v", err)
		}
	}
}

func TestASyncOfEachPair(t *testing.T) { // P4, P26.5
	checkPairs[api.Facts, engine.Tomb](t, sample.State)
	checkPairs[api.Swot, engine.Swot](t, same)
}

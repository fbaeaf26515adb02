package cart_test

import (
	"slices"
	"testing"

	"barrow/api"
	"barrow/cart"
	"barrow/engine"
	"barrow/known"
	"barrow/memcheck"
	"barrow/sample"
)

type region = memcheck.Region

// answered: the memory of all lists that the stack's calls answer, but for Step and Run.
func answered[S any, E engine.Engine[S]](c *cart.Cart[S, E], of func(s S) []region) []region {
	all := append(memcheck.LineTables(c.All()), memcheck.Numbers(c.Waiting()))
	for rep := range c.Head().Reps + 1 {
		touched, _ := c.Touched(rep)
		all = append(all, memcheck.Numbers(touched))
		for cart := range c.Head().Carts + 1 {
			told, _ := c.View(rep, cart)
			live, _ := c.Live(rep, cart)
			seen, _ := c.Past(rep, cart)
			state, _ := c.State(rep, cart)
			all = slices.Concat(all, []region{memcheck.Lines(told), memcheck.Entries(live)}, memcheck.Past(seen), of(state))
		}
	}
	for n := range c.Made() + 2 {
		l, _ := c.Look(n)
		all = append(all, memcheck.Bytes(l.Bytes))
	}
	return all
}

// checkAnswers: what is written into answers, spare room too, is lost on the stack and on other answers.
func checkAnswers[S any, E engine.Engine[S]](t *testing.T, of func(s S) []region) {
	t.Helper()
	dice := newDice()
	for range 20 {
		s := known.Thrown(dice.IntN, sample.TightHead(dice.IntN), 100)
		c, twin := cart.New[S, E](s.Head), cart.New[S, E](s.Head)
		var told []region
		for i, o := range s.Ops {
			a, want := c.Step(o), twin.Step(o)
			if !sample.SameAnswer(a, want) {
				t.Fatalf("%+v: %v behind writes into answers, want %v", o, a, want)
			}
			told = append(told, memcheck.Lines(a.Lines))
			if i%20 == 0 && memcheck.Shared(slices.Concat(told, answered(c, of), answered(c, of))) {
				t.Errorf("a write into one answer changes another")
			}
			if i%20 == 0 {
				told = nil
			}
		}
		if got, want := tellAll(c), tellAll(twin); got != want {
			t.Errorf("behind writes into answers\n%s\nwant\n%s", got, want)
		}
	}
}

func TestAnswersAreNewMemory(t *testing.T) { // R7
	checkAnswers[api.Facts, engine.Tomb](t, memcheck.Facts)
	checkAnswers[api.Swot, engine.Swot](t, memcheck.Swot)
}

// checkStay: later steps change nothing of what was answered.
func checkStay[S any, E engine.Engine[S]](t *testing.T, of func(s S) []region) {
	t.Helper()
	dice := newDice()
	s := known.Thrown(dice.IntN, api.Header{Reps: 3, Carts: 2, Lines: 5, Count: 100, Log: 2, Tokens: 3}, 200)
	c := cart.New[S, E](s.Head)
	var all []region
	for i, o := range s.Ops {
		a := c.Step(o)
		all = append(all, memcheck.Lines(a.Lines))
		if i%10 == 0 {
			all = append(all, answered(c, of)...)
		}
	}
	if memcheck.Changed(all, nil) {
		t.Errorf("a later step changes what was answered")
	}
}

func TestAnswersStay(t *testing.T) { // R7
	checkStay[api.Facts, engine.Tomb](t, memcheck.Facts)
	checkStay[api.Swot, engine.Swot](t, memcheck.Swot)
}

// checkTokens: what is written into what a read answered is lost on its token.
func checkTokens[S any, E engine.Engine[S]](t *testing.T, of func(s S) []region) {
	t.Helper()
	c := cart.New[S, E](api.Header{Reps: 2, Carts: 1, Lines: 9, Count: 9, Log: 9, Tokens: 2})
	for _, o := range []api.Op{set(0, "A", 1), set(0, "B", 2), {Kind: api.OpPush, Rep: 0, To: 1}, deliver(1)} {
		c.Step(o)
	}
	memcheck.Changed(nil, []region{memcheck.Lines(c.Step(read(0)).Lines), memcheck.Lines(c.Step(read(1)).Lines)})
	memcheck.Changed(nil, answered(c, of))
	for range 2 {
		// A token may be used any number of times, with writes between into what came of it.
		if a := c.Step(clearTo(1, 1)); a.Status != api.OK {
			t.Errorf("ClearTo: %v", a)
		}
		memcheck.Changed(nil, answered(c, of))
	}
	c.Step(sync(0, 1))
	c.Step(deliver(2))
	if got := right(c.View(1, 0)); len(got) != 0 {
		t.Errorf("behind a clear of all that was read there is %v", got)
	}
	if got := right(c.View(0, 0)); !slices.Equal(got, []api.Line{line("A", 1, 1), line("B", 2, 1)}) {
		t.Errorf("at the other replica there is %v", got)
	}
}

func TestTokensAreTheStacksOwn(t *testing.T) { // R7
	checkTokens[api.Facts, engine.Tomb](t, memcheck.Facts)
	checkTokens[api.Swot, engine.Swot](t, memcheck.Swot)
}

// checkRun: Run changes nothing of the script, and its answers share no memory.
func checkRun[S any, E engine.Engine[S]](t *testing.T) {
	t.Helper()
	dice := newDice()
	for range 40 {
		s := known.Thrown(dice.IntN, sample.TightHead(dice.IntN), 80)
		mine := sample.RoomyScript(s)
		before := memcheck.Ops(mine.Ops)
		one, two := cart.Run[S, E](mine), cart.Run[S, E](mine)
		if memcheck.Shared(slices.Concat(memcheck.Answers(one), memcheck.Answers(two), []region{before})) {
			t.Errorf("a write into an answer of Run changes another, or the script")
		}
		three := memcheck.Answers(cart.Run[S, E](s))
		if memcheck.Changed(three, []region{before}) {
			t.Errorf("Run keeps the script")
		}
	}
}

func TestRunKeepsNothing(t *testing.T) { // R7
	checkRun[api.Facts, engine.Tomb](t)
	checkRun[api.Swot, engine.Swot](t)
}

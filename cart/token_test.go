package cart_test

import (
	"fmt"
	"math"
	"slices"
	"testing"

	"barrow/api"
	"barrow/known"
	"barrow/lines"
	"barrow/sample"
)

// stranger: the script's head with one replica more, to which nobody talks.
func stranger(h api.Header) (api.Header, int) {
	h.Reps++
	return h, h.Reps - 1
}

func clearTo(rep, token int) api.Op { return api.Op{Kind: api.OpClearTo, Rep: rep, Num: token} }

func removeTo(rep int, sku string, token int) api.Op {
	return api.Op{Kind: api.OpRemoveTo, Rep: rep, Sku: sku, Num: token}
}

func TestWhatIsReadIsThere(t *testing.T) { // P25.3
	dice := newDice()
	reads := 0
	for range 40 {
		s := known.Thrown(dice.IntN, sample.TightHead(dice.IntN), 100)
		for name, c := range both(s.Head) {
			for _, o := range s.Ops {
				a := c.Step(o)
				if o.Kind != api.OpRead || a.Status != api.OK {
					continue
				}
				reads++
				live := right(c.Live(o.Rep, o.Cart))
				if want := right(lines.Lines(live)); !slices.Equal(a.Lines, want) || !slices.Equal(a.Lines, known.Told(live)) || !slices.Equal(a.Lines, right(c.View(o.Rep, o.Cart))) {
					t.Errorf("%s: %v is read of %v, want %v", name, a.Lines, live, want)
				}
			}
		}
	}
	if reads < 300 {
		t.Errorf("only %d reads", reads)
	}
}

func TestTheTokensPast(t *testing.T) { // P25.3
	dice := newDice()
	full, clouds := 0, 0
	for i := range 100 {
		h := sample.RoomyHead(dice.IntN)
		s := known.Thrown(dice.IntN, h, 100)
		more, alone := stranger(h)
		c := newTomb(more)
		for _, o := range s.Ops {
			if o.Rep >= h.Reps || o.To >= h.Reps {
				continue
			}
			if o.Kind == api.OpSync && i%2 == 0 {
				// More pushes, so that there are holes in what is heard.
				o.Kind, o.Num = api.OpPush, 0
			}
			a := c.Step(o)
			if o.Kind != api.OpRead || a.Status != api.OK {
				continue
			}
			// What a token holds is to be seen in the record that its use leaves with one who knows nothing.
			seen := right(c.Past(o.Rep, o.Cart))
			before := right(c.State(alone, o.Cart)).Recs
			if b := c.Step(clearTo(alone, a.Token)); b.Status != api.OK {
				t.Fatalf("ClearTo with the token %d: %v", a.Token, b)
			}
			recs := right(c.State(alone, o.Cart)).Recs
			found := slices.ContainsFunc(recs, func(r api.Record) bool { return r.Sku == "" && sample.SamePast(r.Past, seen) })
			if empty := len(seen.Vec) == 0 && len(seen.Cloud) == 0; found == empty || empty && len(recs) != len(before) {
				t.Errorf("the token of a read over %v leaves the records %v", seen, recs)
			}
			full += min(len(seen.Vec), 1)
			clouds += min(len(seen.Cloud), 1)
		}
	}
	if full < 100 || clouds < 10 {
		t.Errorf("only %d tokens with a vector, %d with a cloud", full, clouds)
	}
}

// without: the lines but for that SKU's.
func without(told []api.Line, sku string) []api.Line {
	return sample.Those(told, func(l api.Line) bool { return l.Sku != sku })
}

func TestARemoveByTokenTakesAwayWhatWasRead(t *testing.T) { // P25.4
	dice := newDice()
	hits := 0
	for range 60 {
		h := sample.RoomyHead(dice.IntN)
		s := known.Thrown(dice.IntN, h, 80)
		for name, c := range both(h) {
			for _, o := range s.Ops {
				c.Step(o)
			}
			for rep := range h.Reps {
				for at := range h.Carts {
					a := c.Step(api.Op{Kind: api.OpRead, Rep: rep, Cart: at})
					for _, l := range append(a.Lines, api.Line{Sku: "NONE"}) {
						a = c.Step(api.Op{Kind: api.OpRead, Rep: rep, Cart: at})
						if b := c.Step(removeTo(rep, l.Sku, a.Token)); b.Status != api.OK {
							t.Errorf("%s: RemoveTo: %v", name, b)
						}
						if got, want := right(c.View(rep, at)), without(a.Lines, l.Sku); !slices.Equal(got, want) {
							t.Errorf("%s: without %s of %v: %v", name, l.Sku, a.Lines, got)
						}
						hits++
					}
				}
			}
		}
	}
	if hits < 500 {
		t.Errorf("only %d removes", hits)
	}
}

// checkBars: at one who has heard nothing but of the remove, what comes later is barred just where the SKU is the remove's and the dot is in the token's past.
func checkBars(t *testing.T, s api.Script, rest []api.Op, sku string, over bool) int {
	t.Helper()
	more, alone := stranger(s.Head)
	barred := 0
	for name, c := range both(more) {
		for _, o := range s.Ops {
			c.Step(o)
		}
		source := s.Ops[0].Rep
		token := c.Step(read(source)).Token
		seen := right(c.Past(source, 0))
		o := removeTo(alone, sku, token)
		if over {
			o = clearTo(alone, token)
		}
		if a := c.Step(o); a.Status != api.OK {
			t.Fatalf("%s: %+v: %v", name, o, a)
		}
		for _, o := range rest {
			c.Step(o)
		}
		sent := c.Step(api.Op{Kind: api.OpFull, Rep: source, To: alone})
		if a := c.Step(deliver(sent.Msg)); a.Status != api.OK {
			t.Fatalf("%s: the delivery: %v", name, a)
		}
		live := right(c.Live(source, 0))
		want := sample.Those(live, func(e api.Entry) bool { return !(over || e.Sku == sku) || !sample.Has(seen, e.Dot) })
		if got := right(c.Live(alone, 0)); !slices.Equal(got, want) {
			t.Errorf("%s: behind a remove of %q over %v, of %v come %v, want %v", name, sku, seen, live, got, want)
		}
		barred += len(live) - len(want)
	}
	return barred
}

func TestARemoveByTokenBarsWhatWasReadAlone(t *testing.T) { // P25.4, P11
	dice := newDice()
	barred := 0
	for i := range 120 {
		h := sample.RoomyHead(dice.IntN)
		s := known.Thrown(dice.IntN, h, 40)
		s.Ops = sample.Those(s.Ops, func(o api.Op) bool { return o.Rep < h.Reps && o.To < h.Reps && o.Rep >= 0 })
		rest := known.Thrown(dice.IntN, h, 10).Ops
		rest = sample.Those(rest, func(o api.Op) bool { return o.Rep < h.Reps && o.To < h.Reps })
		barred += checkBars(t, s, rest, []string{"A", "B", "A-1"}[i%3], i%4 == 0)
	}
	if barred < 30 {
		t.Errorf("only %d entries are barred", barred)
	}
}

func TestTokensAreNumberedByReads(t *testing.T) { // P25.1, P25.2
	for name, c := range both(api.Header{Reps: 3, Carts: 2, Lines: 9, Count: 9, Tokens: 3}) {
		want := 0
		for i := range 12 {
			if a := c.Step(api.Op{Kind: api.OpRead, Rep: i % 4, Cart: i % 3}); a.Status == api.OK {
				want++
				if a.Token != want {
					t.Errorf("%s: token %d, want %d", name, a.Token, want)
				}
			}
			c.View(0, 0)
			c.Step(api.Op{Kind: api.OpRestart, Rep: i % 3})
		}
		for _, n := range []int{want + 1, want - 3, want - 4, 1, 0, -1, math.MinInt, math.MaxInt} {
			for _, o := range []api.Op{clearTo(0, n), removeTo(0, "A", n)} {
				if a := c.Step(o); a.Status != api.ErrToken {
					t.Errorf("%s: token %d of %d: %v", name, n, want, a)
				}
			}
		}
		for n := want - 2; n <= want; n++ {
			for range 3 {
				if a := c.Step(clearTo(n%3, n)); a.Status != api.OK {
					t.Errorf("%s: token %d of %d: %v", name, n, want, a)
				}
			}
		}
	}
}

// checkHeld: of reads of a store that holds so many tokens the last ones may be used, the others are ErrToken.
func checkHeld(t *testing.T, keep, reads int) {
	t.Helper()
	for name, c := range both(api.Header{Reps: 1, Carts: 1, Lines: 1, Count: 1, Tokens: keep}) {
		for range reads {
			c.Step(read(0))
		}
		for n := -1; n <= reads+2; n++ {
			want := api.ErrToken
			if n >= 1 && n <= reads && n > reads-keep {
				want = api.OK
			}
			if a := c.Step(clearTo(0, n)); a.Status != want {
				t.Errorf("%s: token %d of %d with room for %d: %v, want %d", name, n, reads, keep, a, want)
			}
		}
	}
}

func TestHowManyTokensAreHeld(t *testing.T) { // P25.1
	for _, keep := range []int{0, 1, 2, 5, 999, 1000} {
		for _, reads := range []int{0, 1, 2, 3, 11, 999, 1000, 1001, 1500} {
			checkHeld(t, keep, reads)
		}
	}
}

func TestATokenIsOfItsCart(t *testing.T) { // P25.1
	x := newTrio(t, api.Header{Reps: 2, Carts: 3, Lines: 9, Count: 99, Log: 9, Tokens: 9})
	for at := range 3 {
		x.play(api.Op{Kind: api.OpSet, Cart: at, Sku: "A", Qty: 1 + at})
	}
	for at := range 3 {
		x.play(api.Op{Kind: api.OpRead, Cart: at})
	}
	// The op's own cart has no meaning.
	x.play(api.Op{Kind: api.OpRemoveTo, Cart: 2, Sku: "A", Num: 2})
	x.play(api.Op{Kind: api.OpClearTo, Cart: 99, Num: 1})
	x.check()
	if got := fmt.Sprint(x.swots.All()[0]); got != "[[] [] [{A 3 1}]]" {
		t.Errorf("left is %s", got)
	}
}

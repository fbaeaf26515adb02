package node_test

import (
	"math"
	"slices"
	"testing"

	"barrow/api"
	"barrow/engine"
	"barrow/node"
	"barrow/sample"
)

func TestClamp(t *testing.T) { // P20.1
	edges := []int{math.MinInt, -1, 0, 1, 2, 15, 16, 17, 63, 64, 65, 999, 1000, 1001, 999999999, 1000000000, 1000000001, math.MaxInt}
	for _, a := range edges {
		for _, b := range edges {
			for _, h := range []api.Header{{Reps: a, Carts: b, Lines: a, Count: b, Log: a, Tokens: b}, {Reps: 2, Carts: a, Lines: b, Count: 3, Log: b, Tokens: a}} {
				got := node.Clamp(h)
				if got != clamped(h) || node.Clamp(got) != got {
					t.Errorf("Clamp(%v) = %v, want %v", h, got, clamped(h))
				}
			}
		}
	}
	h := api.Header{Reps: 3, Carts: 4, Lines: 5, Count: 6, Log: 7, Tokens: 8}
	if got := node.Clamp(h); got != h {
		t.Errorf("Clamp(%v) = %v", h, got)
	}
}

// heads: heads at their bounds, and beyond them.
func heads() []api.Header {
	return []api.Header{
		{}, {Reps: 1, Carts: 1, Lines: 1, Count: 1}, {Reps: 2, Carts: 2, Lines: 10, Count: 100, Log: 2}, {Reps: 16, Carts: 64, Lines: 1000, Count: 1000000000, Log: 64, Tokens: 1000},
		{Reps: -1, Carts: -1, Lines: -1, Count: -1, Log: -1, Tokens: -1}, {Reps: 17, Carts: 65, Lines: 1001, Count: 1000000001, Log: 65, Tokens: 1001}, {Reps: math.MaxInt, Carts: math.MinInt}, {Reps: 3, Carts: 5, Lines: 2, Count: 9},
	}
}

func checkNew[S any, E engine.Engine[S]](t *testing.T, k kind[S]) {
	t.Helper()
	for _, h := range heads() {
		for _, self := range []int{math.MinInt, -1, 0, 1, 2, 3, 15, 16, 17, math.MaxInt} {
			n, err := node.New[S, E](h, self)
			if self < 0 || self > clamped(h).Reps-1 {
				if n != nil || err != api.ErrRep {
					t.Errorf("%s: New(%v, %d) = %v, %d", k.name, h, self, n, err)
				}
				continue
			}
			if n == nil || err != api.OK {
				t.Fatalf("%s: New(%v, %d) = %v, %d", k.name, h, self, n, err)
			}
			s := newSlow(ofEngine[S, E](), h, node.Durable[S]{Self: self})
			if err := isTold(k, n, s); err != nil {
				t.Error(err)
			}
			if err := isSent(k, n, s); err != nil {
				t.Error(err)
			}
		}
	}
}

func TestNew(t *testing.T) { // P20.1
	checkNew[api.Facts, engine.Tomb](t, tombs())
	checkNew[api.Swot, engine.Swot](t, swots())
}

// cartLists: carts that Load takes in a store of five, and that it doesn't.
func cartLists() (good, bad [][]int) {
	good = [][]int{nil, {}, {0}, {4}, {0, 1}, {1, 3}, {0, 1, 2, 3, 4}}
	bad = [][]int{{5}, {-1}, {0, 0}, {1, 0}, {0, 5}, {0, 2, 1}, {0, 2, 2, 3}, {-1, 0}, {3, 4, 5}, {math.MinInt}, {math.MaxInt}, {63}, {64}, {4, 3, 5}}
	return good, bad
}

func heldBy[S any](carts []int, states []S) []node.Held[S] {
	var list []node.Held[S]
	for i, cart := range carts {
		list = append(list, node.Held[S]{Cart: cart, State: states[i%len(states)]})
	}
	return list
}

// loadError is the chapter's words on what Load refuses.
func loadError[S any, E engine.Engine[S]](h api.Header, d node.Durable[S]) api.Errno {
	var e E
	h = clamped(h)
	if d.Self < 0 || d.Self > h.Reps-1 {
		return api.ErrRep
	}
	if d.Next < 0 || d.Next > 1<<62 {
		return api.ErrArg
	}
	for i, c := range d.Carts {
		if c.Cart < 0 || c.Cart > h.Carts-1 || i > 0 && c.Cart <= d.Carts[i-1].Cart {
			return api.ErrCart
		}
	}
	for _, c := range d.Carts {
		if e.Check(c.State) != api.OK {
			return api.ErrForm
		}
	}
	return api.OK
}

// checkLoad: what is taken is as the slow replica of it, and goes on as that one does.
func checkLoad[S any, E engine.Engine[S]](t *testing.T, k kind[S], h api.Header, d node.Durable[S]) api.Errno {
	t.Helper()
	want := loadError[S, E](h, d)
	n, err := node.Load[S, E](h, d)
	if err != want || (n == nil) != (err != api.OK) {
		t.Fatalf("%s: Load(%v, %v) = %v, %d, want %d", k.name, h, d, n, err, want)
	}
	if err != api.OK {
		return err
	}
	s := newSlow(ofEngine[S, E](), h, d)
	for range 2 {
		if err := isTold(k, n, s); err != nil {
			t.Error(err)
		}
		if err := isSent(k, n, s); err != nil {
			t.Error(err)
		}
		a := api.Act{Kind: api.ActSet, Sku: "A", Qty: 5}
		did, err := n.Act(0, a)
		if want, wantErr := s.Act(0, a); did != want || err != wantErr {
			t.Errorf("%s: behind Load(%v): Act = %t, %d, want %t, %d", k.name, d, did, err, want, wantErr)
		}
	}
	return err
}

func checkLoads[S any, E engine.Engine[S]](t *testing.T, k kind[S]) {
	t.Helper()
	dice := newDice()
	good, bad := cartLists()
	fit, wrong := k.mixed(dice.IntN, 40), k.wrong()
	h := api.Header{Reps: 3, Carts: 5, Lines: 10, Count: 100, Log: 2}
	count := map[api.Errno]int{}
	for _, self := range []int{0, 2, -1, 3, math.MaxInt} {
		for _, next := range []int{0, 7, api.MaxSeq - 1, api.MaxSeq, -1, math.MinInt, api.MaxSeq + 1, math.MaxInt} {
			for _, carts := range slices.Concat(good, bad) {
				some := []S{fit[dice.IntN(len(fit))], fit[dice.IntN(len(fit))]}
				count[checkLoad[S, E](t, k, h, node.Durable[S]{Self: self, Next: next, Carts: heldBy(carts, some)})]++
				some[dice.IntN(2)] = wrong[dice.IntN(len(wrong))]
				count[checkLoad[S, E](t, k, h, node.Durable[S]{Self: self, Next: next, Carts: heldBy(carts, some)})]++
			}
		}
	}
	for _, err := range []api.Errno{api.OK, api.ErrRep, api.ErrArg, api.ErrCart, api.ErrForm} {
		if count[err] < 20 {
			t.Errorf("%s: %d loads answer %d", k.name, count[err], err)
		}
	}
}

func TestLoad(t *testing.T) { // P20.1, P20.5
	checkLoads[api.Facts, engine.Tomb](t, tombs())
	checkLoads[api.Swot, engine.Swot](t, swots())
}

func checkEveryState[S any, E engine.Engine[S]](t *testing.T, k kind[S], h api.Header) {
	t.Helper()
	for _, s := range k.wrong() {
		for _, carts := range [][]node.Held[S]{{{Cart: 0, State: s}}, {{Cart: 1}, {Cart: 3, State: s}}} {
			if n, err := node.Load[S, E](h, node.Durable[S]{Carts: carts}); n != nil || err != api.ErrForm {
				t.Errorf("%s: Load of the state %v = %v, %d", k.name, s, n, err)
			}
		}
	}
	for _, s := range k.mixed(newDice().IntN, 30) {
		n, err := node.Load[S, E](h, node.Durable[S]{Carts: []node.Held[S]{{Cart: 3, State: s}}})
		if err != api.OK || !k.same(right(n.State(3)), s) || !slices.Equal(n.Touched(), []int{3}) {
			t.Errorf("%s: Load of the state %v: %d", k.name, s, err)
		}
	}
}

func TestLoadOfEveryState(t *testing.T) { // P20.1, P20.5
	h := api.Header{Reps: 2, Carts: 4, Lines: 10, Count: 100, Log: 2}
	checkEveryState[api.Facts, engine.Tomb](t, tombs(), h)
	checkEveryState[api.Swot, engine.Swot](t, swots(), h)
}

// An empty state touches its cart, as any other does.
func TestLoadOfAnEmptyState(t *testing.T) { // P20.1
	d := node.Durable[api.Swot]{Next: 3, Carts: []node.Held[api.Swot]{{Cart: 0}, {Cart: 2, State: api.Swot{Live: []api.Entry{}}}}}
	n := right(node.Load[api.Swot, engine.Swot](api.Header{Carts: 3, Reps: 2}, d))
	if !slices.Equal(n.Touched(), []int{0, 2}) || n.First() != 3 || n.Next() != 3 || len(n.Durable().Carts) != 2 {
		t.Errorf("touched %v, First %d, Next %d", n.Touched(), n.First(), n.Next())
	}
}

// Lines that came together from several replicas may be above their limits; an act isn't refused but by its own.
func TestLimitsOfTheHead(t *testing.T) { // P20.1
	f := api.Facts{Adds: []api.Entry{sample.Entry(1, 1, "A", api.MaxQty), sample.Entry(1, 2, "B", 1), sample.Entry(2, 1, "A", api.MaxQty)}}
	h := api.Header{Reps: 3, Carts: 1, Lines: 1, Count: 2, Log: 2}
	n := right(node.Load[api.Facts, engine.Tomb](h, node.Durable[api.Facts]{Carts: []node.Held[api.Facts]{{State: f}}}))
	for _, c := range []struct {
		kind int
		sku  string
		qty  int
		did  bool
		err  api.Errno
	}{
		{api.ActSet, "C", 1, false, api.ErrFull}, {api.ActAdd, "A", 1, false, api.ErrOver}, {api.ActAdd, "B", 1, true, api.OK}, {api.ActSet, "A", api.MaxQty, true, api.OK}, {api.ActSet, "A", 1, false, api.ErrCount}, {api.ActAdd, "B", 1, false, api.ErrCount},
		{api.ActRemove, "C", 1, false, api.ErrAbsent}, {api.ActRemove, "B", 1, true, api.OK}, {api.ActClear, "", 0, true, api.OK}, {api.ActClear, "", 0, false, api.OK}, {api.ActSet, "C", 1, false, api.ErrCount},
	} {
		if did, err := n.Act(0, api.Act{Kind: c.kind, Sku: c.sku, Qty: c.qty}); did != c.did || err != c.err {
			t.Errorf("Act(%v) = %t, %d", c, did, err)
		}
	}
	if n.Next() != 4 || n.First() != 2 {
		t.Errorf("First %d, Next %d", n.First(), n.Next())
	}
}

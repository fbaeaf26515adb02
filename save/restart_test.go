package save_test

import (
	"fmt"
	"math"
	"math/rand/v2"
	"testing"

	"barrow/api"
	"barrow/engine"
	"barrow/node"
	"barrow/sample"
	"barrow/save"
)

// crowd: the replicas of a store, behind acts and mails of all kinds.
func crowd[S any, E engine.Engine[S]](dice *rand.Rand, h api.Header, steps int) []*node.Node[S, E] {
	var reps []*node.Node[S, E]
	for self := range node.Clamp(h).Reps {
		reps = append(reps, right(node.New[S, E](h, self)))
	}
	for range steps {
		from, to := dice.IntN(len(reps)), dice.IntN(len(reps))
		var b []byte
		switch dice.IntN(8) {
		case 0:
			b, _ = reps[from].Sync(to, dice.IntN(3) == 0)
		case 1:
			b, _ = reps[from].Ask(to)
		case 2:
			b, _ = reps[from].Push(to, dice.IntN(2))
		default:
			reps[from].Act(dice.IntN(node.Clamp(h).Carts), sample.ThrownAct(dice.IntN))
			continue
		}
		for len(b) > 0 && dice.IntN(5) > 0 {
			b, to, _ = reps[to].Deliver(b)
		}
	}
	return reps
}

// tells: all that the replica tells of itself, and would send, as a text.
func tells[S any, E engine.Engine[S]](n *node.Node[S, E]) string {
	text := fmt.Sprint(n.Durable(), n.Touched(), n.First(), n.Next())
	call := func(answer any, err api.Errno) { text += fmt.Sprint(" ", answer, err) }
	for i := range api.MaxReps {
		number, err := n.Acked(i)
		call(number, err)
		for _, full := range []bool{false, true} {
			b, err := n.Sync(i, full)
			call(b, err)
		}
		b, err := n.Ask(i)
		call(b, err)
		for back := range 6 {
			b, err = n.Push(i, back)
			call(b, err)
		}
	}
	for cart := range 6 {
		told, err := n.Lines(cart)
		call(told, err)
		live, err := n.Live(cart)
		call(live, err)
		seen, err := n.Past(cart)
		call(seen, err)
		state, err := n.State(cart)
		call(state, err)
	}
	return text
}

// checkRestart: what comes back is the replica of what was kept; the old one is left as it is, and the two go on apart.
func (k kind[S, E]) checkRestart(t *testing.T, h api.Header, n *node.Node[S, E]) {
	t.Helper()
	ahead, d := tells(n), n.Durable()
	m, err := save.Restart[S, E](h, n)
	if err != api.OK || m == nil || m == n {
		t.Fatalf("%s: Restart(%v) of %v = %v, %d", k.name, h, d, m, err)
	}
	if tells(n) != ahead {
		t.Errorf("%s: Restart of %v changes it", k.name, d)
	}
	if !k.sameDurable(m.Durable(), d) || m.First() != n.Next() || m.Next() != n.Next() {
		t.Errorf("%s: Restart of %v: %v, First %d, Next %d", k.name, d, m.Durable(), m.First(), m.Next())
	}
	if want := tells(right(node.Load[S, E](h, d))); tells(m) != want {
		t.Errorf("%s: Restart of %v tells %s, want %s", k.name, d, tells(m), want)
	}
	add := api.Act{Kind: api.ActAdd, Sku: "A", Qty: 1}
	m.Act(0, add)
	if tells(n) != ahead {
		t.Errorf("%s: an act at what came back of %v changes the old one", k.name, d)
	}
	old := right(node.Load[S, E](h, d))
	back := right(save.Restart[S, E](h, old))
	old.Act(0, add)
	if !k.sameDurable(back.Durable(), d) {
		t.Errorf("%s: an act at the old one changes what came back of %v", k.name, d)
	}
}

func (k kind[S, E]) checkRestarts(t *testing.T) {
	t.Helper()
	dice := newDice()
	for range 25 {
		h := api.Header{Reps: 1 + dice.IntN(4), Carts: 1 + dice.IntN(5), Lines: 5, Count: 100, Log: dice.IntN(5)}
		for _, n := range crowd[S, E](dice, h, 60) {
			k.checkRestart(t, h, n)
		}
	}
	for _, h := range []api.Header{{}, {Reps: 99, Carts: 99, Lines: 9999, Count: 1 << 40, Log: 99}, {Reps: -1, Carts: math.MinInt, Lines: -1, Count: -1, Log: -1}} {
		for _, n := range crowd[S, E](dice, h, 40) {
			k.checkRestart(t, h, n)
		}
	}
	// Replicas of what was kept, with the states of the samples, at the bounds of their numbers.
	most := api.Header{Reps: 16, Carts: 64, Lines: 1000, Count: api.MaxNum, Log: 64}
	for _, d := range k.durables() {
		if len(k.image(d)) < 600 {
			k.checkRestart(t, most, right(node.Load[S, E](most, d)))
		}
	}
}

func TestRestart(t *testing.T) { // P21.4, P9
	tombs().checkRestarts(t)
	swots().checkRestarts(t)
}

// checkOtherHeads: the head is the one that is handed in, whatever the old replica's is.
func (k kind[S, E]) checkOtherHeads(t *testing.T) {
	t.Helper()
	dice := newDice()
	h := api.Header{Reps: 4, Carts: 5, Lines: 5, Count: 100, Log: 3}
	count := map[api.Errno]int{}
	for _, n := range crowd[S, E](dice, h, 120) {
		ahead := tells(n)
		for reps := range 6 {
			for carts := range 7 {
				other := api.Header{Reps: reps, Carts: carts, Lines: 1 + reps, Count: 100 * carts, Log: reps}
				m, err := save.Restart[S, E](other, n)
				want, wantErr := node.Load[S, E](other, n.Durable())
				if err != wantErr || (m == nil) != (err != api.OK) {
					t.Fatalf("%s: Restart(%v) of %v = %v, %d, want %d", k.name, other, n.Durable(), m, err, wantErr)
				}
				if count[err]++; err != api.OK {
					continue
				}
				for _, a := range []api.Act{{Kind: api.ActSet, Sku: "Q", Qty: 5}, {Kind: api.ActSet, Sku: "R", Qty: 5}, {Kind: api.ActClear}, {Kind: api.ActSet, Sku: "S", Qty: 5}} {
					did, err := m.Act(0, a)
					if w, wErr := want.Act(0, a); did != w || err != wErr || tells(m) != tells(want) {
						t.Fatalf("%s: behind Restart(%v): Act(%v) = %t, %d, want %t, %d", k.name, other, a, did, err, w, wErr)
					}
				}
			}
		}
		if tells(n) != ahead {
			t.Errorf("%s: Restart with other heads changes the replica", k.name)
		}
	}
	if count[api.OK] == 0 || count[api.ErrRep] == 0 || count[api.ErrCart] == 0 {
		t.Errorf("%s: the errors %v", k.name, count)
	}
}

func TestRestartWithAnotherHead(t *testing.T) { // P21.4
	tombs().checkOtherHeads(t)
	swots().checkOtherHeads(t)
}

func (k kind[S, E]) checkErrors(t *testing.T) {
	t.Helper()
	h := api.Header{Reps: 2, Carts: 3, Lines: 10, Count: 100, Log: 4}
	n := right(node.New[S, E](h, 1))
	n.Act(2, api.Act{Kind: api.ActSet, Sku: "A", Qty: 5})
	for _, c := range []struct {
		reps, carts int
		want        api.Errno
	}{{2, 3, api.OK}, {16, 64, api.OK}, {2, 2, api.ErrCart}, {1, 3, api.ErrRep}, {1, 2, api.ErrRep}, {0, 0, api.ErrRep}, {2, -5, api.ErrCart}, {99, 99, api.OK}} {
		other := h
		other.Reps, other.Carts = c.reps, c.carts
		if m, err := save.Restart[S, E](other, n); err != c.want || (m == nil) != (err != api.OK) {
			t.Errorf("%s: Restart(%v) = %v, %d, want %d", k.name, other, m, err, c.want)
		}
	}
}

func TestRestartErrors(t *testing.T) { // P21.4
	tombs().checkErrors(t)
	swots().checkErrors(t)
}

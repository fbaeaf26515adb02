package node_test

import (
	"fmt"
	"slices"
	"strings"
	"testing"

	"barrow/api"
	"barrow/engine"
	"barrow/mail"
	"barrow/node"
	"barrow/sample"
	"barrow/swot"
)

// checkAgain: the replica that comes of another's Durable is as that one was, but for its log and its peers' numbers.
func checkAgain[S any, E engine.Engine[S]](t *testing.T, k kind[S], h api.Header, n *node.Node[S, E]) {
	t.Helper()
	d := n.Durable()
	m, err := node.Load[S, E](h, d)
	if err != api.OK {
		t.Fatalf("%s: Load(%v, %v): %d", k.name, h, d, err)
	}
	if !sameDurable(k, m.Durable(), d) || !slices.Equal(m.Touched(), n.Touched()) || m.Next() != n.Next() || m.First() != n.Next() {
		t.Errorf("%s: Load(%v): %v, touched %v, First %d, Next %d", k.name, d, m.Durable(), m.Touched(), m.First(), m.Next())
	}
	for cart := range clamped(h).Carts {
		if got, want := cartFacts(m, cart), cartFacts(n, cart); got != want {
			t.Errorf("%s: behind Load %s, want %s", k.name, got, want)
		}
		if got, want := right(m.State(cart)), right(n.State(cart)); !k.same(got, want) {
			t.Errorf("%s: behind Load %v, want %v", k.name, got, want)
		}
	}
	for peer := range clamped(h).Reps {
		if number, _ := m.Acked(peer); number != 0 {
			t.Errorf("%s: behind Load Acked(%d) = %d", k.name, peer, number)
		}
		if _, err := m.Push(peer, 0); err == api.OK {
			t.Errorf("%s: behind Load there is an item", k.name)
		}
	}
}

func checkAgains[S any, E engine.Engine[S]](t *testing.T, k kind[S]) {
	t.Helper()
	dice := newDice()
	for range 30 {
		h := thrownHead(dice)
		s := builtStore[S, E](h)
		for i, st := range thrownSteps(dice, h, 80) {
			s.play(st)
			if i%10 == 0 {
				checkAgain(t, k, h, s.reps[st.rep].(built[S, E]).Node)
			}
		}
	}
	// The same head, some of whose fields count as others.
	wide := api.Header{Reps: 99, Carts: 99, Lines: 9999, Count: 1 << 40, Log: 99, Tokens: -5}
	n := right(node.New[S, E](wide, 15))
	n.Act(63, api.Act{Kind: api.ActSet, Sku: "A", Qty: 5})
	checkAgain(t, k, wide, n)
}

func TestComingBack(t *testing.T) { // P20.5
	checkAgains[api.Facts, engine.Tomb](t, tombs())
	checkAgains[api.Swot, engine.Swot](t, swots())
}

// clientSees: of a step's answer what a restart may not change: of a mail that was made, that it was made.
func clientSees(answer string) string {
	before, _, found := strings.Cut(answer, "mail")
	if !found {
		before, _, _ = strings.Cut(answer, "\n")
	}
	return before
}

// carts: what clients see at all replicas.
func carts[M any](s *store[M]) string {
	var all []string
	for rep, r := range s.reps {
		for cart := range s.h.Carts {
			all = append(all, fmt.Sprint(rep, " ", cartFacts(r, cart)))
		}
	}
	return strings.Join(all, "\n")
}

func checkRestarts[S any, E engine.Engine[S]](t *testing.T) {
	t.Helper()
	dice := newDice()
	for range 40 {
		h := thrownHead(dice)
		one, two := builtStore[S, E](h), builtStore[S, E](h)
		for i, st := range without(thrownSteps(dice, h, 100), "push", "restart") {
			if dice.IntN(8) == 0 {
				two.play(step{what: "restart", rep: dice.IntN(h.Reps)})
			}
			got, want := clientSees(two.play(st)), clientSees(one.play(st))
			if got != want {
				t.Fatalf("%v: with restarts %s, without %s", st, got, want)
			}
			if i%5 == 0 && carts(two) != carts(one) {
				t.Fatalf("%v: with restarts\n%s\nwithout\n%s", st, carts(two), carts(one))
			}
		}
	}
}

func TestRestartsChangeNoLaterAnswer(t *testing.T) { // P9
	checkRestarts[api.Facts, engine.Tomb](t)
	checkRestarts[api.Swot, engine.Swot](t)
}

// A witness remembers what the senders of syncs knew, and which ack is of which sync.
type witness[S any, E engine.Engine[S]] struct {
	*testing.T
	k     kind[S]
	s     *store[[]byte]
	knew  map[int][]api.Swot // by the sync's number
	of    map[int]int        // by the ack's number
	floor map[[2]int]int     // by replica and peer: the greatest number that was acknowledged
	seen  int                // acks that were looked at
}

func (w *witness[S, E]) knows(rep int) []api.Swot {
	var all []api.Swot
	for cart := range w.s.h.Carts {
		all = append(all, w.k.dense(right(w.s.reps[rep].(built[S, E]).State(cart))))
	}
	return all
}

func (w *witness[S, E]) heard(rep, number, answer int) {
	if _, sync := w.knew[number]; sync {
		w.of[answer] = number
	}
	sync, isAck := w.of[number]
	if !isAck {
		return
	}
	w.seen++
	peer := w.s.all[sync].to
	at := [2]int{rep, peer}
	w.floor[at] = max(w.floor[at], right(mail.Get(w.s.all[number].m)).Hi)
	for cart, now := range w.knows(peer) {
		if both := right(swot.Join(now, w.knew[sync][cart])); !sample.SameSwot(both, now) {
			w.Errorf("%s: replica %d has acknowledged %v, and has %v", w.k.name, peer, w.knew[sync][cart], now)
		}
	}
}

// made looks at the sync that was made.
func (w *witness[S, E]) made(st step) {
	number := len(w.s.all) - 1
	w.knew[number] = w.knows(st.rep)
	m := right(mail.Get(w.s.all[number].m))
	if floor := w.floor[[2]int{st.rep, st.to}]; m.Kind == api.MailDelta && m.Lo < floor {
		w.Errorf("%s: replica %d has acknowledged %d, and a delta starts at %d", w.k.name, st.to, floor, m.Lo)
	}
}

func checkAcknowledged[S any, E engine.Engine[S]](t *testing.T, k kind[S]) {
	t.Helper()
	dice := newDice()
	seen := 0
	for range 60 {
		h := roomyHead(dice)
		w := &witness[S, E]{t, k, builtStore[S, E](h), map[int][]api.Swot{}, map[int]int{}, map[[2]int]int{}, 0}
		w.s.heard = w.heard
		for _, st := range thrownSteps(dice, h, 150) {
			before := len(w.s.all)
			w.s.play(st)
			if (st.what == "sync" || st.what == "full") && len(w.s.all) > before {
				w.made(st)
			}
		}
		seen += w.seen
	}
	if seen < 200 {
		t.Errorf("%s: %d acks were looked at", k.name, seen)
	}
}

func TestWhoHasAcknowledgedKnows(t *testing.T) { // P20.4
	checkAcknowledged[api.Facts, engine.Tomb](t, tombs())
	checkAcknowledged[api.Swot, engine.Swot](t, swots())
}

package mesh_test

import (
	"slices"
	"strings"
	"testing"

	"barrow/api"
	"barrow/engine"
	"barrow/mail"
	"barrow/mesh"
)

// states: those of all carts at all replicas.
func (k kind[S, E]) states(m *mesh.Mesh[S, E]) [][]S {
	var all [][]S
	for rep := range m.Head().Reps {
		var carts []S
		for cart := range m.Head().Carts {
			carts = append(carts, right(m.State(rep, cart)))
		}
		all = append(all, carts)
	}
	return all
}

func (k kind[S, E]) sameStates(a, b [][]S) bool {
	return slices.EqualFunc(a, b, func(x, y []S) bool { return slices.EqualFunc(x, y, k.same) })
}

// named: the replica that the step may change; -1: none.
func (p *player) named(st step) int {
	switch st.what {
	case "act", "act by token", "restart":
		return st.rep
	case "deliver":
		if l, err := p.Look(p.message(st)); err == api.OK {
			return l.To
		}
	}
	return -1
}

// isRefused: does the text tell of an error?
func isRefused(answer string) bool {
	return !slices.ContainsFunc([]string{"act 0", "restart 0"}, func(word string) bool { return answer == word }) && !strings.Contains(answer, "error 0:")
}

func checkWhoChanges[S any, E engine.Engine[S]](t *testing.T, k kind[S, E]) {
	t.Helper()
	dice := newDice()
	changes := map[string]int{}
	for range 30 {
		h := thrownHead(dice)
		m := mesh.New[S, E](h)
		p := &player{store: m, alive: true}
		for _, st := range thrownSteps(dice, h, 80) {
			ahead, states, named := insides(m), k.states(m), p.named(st)
			answer := p.play(st)
			behind := insides(m)
			for rep := range ahead {
				same := behind[rep] == ahead[rep] && slices.EqualFunc(states[rep], k.states(m)[rep], k.same)
				if !same && (rep != named || isRefused(answer)) {
					t.Fatalf("%s: %v: %s; replica %d was %s, and is %s", k.name, st, answer, rep, ahead[rep], behind[rep])
				}
				if !same {
					changes[st.what]++
				}
			}
		}
	}
	if len(changes) != 4 || slices.Min([]int{changes["act"], changes["act by token"], changes["deliver"], changes["restart"]}) < 10 {
		t.Errorf("%s: what changes replicas: %v", k.name, changes)
	}
}

func TestWhoChanges(t *testing.T) { // P22.2
	checkWhoChanges(t, tombs())
	checkWhoChanges(t, swots())
}

// everyKind: a store with a message of every kind under way, all of them to replica 1 or 0, with parts and without.
func everyKind[S any, E engine.Engine[S]]() (*mesh.Mesh[S, E], []int) {
	m := mesh.New[S, E](api.Header{Reps: 2, Carts: 2, Lines: 10, Count: 100, Log: 8})
	var list []int
	for range 2 {
		delta := right(m.Send(1, 0, false))
		ask := right(m.Ask(0, 1))
		again, ask2 := right(m.Copy(delta)), right(m.Copy(ask))
		list = append(list, again, ask2, right(m.Deliver(delta)), right(m.Deliver(ask)), right(m.Send(1, 0, true)))
		m.Act(1, 0, api.Act{Kind: api.ActSet, Sku: "A", Qty: 5})
		m.Act(1, 1, api.Act{Kind: api.ActSet, Sku: "B", Qty: 300})
		list = append(list, right(m.Push(1, 0, 0)), right(m.Push(1, 0, 1)))
	}
	return m, list
}

func checkTrims[S any, E engine.Engine[S]](t *testing.T, k kind[S, E]) {
	t.Helper()
	m, list := everyKind[S, E]()
	kinds := map[int]int{}
	inner, states := insides(m), k.states(m)
	for _, n := range list {
		l := right(m.Look(n))
		kinds[right(mail.Get(l.Bytes)).Kind]++
		for cut := 1; cut <= len(l.Bytes)+2; cut++ {
			c := right(m.Copy(n))
			if err := m.Trim(c, (cut+1)/2); err != api.OK {
				t.Errorf("%s: Trim: %d", k.name, err)
			}
			if cut > 1 {
				m.Trim(c, cut/2)
			}
			made := m.Made()
			if answer, err := m.Deliver(c); answer != 0 || err != api.ErrBad || m.Made() != made {
				t.Errorf("%s: %x without %d bytes: %d, %d", k.name, l.Bytes, cut, answer, err)
			}
			if answer, err := m.Deliver(c); answer != 0 || err != api.ErrMsg {
				t.Errorf("%s: a cut message again: %d, %d", k.name, answer, err)
			}
		}
	}
	if !slices.Equal(insides(m), inner) || !k.sameStates(k.states(m), states) {
		t.Errorf("%s: cut messages change a replica", k.name)
	}
	for kind := api.MailDelta; kind <= api.MailPush; kind++ {
		if kinds[kind] < 2 {
			t.Errorf("%s: %d messages of kind %d", k.name, kinds[kind], kind)
		}
	}
	for _, n := range list {
		if _, err := m.Deliver(n); err != api.OK {
			t.Errorf("%s: the whole message: %d", k.name, err)
		}
	}
}

func TestACutMessageIsRefused(t *testing.T) { // P22.2, P8
	checkTrims(t, tombs())
	checkTrims(t, swots())
}

// A keeper puts by a copy of each message that comes, and lets it come later.
type keeper[S any, E engine.Engine[S]] struct {
	*testing.T
	k      kind[S, E]
	m      *mesh.Mesh[S, E]
	p      *player
	copies []int // of messages that were delivered with OK
}

// play: one step; if it delivers with OK, a copy of the message stays.
func (x *keeper[S, E]) play(st step) {
	if st.what != "deliver" {
		x.p.play(st)
		return
	}
	c, err := x.m.Copy(x.p.message(st))
	if err != api.OK {
		return
	}
	x.p.apart[c] = true
	if strings.Contains(x.p.play(st), "error 0:") {
		x.copies = append(x.copies, c)
	}
}

// again: a copy comes, and may change no state.
func (x *keeper[S, E]) again(c int) {
	x.Helper()
	states, told, l := x.k.states(x.m), reads(x.m), right(x.m.Look(c))
	second := right(x.m.Copy(c))
	x.p.apart[second] = true
	if _, err := x.m.Deliver(second); err != api.OK {
		x.Errorf("%s: the copy %s: %d", x.k.name, heading(l.Bytes), err)
	}
	if !x.k.sameStates(x.k.states(x.m), states) || reads(x.m) != told {
		x.Errorf("%s: the copy %s changes\n%s\nto\n%s", x.k.name, heading(l.Bytes), told, reads(x.m))
	}
}

func checkCopies[S any, E engine.Engine[S]](t *testing.T, k kind[S, E]) {
	t.Helper()
	dice := newDice()
	kinds := map[int]int{}
	for range 25 {
		h := roomyHead(dice)
		m := mesh.New[S, E](h)
		x := &keeper[S, E]{t, k, m, &player{store: m, alive: true, apart: map[int]bool{}}, nil}
		for _, st := range thrownSteps(dice, h, 120) {
			x.play(st)
			if len(x.copies) > 0 && dice.IntN(3) == 0 {
				x.again(x.copies[dice.IntN(len(x.copies))])
			}
		}
		for _, c := range x.copies {
			kinds[right(mail.Get(right(m.Look(c)).Bytes)).Kind]++
			x.again(c)
		}
	}
	for kind := api.MailDelta; kind <= api.MailPush; kind++ {
		if kinds[kind] < 10 {
			t.Errorf("%s: %d copies of kind %d", k.name, kinds[kind], kind)
		}
	}
}

func TestACopyChangesNoState(t *testing.T) { // P22.3
	checkCopies(t, tombs())
	checkCopies(t, swots())
}

// checkComeBack: the replica restarts; the store is as it was, but for its log and what was acknowledged to it.
func checkComeBack[S any, E engine.Engine[S]](t *testing.T, k kind[S, E], m *mesh.Mesh[S, E], rep int) {
	t.Helper()
	inner := insides(m)
	next := map[int]int{}
	for to := range m.Head().Reps {
		if n, err := m.Send(rep, to, true); err == api.OK {
			next[to] = right(mail.Get(right(m.Look(n)).Bytes)).Hi
			m.Drop(n)
		}
	}
	states, told, way := k.states(m), reads(m), letters(m, whole)
	if err := m.Restart(rep); err != api.OK {
		t.Fatalf("%s: Restart(%d): %d", k.name, rep, err)
	}
	if !k.sameStates(k.states(m), states) || reads(m) != told || letters(m, whole) != way {
		t.Errorf("%s: Restart(%d) changes\n%s\n%s\nto\n%s\n%s", k.name, rep, told, way, reads(m), letters(m, whole))
	}
	for other, was := range inner {
		if other != rep && inside(m, other) != was {
			t.Errorf("%s: Restart(%d) changes replica %d", k.name, rep, other)
		}
	}
	for to, hi := range next {
		if n, err := m.Push(rep, to, 0); n != 0 || err != api.ErrArg {
			t.Errorf("%s: behind Restart(%d) there is an item: %d, %d", k.name, rep, n, err)
		}
		n := right(m.Send(rep, to, false))
		want := api.MailFull
		if hi == 0 {
			want = api.MailDelta
		}
		if got := right(mail.Get(right(m.Look(n)).Bytes)); got.Kind != want || got.Lo != 0 || got.Hi != hi {
			t.Errorf("%s: behind Restart(%d) a sync is %v, want the kind %d, up to %d", k.name, rep, got, want, hi)
		}
		m.Drop(n)
	}
}

func checkComeBacks[S any, E engine.Engine[S]](t *testing.T, k kind[S, E]) {
	t.Helper()
	dice := newDice()
	for range 25 {
		h := thrownHead(dice)
		m := mesh.New[S, E](h)
		p := &player{store: m, alive: true}
		for i, st := range without(thrownSteps(dice, h, 100), "restart") {
			p.play(st)
			if i%9 == 0 {
				checkComeBack(t, k, m, dice.IntN(h.Reps))
			}
		}
	}
}

func TestRestart(t *testing.T) { // P22.4, P22.1, P9
	checkComeBacks(t, tombs())
	checkComeBacks(t, swots())
}

// checkUnderWay: what is on its way to and from a replica that restarts still comes, and counts.
func checkUnderWay[S any, E engine.Engine[S]](t *testing.T) {
	t.Helper()
	x := story[S, E]{t, mesh.New[S, E](api.Header{Reps: 2, Carts: 1, Lines: 10, Count: 100, Log: 8})}
	for _, sku := range []string{"A", "B"} {
		x.Act(0, 0, api.Act{Kind: api.ActSet, Sku: sku, Qty: 5})
	}
	x.is("Send", 1, api.OK)(x.Send(0, 1, false))
	x.Act(0, 0, api.Act{Kind: api.ActRemove, Sku: "B"})
	x.Restart(0)
	x.Restart(1)
	x.is("Deliver(1)", 2, api.OK)(x.Deliver(1))
	x.isMail(2, api.MailAck, 1, 0, 2)
	x.Restart(0)
	x.Act(0, 0, api.Act{Kind: api.ActRemove, Sku: "A"})
	x.is("Deliver(2)", 0, api.OK)(x.Deliver(2))
	// The item 2, which isn't acknowledged, went with the restart; the item 3 is there, and pushed.
	x.is("Send", 3, api.OK)(x.Send(0, 1, false))
	x.isMail(3, api.MailFull, 0, 1, 4)
	x.is("Push", 4, api.OK)(x.Push(0, 1, 0))
	x.isMail(4, api.MailPush, 0, 1, 4)
	x.is("Deliver(4)", 0, api.OK)(x.Deliver(4))
	x.reads(1, api.Line{Sku: "B", Qty: 5, Parts: 1})
	x.is("Deliver(3)", 5, api.OK)(x.Deliver(3))
	x.reads(1)
	x.is("Deliver(5)", 0, api.OK)(x.Deliver(5))
	x.is("Send", 6, api.OK)(x.Send(0, 1, false))
	x.isMail(6, api.MailDelta, 0, 1, 4)
}

func TestRestartLeavesWhatIsUnderWay(t *testing.T) { // P22.1
	checkUnderWay[api.Facts, engine.Tomb](t)
	checkUnderWay[api.Swot, engine.Swot](t)
}

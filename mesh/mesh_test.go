package mesh_test

import (
	"math"
	"math/rand/v2"
	"slices"
	"strings"
	"testing"

	"barrow/api"
	"barrow/engine"
	"barrow/mail"
	"barrow/mesh"
)

// A pair is a store and the slow one that it is held against.
type pair[S any, E engine.Engine[S]] struct {
	*testing.T
	k    kind[S, E]
	m    *mesh.Mesh[S, E]
	s    *slow[S, E]
	a, b *player
}

func newPair[S any, E engine.Engine[S]](t *testing.T, k kind[S, E], h api.Header) *pair[S, E] {
	p := &pair[S, E]{T: t, k: k, m: mesh.New[S, E](h), s: newSlow[S, E](h)}
	p.a, p.b = &player{store: p.m}, &player{store: p.s}
	return p
}

// play holds the two answers against each other.
func (p *pair[S, E]) play(st step) string {
	p.Helper()
	got, want := p.a.play(st), p.b.play(st)
	if got != want {
		p.Fatalf("%s: %v: %s, want %s", p.k.name, st, got, want)
	}
	return got
}

// check looks at all that the store tells.
func (p *pair[S, E]) check() {
	p.Helper()
	if got, want := reads(p.m), reads(p.s); got != want {
		p.Fatalf("%s: it reads\n%s\nwant\n%s", p.k.name, got, want)
	}
	if got, want := letters(p.m, whole), letters(p.s, whole); got != want {
		p.Fatalf("%s: under way are\n%s\nwant\n%s", p.k.name, got, want)
	}
	if err := p.k.isState(p.m, p.s); err != nil {
		p.Fatal(err)
	}
}

// outcomes: what a step may come to: every error of every kind of call, with a message and without.
func outcomes() []string {
	return []string{
		"act 0", "act 1 ", "act 3", "act 4", "act 5", "act 6", "act 7", "act 9", "act 11", "act 12", "act 13", "restart 0", "restart 3", "drop 0", "drop 15", "trim 0", "trim 2", "trim 15",
		"message true error 0", "message false error 2", "message false error 3", "message false error 15", "message false error 16", "delivered message true error 0", "delivered message false error 0", "delivered message false error 8", "delivered message false error 15",
	}
}

// A tally counts what scripts came to, so that they are known to reach what they should.
type tally map[string]int

func (c tally) count(text string) {
	for _, word := range outcomes() {
		if strings.HasPrefix(text+" ", word) {
			c[word]++
		}
	}
}

func checkRows[S any, E engine.Engine[S]](t *testing.T, k kind[S, E]) {
	t.Helper()
	dice := newDice()
	c := tally{}
	for range 80 {
		h := thrownHead(dice)
		p := newPair(t, k, h)
		p.check()
		for i, st := range thrownSteps(dice, h, 150) {
			c.count(p.play(st))
			if i%15 == 0 {
				p.check()
			}
		}
		p.check()
	}
	for _, word := range outcomes() {
		if c[word] < 5 {
			t.Errorf("%s: the scripts come to %q %d times", k.name, word, c[word])
		}
	}
}

func TestEveryRowOfCalls(t *testing.T) { // P22.1
	checkRows(t, tombs())
	checkRows(t, swots())
}

func checkSideBySide[S any, E engine.Engine[S]](t *testing.T, k kind[S, E]) {
	t.Helper()
	dice := newDice()
	var pairs []*pair[S, E]
	for range 6 {
		pairs = append(pairs, newPair(t, k, thrownHead(dice)))
	}
	for range 900 {
		p := pairs[dice.IntN(len(pairs))]
		p.play(thrownStep(dice, p.s.h))
	}
	for _, p := range pairs {
		p.check()
	}
}

func TestStoresSideBySide(t *testing.T) { // P22.1
	checkSideBySide(t, tombs())
	checkSideBySide(t, swots())
}

// heads: heads at their bounds, and beyond them.
func heads() []api.Header {
	return []api.Header{
		{}, {Reps: 1, Carts: 1, Lines: 1, Count: 1}, {Reps: 2, Carts: 2, Lines: 10, Count: 100, Log: 2, Tokens: 7}, {Reps: 16, Carts: 64, Lines: 1000, Count: 1000000000, Log: 64, Tokens: 1000}, {Reps: 15, Carts: 63, Lines: 999, Count: 999999999, Log: 63, Tokens: 999},
		{Reps: -1, Carts: -1, Lines: -1, Count: -1, Log: -1, Tokens: -1}, {Reps: 17, Carts: 65, Lines: 1001, Count: 1000000001, Log: 65, Tokens: 1001}, {Reps: math.MaxInt, Carts: math.MinInt}, {Reps: math.MinInt, Carts: math.MaxInt, Log: math.MaxInt, Tokens: math.MaxInt, Count: math.MaxInt, Lines: math.MaxInt},
	}
}

func checkHeads[S any, E engine.Engine[S]](t *testing.T, k kind[S, E]) {
	t.Helper()
	dice := newDice()
	for _, h := range heads() {
		p := newPair(t, k, h)
		p.check()
		if got := p.m.Head(); got != clamped(h) {
			t.Errorf("%s: New(%v).Head() = %v", k.name, h, got)
		}
		for _, st := range thrownSteps(dice, h, 40) {
			p.play(st)
		}
		p.check()
		if got := p.m.Head(); got != clamped(h) {
			t.Errorf("%s: New(%v).Head() = %v behind a script", k.name, h, got)
		}
	}
}

func TestHeads(t *testing.T) { // P22.1
	checkHeads(t, tombs())
	checkHeads(t, swots())
}

// checkLimits: the head's limits are those of every replica.
func checkLimits[S any, E engine.Engine[S]](t *testing.T, k kind[S, E]) {
	t.Helper()
	m := mesh.New[S, E](api.Header{Reps: 2, Carts: 1, Lines: 1, Count: 2, Log: 1})
	for rep := range 2 {
		for _, c := range []struct {
			sku  string
			want api.Errno
		}{{"A", api.OK}, {"B", api.ErrFull}, {"A", api.OK}, {"A", api.ErrCount}} {
			if err := m.Act(rep, 0, api.Act{Kind: api.ActSet, Sku: c.sku, Qty: 1}); err != c.want {
				t.Errorf("%s: Set %s at %d: %d, want %d", k.name, c.sku, rep, err, c.want)
			}
		}
		if n, err := m.Push(rep, 1-rep, 0); n != rep+1 || err != api.OK {
			t.Errorf("%s: Push of the newest item: %d, %d", k.name, n, err)
		}
		if n, err := m.Push(rep, 1-rep, 1); n != 0 || err != api.ErrArg {
			t.Errorf("%s: Push of an item that was let go: %d, %d", k.name, n, err)
		}
	}
}

func TestLimitsOfTheHead(t *testing.T) { // P22.1
	checkLimits(t, tombs())
	checkLimits(t, swots())
}

// busyPair: a pair behind a script, with messages under way.
func busyPair[S any, E engine.Engine[S]](t *testing.T, k kind[S, E], dice *rand.Rand, h api.Header) *pair[S, E] {
	p := newPair(t, k, h)
	for _, st := range thrownSteps(dice, h, 80) {
		p.play(st)
	}
	for rep := range h.Reps {
		p.play(step{what: "act", rep: rep, act: api.Act{Kind: api.ActSet, Sku: "Q", Qty: 3}})
		p.play(step{what: "sync", rep: rep, to: (rep + 1) % h.Reps})
		p.play(step{what: "ask", rep: rep, to: (rep + 1) % h.Reps})
	}
	return p
}

// A refuser makes calls that must be refused.
type refuser[S any, E engine.Engine[S]] struct {
	*testing.T
	*mesh.Mesh[S, E]
}

func (x refuser[S, E]) is(call string, err, want api.Errno) {
	x.Helper()
	if err != want {
		x.Errorf("%s: %d, want %d", call, err, want)
	}
}

// number: what is beside the error must be 0.
func (x refuser[S, E]) number(call string, want api.Errno) func(n int, err api.Errno) {
	return func(n int, err api.Errno) {
		x.Helper()
		if n != 0 || err != want {
			x.Errorf("%s = %d, %d, want %d", call, n, err, want)
		}
	}
}

// strangers: calls at, from and to a replica that there isn't; that one's error comes first.
func (x refuser[S, E]) strangers(rep int) {
	x.Helper()
	x.is("Act at nobody", x.Act(rep, 0, api.Act{Kind: api.ActSet, Sku: "A", Qty: 5}), api.ErrRep)
	x.is("Act at nobody on nothing", x.Act(rep, 9, api.Act{Kind: 99}), api.ErrRep)
	x.is("Restart of nobody", x.Restart(rep), api.ErrRep)
	x.number("Send from nobody", api.ErrRep)(x.Send(rep, 0, false))
	x.number("Send from nobody to himself", api.ErrRep)(x.Send(rep, rep, true))
	x.number("Send to nobody", api.ErrRep)(x.Send(0, rep, true))
	x.number("Ask from nobody", api.ErrRep)(x.Ask(rep, 0))
	x.number("Ask from nobody to himself", api.ErrRep)(x.Ask(rep, rep))
	x.number("Ask to nobody", api.ErrRep)(x.Ask(0, rep))
	x.number("Push from nobody", api.ErrRep)(x.Push(rep, 0, 0))
	x.number("Push from nobody to himself", api.ErrRep)(x.Push(rep, rep, -1))
	x.number("Push to nobody", api.ErrRep)(x.Push(0, rep, -1))
}

// wrongs: wrong calls at a replica of three; its carts are 0 and 1, its log holds two items.
func (x refuser[S, E]) wrongs(rep int) {
	x.Helper()
	x.number("Send to itself", api.ErrSelf)(x.Send(rep, rep, rep == 1))
	x.number("Ask to itself", api.ErrSelf)(x.Ask(rep, rep))
	x.number("Push to itself", api.ErrSelf)(x.Push(rep, rep, 99))
	for _, back := range []int{math.MinInt, -1, 2, 3, 99, math.MaxInt} {
		x.number("Push of nothing", api.ErrArg)(x.Push(rep, (rep+1)%3, back))
	}
	for _, cart := range []int{math.MinInt, -1, 2, 63, 64, math.MaxInt} {
		x.is("Act on nothing", x.Act(rep, cart, api.Act{Kind: 99}), api.ErrCart)
	}
	for want, a := range map[api.Errno]api.Act{
		api.ErrKind: {Kind: 99}, api.ErrSku: {Kind: api.ActSet, Sku: "a", Qty: 1}, api.ErrQty: {Kind: api.ActSet, Sku: "A"}, api.ErrAbsent: {Kind: api.ActRemove, Sku: "NONE"}, api.ErrForm: {Kind: api.ActClearTo, Past: api.Past{Vec: []int{0}}}, api.ErrOver: {Kind: api.ActAdd, Sku: "Q", Qty: api.MaxQty},
	} {
		x.is("Act", x.Act(rep, 0, a), want)
	}
}

// noMessage: calls on a message that isn't under way.
func (x refuser[S, E]) noMessage(n int) {
	x.Helper()
	x.number("Deliver of nothing", api.ErrMsg)(x.Deliver(n))
	x.number("Copy of nothing", api.ErrMsg)(x.Copy(n))
	x.is("Drop of nothing", x.Drop(n), api.ErrMsg)
	x.is("Trim of nothing", x.Trim(n, 1), api.ErrMsg)
	x.is("Trim of nothing by nothing", x.Trim(n, 0), api.ErrMsg)
	if l, err := x.Look(n); l.From != 0 || l.To != 0 || len(l.Bytes) != 0 || err != api.ErrMsg {
		x.Errorf("Look(%d) = %v, %d", n, l, err)
	}
}

// checkWrong: calls that are refused, and which error comes first; they change nothing.
func checkWrong[S any, E engine.Engine[S]](t *testing.T, k kind[S, E]) {
	t.Helper()
	m := busyPair(t, k, newDice(), api.Header{Reps: 3, Carts: 2, Lines: 5, Count: 100, Log: 2}).m
	x := refuser[S, E]{t, m}
	inner := insides(m)
	ahead, way := reads(m), letters(m, whole)
	for _, rep := range []int{math.MinInt, -1, 3, 4, 15, 16, math.MaxInt} {
		x.strangers(rep)
	}
	for rep := range 3 {
		x.wrongs(rep)
	}
	for _, n := range append([]int{math.MinInt, math.MaxInt}, around(m.Made()+3)...) {
		if !slices.Contains(m.Waiting(), n) {
			x.noMessage(n)
		}
	}
	for _, n := range m.Waiting() {
		for _, cut := range []int{math.MinInt, -1, 0} {
			x.is("Trim by nothing", m.Trim(n, cut), api.ErrArg)
		}
	}
	if reads(m) != ahead || letters(m, whole) != way {
		t.Errorf("%s: behind refused calls\n%s\n%s\nahead\n%s\n%s", k.name, reads(m), letters(m, whole), ahead, way)
	}
	if !slices.Equal(insides(m), inner) {
		t.Errorf("%s: refused calls change a replica", k.name)
	}
}

func TestRefusedCalls(t *testing.T) { // P22.1, R4
	checkWrong(t, tombs())
	checkWrong(t, swots())
}

// A story plays a chapter's examples.
type story[S any, E engine.Engine[S]] struct {
	*testing.T
	*mesh.Mesh[S, E]
}

func (x story[S, E]) reads(rep int, want ...api.Line) {
	x.Helper()
	got, err := x.Lines(rep, 0)
	if err != api.OK || len(got) != len(want) || len(got) > 0 && got[0] != want[0] {
		x.Errorf("Lines(%d, 0) = %v, %d, want %v", rep, got, err, want)
	}
}

func (x story[S, E]) is(what string, want int, wantErr api.Errno) func(n int, err api.Errno) {
	return func(n int, err api.Errno) {
		x.Helper()
		if n != want || err != wantErr {
			x.Errorf("%s = %d, %d, want %d, %d", what, n, err, want, wantErr)
		}
	}
}

func (x story[S, E]) isMail(n, kind, from, to, hi int) {
	x.Helper()
	l, err := x.Look(n)
	m, _ := mail.Get(l.Bytes)
	if err != api.OK || l.From != from || l.To != to || m.Kind != kind || m.From != from || m.To != to || m.Hi != hi {
		x.Errorf("Look(%d) = %v, %d, the mail %v", n, l, err, m)
	}
}

func checkExamples[S any, E engine.Engine[S]](t *testing.T) {
	t.Helper()
	x := story[S, E]{t, mesh.New[S, E](api.Header{Reps: 2, Carts: 1, Lines: 10, Count: 100, Log: 8, Tokens: 4})}
	five := api.Line{Sku: "A", Qty: 5, Parts: 1}
	x.is("Act", 0, api.OK)(0, x.Act(0, 0, api.Act{Kind: api.ActSet, Sku: "A", Qty: 5}))
	x.reads(0, five)
	x.reads(1)
	x.is("Send(0, 1, false)", 1, api.OK)(x.Send(0, 1, false))
	x.isMail(1, api.MailDelta, 0, 1, 1)
	x.is("Deliver(1)", 2, api.OK)(x.Deliver(1))
	x.isMail(2, api.MailAck, 1, 0, 1)
	x.reads(1, five)
	x.is("Deliver(2)", 0, api.OK)(x.Deliver(2))
	if x.Made() != 2 || len(x.Waiting()) != 0 {
		t.Errorf("Made = %d, Waiting = %v", x.Made(), x.Waiting())
	}

	x.is("Deliver(1)", 0, api.ErrMsg)(x.Deliver(1))
	x.is("Send(0, 0, true)", 0, api.ErrSelf)(x.Send(0, 0, true))
	x.is("Send(0, 2, true)", 0, api.ErrRep)(x.Send(0, 2, true))
	x.is("Send(2, 2, true)", 0, api.ErrRep)(x.Send(2, 2, true))

	x.is("Act", 0, api.OK)(0, x.Act(1, 0, api.Act{Kind: api.ActRemove, Sku: "A"}))
	x.is("Send(1, 0, false)", 3, api.OK)(x.Send(1, 0, false))
	x.is("Copy(3)", 4, api.OK)(x.Copy(3))
	x.is("Trim(4, 1)", 0, api.OK)(0, x.Trim(4, 1))
	x.is("Deliver(4)", 0, api.ErrBad)(x.Deliver(4))
	x.reads(0, five)
	x.is("Deliver(3)", 5, api.OK)(x.Deliver(3))
	x.reads(0)

	x.is("Restart(0)", 0, api.OK)(0, x.Restart(0))
	x.is("Restart(2)", 0, api.ErrRep)(0, x.Restart(2))
	x.reads(0)
	x.reads(1)
}

func TestExamples(t *testing.T) { // P22.1
	checkExamples[api.Facts, engine.Tomb](t)
	checkExamples[api.Swot, engine.Swot](t)
}

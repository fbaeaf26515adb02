package settle_test

import (
	"slices"
	"testing"

	"barrow/api"
	"barrow/cart"
	"barrow/engine"
	"barrow/known"
	"barrow/sample"
	"barrow/settle"
)

// extended is the chapter's words: the syncs are run to learn the numbers of their messages.
func extended(s api.Script, reps int) []api.Op {
	ops := slices.Clone(s.Ops)
	for _, p := range settle.Pairs(reps) {
		ops = append(ops, api.Op{Kind: 8, Rep: p.From, To: p.To})
	}
	answers := cart.Run[api.Facts, engine.Tomb](api.Script{Head: s.Head, Ops: ops})
	for _, a := range answers[len(s.Ops):] {
		ops = append(ops, api.Op{Kind: 11, Num: a.Msg})
	}
	return ops
}

func TestExtend(t *testing.T) { // P26.10
	dice := newDice()
	heads := sample.EdgeHeads()
	for range 60 {
		heads = append(heads, anyHead(dice))
	}
	for _, h := range heads {
		s := known.Thrown(dice.IntN, h, dice.IntN(60))
		slow := known.New(h)
		got := settle.Extend(s)
		if want := extended(s, slow.Head().Reps); got.Head != h || !slices.Equal(got.Ops, want) {
			t.Errorf("Extend(%v) = %v, want %v", s, got, want)
		}
		for i, o := range got.Ops {
			if a := slow.Step(o); i >= len(s.Ops) && (a.Status != api.OK || a.Msg == 0) {
				t.Errorf("of the talk behind a script %+v answers %v", o, a)
			}
		}
	}
}

func TestExtendExample(t *testing.T) { // P26.10
	s := api.Script{Head: api.Header{Reps: 2}, Ops: []api.Op{{Kind: api.OpSync, Rep: 0, To: 1}}}
	want := []api.Op{{Kind: api.OpSync, Rep: 0, To: 1}, {Kind: api.OpSync, Rep: 0, To: 1}, {Kind: api.OpSync, Rep: 1, To: 0}, {Kind: api.OpDeliver, Num: 2}, {Kind: api.OpDeliver, Num: 3}}
	if got := settle.Extend(s); got.Head != s.Head || !slices.Equal(got.Ops, want) {
		t.Errorf("Extend = %v, want %v", got, want)
	}
	// With one replica nobody talks; the ops stay as they are, unused fields too, and so does the head.
	for _, reps := range []int{1, 0, -7} {
		s = api.Script{Head: api.Header{Reps: reps, Carts: 99}, Ops: []api.Op{{Kind: 99, Num: 4}, {Kind: api.OpRead, Sku: "x", Qty: 9}}}
		if got := settle.Extend(s); got.Head != s.Head || !slices.Equal(got.Ops, s.Ops) {
			t.Errorf("Extend(%v) = %v", s, got)
		}
	}
	if got := settle.Extend(api.Script{}); got.Head != (api.Header{}) || len(got.Ops) != 0 {
		t.Errorf("Extend of nothing = %v", got)
	}
	if got := settle.Extend(api.Script{Head: api.Header{Reps: 99}}); got.Head.Reps != 99 || len(got.Ops) != 480 {
		t.Errorf("Extend of 99 replicas has %d ops", len(got.Ops))
	}
}

func TestFinal(t *testing.T) { // P26.11, P4
	dice := newDice()
	heads := sample.EdgeHeads()
	for range 100 {
		heads = append(heads, anyHead(dice))
	}
	some := 0
	for _, h := range heads {
		s := known.Thrown(dice.IntN, h, dice.IntN(90))
		slow := known.Played(s)
		got := settle.Final(s)
		if len(got) != slow.Head().Carts {
			t.Fatalf("Final tells of %d carts, want %d", len(got), slow.Head().Carts)
		}
		for at, told := range got {
			// The lines of all events that were taken.
			if want := known.Told(sample.State(slow.All(at)).Live); !slices.Equal(told, want) {
				t.Errorf("Final: cart %d holds %v, want %v", at, told, want)
			}
			some += len(told)
		}
		c := played[api.Facts, engine.Tomb](settle.Extend(s))
		for rep := range slow.Head().Reps {
			if want := c.All()[rep]; !sameLists(got, want) {
				t.Errorf("Final = %v, replica %d of the tombstone stack reads %v", got, rep, want)
			}
		}
	}
	if some < 100 {
		t.Errorf("only %d lines", some)
	}
}

func TestFinalExample(t *testing.T) { // P26.11
	s := api.Script{Head: api.Header{Reps: 3, Carts: 2, Lines: 10, Count: 100, Log: 8, Tokens: 4}, Ops: []api.Op{
		{Kind: api.OpSet, Rep: 0, Cart: 0, Sku: "A", Qty: 5}, {Kind: api.OpSet, Rep: 1, Cart: 0, Sku: "A", Qty: 2}, {Kind: api.OpSet, Rep: 2, Cart: 1, Sku: "B", Qty: 1},
	}}
	if got, want := settle.Final(s), [][]api.Line{{{Sku: "A", Qty: 7, Parts: 2}}, {{Sku: "B", Qty: 1, Parts: 1}}}; !sameLists(got, want) {
		t.Errorf("Final = %v, want %v", got, want)
	}
	if got := settle.Final(api.Script{}); len(got) != 1 || len(got[0]) != 0 {
		t.Errorf("Final of nothing = %v", got)
	}
	if got := settle.Final(api.Script{Head: api.Header{Reps: 99, Carts: 99}}); len(got) != 64 {
		t.Errorf("Final tells of %d carts", len(got))
	}
}

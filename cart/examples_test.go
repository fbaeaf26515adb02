package cart_test

import (
	"testing"

	"barrow/api"
	"barrow/cart"
	"barrow/engine"
	"barrow/sample"
)

// A row is a step and what it answers.
type row struct {
	op   api.Op
	want api.Answer
}

func refusal(err api.Errno) api.Answer { return api.Answer{Status: err} }

func line(sku string, qty, parts int) api.Line { return api.Line{Sku: sku, Qty: qty, Parts: parts} }

func readAnswer(token int, told ...api.Line) api.Answer { return api.Answer{Lines: told, Token: token} }

// play: a story over both engines, by Step and by Run.
func play(t *testing.T, h api.Header, rows []row) {
	t.Helper()
	x := newTrio(t, h)
	s := api.Script{Head: h}
	for i, r := range rows {
		s.Ops = append(s.Ops, r.op)
		if got := x.play(r.op); !sample.SameAnswer(got, r.want) {
			t.Errorf("step %d, %+v: %v, want %v", i+1, r.op, got, r.want)
		}
	}
	x.check()
	for i, got := range cart.Run[api.Facts, engine.Tomb](s) {
		if !sample.SameAnswer(got, rows[i].want) {
			t.Errorf("Run, step %d: %v, want %v", i+1, got, rows[i].want)
		}
	}
	if got := cart.Run[api.Swot, engine.Swot](s); len(got) != len(rows) {
		t.Errorf("Run answers %d steps of %d", len(got), len(rows))
	}
}

func TestChapterExamples(t *testing.T) { // P25.1
	play(t, api.Header{Reps: 2, Carts: 1, Lines: 2, Count: 3, Log: 8, Tokens: 1}, []row{
		{api.Op{Kind: api.OpSet, Sku: "A", Qty: 5}, api.Answer{}},
		{api.Op{Kind: api.OpAdd, Sku: "A", Qty: 2}, api.Answer{}},
		{api.Op{Kind: api.OpRead}, readAnswer(1, line("A", 7, 1))},
		{api.Op{Kind: api.OpAdd, Sku: "A", Qty: 1}, api.Answer{}},
		{api.Op{Kind: api.OpAdd, Sku: "A", Qty: 1}, refusal(api.ErrCount)},

		{api.Op{Kind: api.OpSync, Rep: 0, To: 1}, api.Answer{Msg: 1}},
		{api.Op{Kind: api.OpRemoveTo, Rep: 1, Sku: "A", Num: 1}, api.Answer{}},
		{api.Op{Kind: api.OpDeliver, Num: 1}, api.Answer{Msg: 2}},
		{api.Op{Kind: api.OpRead, Rep: 1}, readAnswer(2, line("A", 8, 1))},

		{api.Op{Kind: api.OpRemoveTo, Rep: 0, Sku: "A", Num: 1}, refusal(api.ErrToken)},
		{api.Op{Kind: api.OpClearTo, Rep: 0, Num: 2}, api.Answer{}},
		{api.Op{Kind: api.OpRead}, readAnswer(3)},

		{api.Op{Kind: api.OpSet, Rep: 1, Sku: "B", Qty: 1}, api.Answer{}},
		{api.Op{Kind: api.OpSet, Rep: 1, Sku: "C", Qty: 1}, refusal(api.ErrFull)},
		{api.Op{Kind: api.OpSet, Rep: 1, Sku: "D", Qty: 1}, refusal(api.ErrFull)},

		{api.Op{Kind: api.OpRead, Rep: 0, Cart: 1}, refusal(api.ErrCart)},
		{api.Op{Kind: api.OpRead, Rep: 2, Cart: 1}, refusal(api.ErrRep)},
		{api.Op{Kind: 0}, refusal(api.ErrKind)},
		{api.Op{Kind: 17}, refusal(api.ErrKind)},
		{api.Op{Kind: api.OpTrim, Num: 2, Qty: 0}, refusal(api.ErrArg)},
		{api.Op{Kind: api.OpDeliver, Num: 9}, refusal(api.ErrMsg)},
	})
}

func head() api.Header {
	return api.Header{Reps: 2, Carts: 1, Lines: 10, Count: 100, Log: 8, Tokens: 4}
}

func set(rep int, sku string, qty int) api.Op {
	return api.Op{Kind: api.OpSet, Rep: rep, Sku: sku, Qty: qty}
}

func read(rep int) api.Op { return api.Op{Kind: api.OpRead, Rep: rep} }

func sync(from, to int) api.Op { return api.Op{Kind: api.OpSync, Rep: from, To: to} }

func deliver(n int) api.Op { return api.Op{Kind: api.OpDeliver, Num: n} }

// The document's examples of the whole, 1 to 9, as steps; 10 is layer 26's.
func TestExamplesOfTheWhole(t *testing.T) { // P25.1, P2, P3, P11
	ok := api.Answer{}
	play(t, head(), []row{{set(0, "TEA-1", 5), ok}, {sync(0, 1), api.Answer{Msg: 1}}, {deliver(1), api.Answer{Msg: 2}}, {read(1), readAnswer(1, line("TEA-1", 5, 1))}})
	play(t, head(), []row{{set(0, "TEA-1", 5), ok}, {set(1, "TEA-1", 3), ok}, {sync(0, 1), api.Answer{Msg: 1}}, {deliver(1), api.Answer{Msg: 2}}, {read(1), readAnswer(1, line("TEA-1", 8, 2))}})
	play(t, api.Header{Reps: 1, Carts: 1, Lines: 10, Count: 100, Log: 8, Tokens: 4}, []row{{set(0, "A", 5), ok}, {api.Op{Kind: api.OpAdd, Sku: "A", Qty: 2}, ok}, {read(0), readAnswer(1, line("A", 7, 1))}})
	play(t, head(), []row{
		{set(0, "A", 5), ok}, {sync(0, 1), api.Answer{Msg: 1}}, {deliver(1), api.Answer{Msg: 2}}, {api.Op{Kind: api.OpAdd, Rep: 1, Sku: "A", Qty: 2}, ok}, {api.Op{Kind: api.OpRemove, Sku: "A"}, ok},
		{sync(0, 1), api.Answer{Msg: 3}}, {deliver(3), api.Answer{Msg: 4}}, {sync(1, 0), api.Answer{Msg: 5}}, {deliver(5), api.Answer{Msg: 6}}, {read(0), readAnswer(1, line("A", 2, 1))}, {read(1), readAnswer(2, line("A", 2, 1))},
	})
	play(t, head(), []row{{set(0, "A", 5), ok}, {read(0), readAnswer(1, line("A", 5, 1))}, {api.Op{Kind: api.OpRemoveTo, Rep: 1, Sku: "A", Num: 1}, ok}, {sync(0, 1), api.Answer{Msg: 1}}, {deliver(1), api.Answer{Msg: 2}}, {read(1), readAnswer(2)}})
	play(t, head(), []row{{set(0, "A", 1), ok}, {set(0, "B", 2), ok}, {api.Op{Kind: api.OpPush, To: 1}, api.Answer{Msg: 1}}, {deliver(1), ok}, {read(1), readAnswer(1, line("B", 2, 1))}})
	play(t, api.Header{Reps: 2, Carts: 1, Lines: 1, Count: 1, Log: 8, Tokens: 4}, []row{
		{set(0, "tea", 5), refusal(api.ErrSku)}, {set(0, "A", 0), refusal(api.ErrQty)}, {set(2, "A", 1), refusal(api.ErrRep)}, {api.Op{Kind: api.OpSet, Cart: 1, Sku: "A", Qty: 1}, refusal(api.ErrCart)}, {set(0, "A", 1), ok},
		{api.Op{Kind: api.OpAdd, Sku: "A", Qty: 1000000}, refusal(api.ErrOver)}, {set(0, "B", 1), refusal(api.ErrFull)}, {set(0, "A", 2), refusal(api.ErrCount)}, {api.Op{Kind: api.OpRemove, Sku: "B"}, refusal(api.ErrAbsent)}, {deliver(9), refusal(api.ErrMsg)},
		{api.Op{Kind: api.OpRemoveTo, Sku: "A", Num: 1}, refusal(api.ErrToken)}, {sync(0, 0), refusal(api.ErrSelf)}, {api.Op{Kind: api.OpPush, To: 1, Num: 5}, refusal(api.ErrArg)}, {api.Op{Kind: 99}, refusal(api.ErrKind)},
	})
	play(t, head(), []row{{set(0, "A", 5), ok}, {sync(0, 1), api.Answer{Msg: 1}}, {api.Op{Kind: api.OpTrim, Num: 1, Qty: 1}, ok}, {deliver(1), refusal(api.ErrBad)}, {read(1), readAnswer(1)}})
	play(t, head(), []row{{set(0, "A", 5), ok}, {api.Op{Kind: api.OpAsk, Rep: 1, To: 0}, api.Answer{Msg: 1}}, {deliver(1), api.Answer{Msg: 2}}, {deliver(2), ok}, {read(1), readAnswer(1, line("A", 5, 1))}})
}

package node_test

import (
	"slices"
	"testing"

	"barrow/api"
	"barrow/engine"
	"barrow/mail"
	"barrow/node"
)

// A talk is the two replicas of the chapter's examples.
type talk[S any, E engine.Engine[S]] struct {
	*testing.T
	zero, one *node.Node[S, E]
}

func (x talk[S, E]) act(cart int, a api.Act, did bool, want api.Errno) {
	x.Helper()
	if got, err := x.zero.Act(cart, a); got != did || err != want {
		x.Errorf("Act(%d, %v) = %t, %d", cart, a, got, err)
	}
}

func (x talk[S, E]) set(sku string, qty int) {
	x.Helper()
	x.act(0, api.Act{Kind: api.ActSet, Sku: sku, Qty: qty}, true, api.OK)
}

// isMail: is it such a mail? It answers the bytes.
func (x talk[S, E]) isMail(b []byte, err api.Errno, want api.Mail, carts ...int) []byte {
	x.Helper()
	m, bad := mail.Get(b)
	if err != api.OK || bad != api.OK || !slices.Equal(mail.Carts(m), carts) {
		x.Errorf("%x, %d is the mail %v, want carts %v", b, err, m, carts)
	}
	if m.Kind != want.Kind || m.From != want.From || m.To != want.To || m.Lo != want.Lo || m.Hi != want.Hi {
		x.Errorf("the mail %v, want %v", m, want)
	}
	return b
}

func (x talk[S, E]) sync(want api.Mail, carts ...int) []byte {
	x.Helper()
	b, err := x.zero.Sync(1, false)
	want.To = 1
	return x.isMail(b, err, want, carts...)
}

func (x talk[S, E]) logIs(first, next int) {
	x.Helper()
	if x.zero.First() != first || x.zero.Next() != next {
		x.Errorf("First %d, Next %d, want %d, %d", x.zero.First(), x.zero.Next(), first, next)
	}
}

// acked: replica 1 takes the mail and acknowledges so far.
func (x talk[S, E]) acked(b []byte, hi int) {
	x.Helper()
	ack, to, err := x.one.Deliver(b)
	x.isMail(ack, err, api.Mail{Kind: api.MailAck, From: 1, Hi: hi})
	none, nobody, err := x.zero.Deliver(ack)
	if n, e := x.zero.Acked(1); to != 0 || len(none) != 0 || nobody != 0 || err != api.OK || n != hi || e != api.OK {
		x.Errorf("the ack to %d: %x, %d, %d; Acked %d, %d", to, none, nobody, err, n, e)
	}
}

func checkExamples[S any, E engine.Engine[S]](t *testing.T) {
	t.Helper()
	h := api.Header{Reps: 2, Carts: 2, Lines: 10, Count: 100, Log: 2, Tokens: 0}
	x := talk[S, E]{t, right(node.New[S, E](h, 0)), right(node.New[S, E](h, 1))}

	x.set("A", 5)
	x.logIs(0, 1)
	x.act(0, api.Act{Kind: api.ActRemove, Sku: "B"}, false, api.ErrAbsent)
	x.act(1, api.Act{Kind: api.ActClear}, false, api.OK)
	x.act(2, api.Act{Kind: api.ActClear}, false, api.ErrCart)
	if got := x.zero.Touched(); !slices.Equal(got, []int{0}) {
		t.Errorf("Touched = %v", got)
	}

	delta := x.sync(api.Mail{Kind: api.MailDelta, Lo: 0, Hi: 1}, 0)
	x.acked(delta, 1)
	x.acked(x.sync(api.Mail{Kind: api.MailDelta, Lo: 1, Hi: 1}), 1)
	if x.one.First() != 0 || x.one.Next() != 1 {
		t.Errorf("replica 1's log: %d to %d", x.one.First(), x.one.Next())
	}

	x.set("B", 1)
	x.set("C", 1)
	x.logIs(1, 3)
	x.sync(api.Mail{Kind: api.MailDelta, Lo: 1, Hi: 3}, 0)
	x.set("D", 1)
	x.logIs(2, 4)
	full := x.sync(api.Mail{Kind: api.MailFull, Lo: 0, Hi: 4}, 0)

	for back, lo := range []int{3, 2} {
		b, err := x.zero.Push(1, back)
		x.isMail(b, err, api.Mail{Kind: api.MailPush, To: 1, Lo: lo, Hi: lo + 1}, 0)
	}
	if b, err := x.zero.Push(1, 2); b != nil || err != api.ErrArg {
		t.Errorf("Push(1, 2) = %x, %d", b, err)
	}

	b, err := x.one.Ask(0)
	x.isMail(b, err, api.Mail{Kind: api.MailAsk, From: 1}, 0)
	b, to, err := x.zero.Deliver(b)
	if x.isMail(b, err, api.Mail{Kind: api.MailReply, To: 1}, 0); to != 1 {
		t.Errorf("the reply goes to %d", to)
	}

	far := right(mail.Put(api.Mail{Kind: api.MailAck, From: 1, Hi: 5}))
	for _, b := range [][]byte{full, full[:len(full)/2], far} {
		if got, to, err := x.zero.Deliver(b); got != nil || to != 0 || err != api.ErrBad {
			t.Errorf("Deliver(%x) = %x, %d, %d", b, got, to, err)
		}
	}
}

func TestExamples(t *testing.T) { // P20.1
	checkExamples[api.Facts, engine.Tomb](t)
	checkExamples[api.Swot, engine.Swot](t)
}

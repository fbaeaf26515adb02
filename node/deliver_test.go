package node_test

import (
	"bytes"
	"math/rand/v2"
	"slices"
	"testing"

	"barrow/api"
	"barrow/codec"
	"barrow/digest"
	"barrow/engine"
	"barrow/mail"
	"barrow/node"
	"barrow/sample"
)

// A pair is a replica and the slow one that it is held against.
type pair[S any, E engine.Engine[S]] struct {
	k kind[S]
	n *node.Node[S, E]
	s *slow[S]
}

func newPair[S any, E engine.Engine[S]](k kind[S], h api.Header, d node.Durable[S]) pair[S, E] {
	return pair[S, E]{k, right(node.Load[S, E](h, d)), newSlow(ofEngine[S, E](), h, d)}
}

// deliver holds the answers against each other; it answers the error.
func (p pair[S, E]) deliver(t *testing.T, b []byte) api.Errno {
	t.Helper()
	got, to, err := p.n.Deliver(b)
	answer, has, wantErr := p.s.deliver(parsed[S, E](b))
	var want []byte
	wantTo := 0
	if has {
		want, wantTo = written[S, E](answer), answer.to
	}
	if !bytes.Equal(got, want) || to != wantTo || err != wantErr {
		t.Fatalf("%s: Deliver(%x) = %x, %d, %d, want %x, %d, %d", p.k.name, b, got, to, err, want, wantTo, wantErr)
	}
	return err
}

func (p pair[S, E]) check(t *testing.T) {
	t.Helper()
	if err := isTold(p.k, p.n, p.s); err != nil {
		t.Fatal(err)
	}
	if err := isSent(p.k, p.n, p.s); err != nil {
		t.Fatal(err)
	}
}

// all: everything that the replica tells, and would send, as a text.
func (p pair[S, E]) all() string {
	text := facts(p.n, p.s.h)
	for to := range p.s.h.Reps {
		for _, full := range []bool{false, true} {
			b, _ := p.n.Sync(to, full)
			text += string(b)
		}
		b, _ := p.n.Ask(to)
		text += string(b)
		for back := range p.s.h.Log + 1 {
			b, _ := p.n.Push(to, back)
			text += string(b)
		}
	}
	return text
}

// A forger writes mails that no replica has made: with states of all kinds, that clash or don't, with digests, with junk.
type forger[S any] struct {
	dice   *rand.Rand
	states []S
	pack   func(s S) ([]byte, api.Errno)
	others [][]byte // bodies that aren't a state's bytes
	tells  []api.Digest
}

func newForger[S any, E engine.Engine[S]](k kind[S], states []S) forger[S] {
	dice := newDice()
	var e E
	b := right(e.Pack(states[0]))
	f := right(codec.PutFacts(sample.Facts(dice.IntN, 1)[0]))
	s := right(codec.PutSwot(sample.Swots(dice.IntN, 1)[0]))
	others := [][]byte{nil, {}, {0}, {1}, {2}, {9, 9, 9}, b[:len(b)-1], append(slices.Clone(b), 0), append(slices.Clone(f), 1), s[:len(s)-1], right(digest.Put(api.Digest{}))}
	if k.name == "Tomb" {
		others = append(others, right(codec.PutSwot(api.Swot{})), s)
	} else {
		others = append(others, right(codec.PutFacts(api.Facts{})), f)
	}
	return forger[S]{dice, states, e.Pack, others, sample.Digests(dice.IntN, 40)}
}

func (f forger[S]) body(kind int) []byte {
	if f.dice.IntN(25) == 0 {
		return f.others[f.dice.IntN(len(f.others))]
	}
	if (kind == api.MailAsk) != (f.dice.IntN(40) == 0) {
		return right(digest.Put(f.tells[f.dice.IntN(len(f.tells))]))
	}
	return right(f.pack(f.states[f.dice.IntN(len(f.states))]))
}

// mail: mostly one for replica 1 of a store of three with the carts 0 to 3.
func (f forger[S]) mail(next int) []byte {
	m := api.Mail{Kind: 1 + f.dice.IntN(6), From: 2 * f.dice.IntN(2), To: 1}
	switch m.Kind {
	case api.MailDelta:
		m.Lo = f.dice.IntN(5)
		m.Hi = m.Lo + f.dice.IntN(3)
	case api.MailFull:
		m.Hi = f.dice.IntN(9)
	case api.MailAck:
		m.Hi = max(0, next-2+f.dice.IntN(4))
	case api.MailPush:
		m.Lo = f.dice.IntN(5)
		m.Hi = m.Lo + 1
	}
	if m.Kind != api.MailAck {
		for cart := range 4 {
			if f.dice.IntN(4) == 0 {
				m.Parts = append(m.Parts, api.Part{Cart: cart, Body: f.body(m.Kind)})
			}
		}
	}
	switch f.dice.IntN(20) {
	case 0:
		m.To = []int{0, 3, 15}[f.dice.IntN(3)]
	case 1:
		m.From = []int{3, 15}[f.dice.IntN(2)]
	case 2:
		m.Parts = append(m.Parts, api.Part{Cart: []int{4, 5, 63}[f.dice.IntN(3)], Body: f.body(m.Kind)})
	}
	b, err := mail.Put(m)
	if err != api.OK {
		return nil
	}
	return b
}

// checkForged: whatever comes, the answers are the chapter's; and what is refused changes nothing.
func checkForged[S any, E engine.Engine[S]](t *testing.T, k kind[S], states []S) {
	t.Helper()
	f := newForger[S, E](k, states)
	count := map[api.Errno]int{}
	for round := range 28 {
		h := api.Header{Reps: 3, Carts: 4, Lines: 5, Count: api.MaxNum, Log: round % 7}
		p := newPair[S, E](k, h, node.Durable[S]{Self: 1, Next: 4})
		ahead := p.all()
		for i := range 40 {
			err := p.deliver(t, f.mail(p.s.Next()))
			behind := p.all()
			if err != api.OK && behind != ahead {
				t.Fatalf("%s: a delivery was refused, and ahead of it was %q, behind it %q", k.name, ahead, behind)
			}
			ahead = behind
			count[err]++
			if i%10 == 0 {
				p.check(t)
			}
		}
		p.check(t)
	}
	if count[api.OK] < 300 || count[api.ErrBad] < 100 {
		t.Errorf("%s: the deliveries answer %v", k.name, count)
	}
}

func TestForgedMails(t *testing.T) { // P20.1, P20.6
	checkForged[api.Facts, engine.Tomb](t, tombs(), sample.AlikeFacts(newDice().IntN, 50))
	checkForged[api.Swot, engine.Swot](t, swots(), sample.AlikeSwots(newDice().IntN, 50))
}

// Of a dot that has two contents, the first that came stays; the mail that brings the other is refused whole, where they clash.
func TestForgedMailsThatClash(t *testing.T) { // P20.1, P20.6
	checkForged[api.Facts, engine.Tomb](t, tombs(), sample.Facts(newDice().IntN, 100))
	checkForged[api.Swot, engine.Swot](t, swots(), sample.Swots(newDice().IntN, 100))
}

// checkPrefixes: no beginning of a message is taken, nor is one with a byte behind it.
func checkPrefixes[S any, E engine.Engine[S]](t *testing.T, k kind[S]) {
	t.Helper()
	f := newForger[S, E](k, k.alike(newDice().IntN, 20))
	h := api.Header{Reps: 3, Carts: 4, Lines: 5, Count: 100, Log: 4}
	p := newPair[S, E](k, h, node.Durable[S]{Self: 1, Next: 4, Carts: []node.Held[S]{{Cart: 2, State: f.states[0]}}})
	p.n.Act(1, api.Act{Kind: api.ActSet, Sku: "Q", Qty: 5})
	p.s.Act(1, api.Act{Kind: api.ActSet, Sku: "Q", Qty: 5})
	ahead := p.all()
	for range 60 {
		b := f.mail(p.s.Next())
		for end := range len(b) {
			if got, to, err := p.n.Deliver(b[:end]); got != nil || to != 0 || err != api.ErrBad {
				t.Fatalf("%s: Deliver(%x) = %x, %d, %d", k.name, b[:end], got, to, err)
			}
		}
		for c := range 3 {
			if _, _, err := p.n.Deliver(append(slices.Clone(b), byte(c))); err != api.ErrBad {
				t.Fatalf("%s: %x and a byte more: %d", k.name, b, err)
			}
		}
	}
	if p.all() != ahead {
		t.Errorf("%s: what was refused changes it: %q, %q", k.name, ahead, p.all())
	}
	p.check(t)
}

func TestATrimmedMessageIsRefused(t *testing.T) { // P8, P20.6
	checkPrefixes[api.Facts, engine.Tomb](t, tombs())
	checkPrefixes[api.Swot, engine.Swot](t, swots())
}

// checkLastPart: the last part spoils a mail, and nothing of the parts ahead of it is kept.
func checkLastPart[S any, E engine.Engine[S]](t *testing.T, k kind[S]) {
	t.Helper()
	var e E
	a, b := k.of(api.Facts{Adds: []api.Entry{sample.Entry(0, 1, "A", 5)}}), k.of(api.Facts{Adds: []api.Entry{sample.Entry(0, 1, "A", 6)}})
	h := api.Header{Reps: 3, Carts: 4, Lines: 5, Count: 100, Log: 4}
	for _, kind := range []int{api.MailDelta, api.MailFull, api.MailReply, api.MailPush} {
		p := newPair[S, E](k, h, node.Durable[S]{Self: 1, Next: 4, Carts: []node.Held[S]{{Cart: 3, State: a}}})
		ahead := p.all()
		for _, body := range [][]byte{right(e.Pack(b)), nil, {9}} {
			m := api.Mail{Kind: kind, From: 0, To: 1, Parts: []api.Part{{Cart: 0, Body: right(e.Pack(b))}, {Cart: 2, Body: right(e.Pack(a))}, {Cart: 3, Body: body}}}
			if kind == api.MailPush {
				m.Hi = 1
			}
			if err := p.deliver(t, right(mail.Put(m))); err != api.ErrBad || p.all() != ahead {
				t.Errorf("%s: Deliver(%v): %d, %q, want %q", k.name, m, err, p.all(), ahead)
			}
		}
		p.check(t)
	}
}

func TestADeliveryIsAllOrNothing(t *testing.T) { // P20.1, P20.6
	checkLastPart[api.Facts, engine.Tomb](t, tombs())
	checkLastPart[api.Swot, engine.Swot](t, swots())
}

// Over compact states a dot that is gone may come again with other contents, and clashes with nothing here; with the item that first brought it it does, so that a delta of both can't be.
func TestItemsThatClashAreSentAsAFullMail(t *testing.T) { // P20.1
	h := api.Header{Reps: 3, Carts: 2, Lines: 5, Count: 100, Log: 4}
	p := newPair[api.Swot, engine.Swot](swots(), h, node.Durable[api.Swot]{Self: 1})
	send := func(lo int, f api.Facts) {
		t.Helper()
		body := right(codec.PutSwot(sample.State(f)))
		if err := p.deliver(t, right(mail.Put(api.Mail{Kind: api.MailPush, From: 0, To: 1, Lo: lo, Hi: lo + 1, Parts: []api.Part{{Cart: 1, Body: body}}}))); err != api.OK {
			t.Fatalf("Deliver: %d", err)
		}
	}
	isKind := func(want, lo, hi int) {
		t.Helper()
		if m := right(mail.Get(right(p.n.Sync(2, false)))); m.Kind != want || m.Lo != lo || m.Hi != hi {
			t.Errorf("a sync of kind %d, %d to %d; want %d, %d to %d", m.Kind, m.Lo, m.Hi, want, lo, hi)
		}
		p.check(t)
	}
	send(0, api.Facts{Adds: []api.Entry{sample.Entry(0, 1, "A", 5)}})
	send(1, api.Facts{Gone: sample.Past([]int{1})})
	isKind(api.MailDelta, 0, 2)
	send(2, api.Facts{Adds: []api.Entry{sample.Entry(0, 1, "A", 6)}})
	isKind(api.MailFull, 0, 3)
	if live := right(p.n.Live(1)); len(live) > 0 {
		t.Errorf("live: %v", live)
	}
	p.deliver(t, right(mail.Put(api.Mail{Kind: api.MailAck, From: 2, To: 1, Hi: 1})))
	isKind(api.MailDelta, 1, 3)
}

// checkEnd: where the items' numbers end.
func checkEnd[S any, E engine.Engine[S]](t *testing.T, k kind[S]) {
	t.Helper()
	var e E
	body := right(e.Pack(k.of(api.Facts{Adds: []api.Entry{sample.Entry(0, 1, "A", 5)}})))
	set, empty := api.Act{Kind: api.ActSet, Sku: "A", Qty: 5}, api.Act{Kind: api.ActClear}
	for _, next := range []int{api.MaxSeq - 2, api.MaxSeq - 1, api.MaxSeq} {
		for kind := api.MailDelta; kind <= api.MailPush; kind++ {
			p := newPair[S, E](k, api.Header{Reps: 3, Carts: 2, Lines: 5, Count: 100, Log: 1}, node.Durable[S]{Self: 1, Next: next})
			m := api.Mail{Kind: kind, From: 0, To: 1}
			switch kind {
			case api.MailPush:
				m.Lo, m.Hi = api.MaxSeq-1, api.MaxSeq
			case api.MailAck, api.MailFull:
				m.Hi = next
			}
			for range 3 {
				p.deliver(t, right(mail.Put(m)))
				p.check(t)
				if kind != api.MailAsk && kind != api.MailAck {
					m.Parts = []api.Part{{Cart: 1, Body: body}}
				}
			}
			for _, a := range []api.Act{empty, set, {Kind: 9}, set, empty, set} {
				did, err := p.n.Act(0, a)
				if want, wantErr := p.s.Act(0, a); did != want || err != wantErr {
					t.Errorf("%s: Next %d: Act(%v) = %t, %d, want %t, %d", k.name, next, a, did, err, want, wantErr)
				}
				p.check(t)
			}
			if p.n.Next() != api.MaxSeq {
				t.Errorf("%s: Next %d, and then %d", k.name, next, p.n.Next())
			}
		}
	}
}

func TestTheEndOfTheItemsNumbers(t *testing.T) { // P20.1, P20.6
	checkEnd[api.Facts, engine.Tomb](t, tombs())
	checkEnd[api.Swot, engine.Swot](t, swots())
}

// A mail without parts is not logged, and touches nothing; one with an empty state is, and does.
func TestMailsWithoutParts(t *testing.T) { // P20.1
	h := api.Header{Reps: 3, Carts: 2, Lines: 5, Count: 100, Log: 4}
	p := newPair[api.Swot, engine.Swot](swots(), h, node.Durable[api.Swot]{Self: 1})
	for kind := api.MailDelta; kind <= api.MailPush; kind++ {
		m := api.Mail{Kind: kind, From: 2, To: 1}
		if kind == api.MailPush {
			m.Hi = 1
		}
		if err := p.deliver(t, right(mail.Put(m))); err != api.OK || p.n.Next() != 0 || len(p.n.Touched()) != 0 {
			t.Errorf("Deliver(%v): %d, Next %d, touched %v", m, err, p.n.Next(), p.n.Touched())
		}
	}
	body := right(codec.PutSwot(api.Swot{}))
	p.deliver(t, right(mail.Put(api.Mail{Kind: api.MailReply, From: 2, To: 1, Parts: []api.Part{{Cart: 1, Body: body}}})))
	if p.n.Next() != 1 || !slices.Equal(p.n.Touched(), []int{1}) {
		t.Errorf("Next %d, touched %v", p.n.Next(), p.n.Touched())
	}
	p.check(t)
}

// The item of a reply holds the whole states: what another lacks isn't what this one lacked.
func TestTheItemOfAReply(t *testing.T) { // P20.1
	h := api.Header{Reps: 3, Carts: 2, Lines: 5, Count: 100, Log: 4}
	p := newPair[api.Swot, engine.Swot](swots(), h, node.Durable[api.Swot]{Self: 1})
	for _, sku := range []string{"A", "B"} {
		p.n.Act(0, api.Act{Kind: api.ActSet, Sku: sku, Qty: 1})
		p.s.Act(0, api.Act{Kind: api.ActSet, Sku: sku, Qty: 1})
	}
	body := right(codec.PutSwot(sample.State(api.Facts{Adds: []api.Entry{sample.Entry(0, 1, "C", 5)}})))
	for _, c := range []struct{ kind, live int }{{api.MailFull, 1}, {api.MailReply, 3}, {api.MailDelta, 1}} {
		p.deliver(t, right(mail.Put(api.Mail{Kind: c.kind, From: 0, To: 1, Parts: []api.Part{{Cart: 0, Body: body}}})))
		m := right(mail.Get(right(p.n.Push(2, 0))))
		if s := right(codec.GetSwot(m.Parts[0].Body)); len(s.Live) != c.live {
			t.Errorf("the item of a mail of kind %d holds %v", c.kind, s)
		}
		p.check(t)
	}
}

// An ack moves nothing but the peer's number: the log keeps its items.
func TestAcks(t *testing.T) { // P20.1
	h := api.Header{Reps: 3, Carts: 2, Lines: 5, Count: 100, Log: 4}
	p := newPair[api.Facts, engine.Tomb](tombs(), h, node.Durable[api.Facts]{Self: 1})
	for range 3 {
		p.n.Act(0, api.Act{Kind: api.ActSet, Sku: "A", Qty: 1})
		p.s.Act(0, api.Act{Kind: api.ActSet, Sku: "A", Qty: 1})
	}
	for _, c := range []struct {
		hi, want int
		err      api.Errno
	}{{2, 2, api.OK}, {1, 2, api.OK}, {0, 2, api.OK}, {4, 2, api.ErrBad}, {3, 3, api.OK}, {api.MaxSeq, 3, api.ErrBad}, {2, 3, api.OK}} {
		if err := p.deliver(t, right(mail.Put(api.Mail{Kind: api.MailAck, From: 2, To: 1, Hi: c.hi}))); err != c.err {
			t.Errorf("the ack %d: %d", c.hi, err)
		}
		if n := right(p.n.Acked(2)); n != c.want || p.n.First() != 0 || p.n.Next() != 3 {
			t.Errorf("behind the ack %d: Acked %d, First %d, Next %d", c.hi, n, p.n.First(), p.n.Next())
		}
		p.check(t)
	}
}

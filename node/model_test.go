package node_test

import (
	"bytes"
	"fmt"
	"maps"
	"math/rand/v2"
	"slices"

	"barrow/act"
	"barrow/api"
	"barrow/digest"
	"barrow/engine"
	"barrow/keep"
	"barrow/lines"
	"barrow/mail"
	"barrow/node"
	"barrow/past"
	"barrow/sample"
)

// An algebra is what the slow replica needs of a kind of state.
type algebra[S any] struct {
	event  func(f api.Facts) S
	join   func(a, b S) (S, api.Errno)
	fold   func(list []S) (S, api.Errno)
	live   func(s S) []api.Entry
	past   func(s S) api.Past
	digest func(s S) api.Digest
	lack   func(s S, d api.Digest) S
}

// right: the answer of a call that must not fail.
func right[T any](answer T, err api.Errno) T {
	if err != api.OK {
		panic(fmt.Sprint("error ", err))
	}
	return answer
}

// ofEngine: the algebra that an engine gives.
func ofEngine[S any, E engine.Engine[S]]() algebra[S] {
	var e E
	return algebra[S]{
		event:  func(f api.Facts) S { return right(e.Event(f)) },
		join:   e.Join,
		fold:   func(list []S) (S, api.Errno) { return engine.Fold[S, E](list, 3) },
		live:   func(s S) []api.Entry { return right(e.Live(s)) },
		past:   func(s S) api.Past { return right(e.Past(s)) },
		digest: func(s S) api.Digest { return right(e.Digest(s)) },
		lack:   func(s S, d api.Digest) S { return right(e.Lack(s, d)) },
	}
}

// union is what joining facts means, of any number of them at once; no two clash.
func union(list []api.Facts) api.Facts {
	var adds []api.Entry
	var pasts []api.Past
	var recs []api.Record
	for _, f := range list {
		adds, pasts, recs = append(adds, f.Adds...), append(pasts, f.Gone), append(recs, f.Recs...)
	}
	return api.Facts{Adds: right(lines.Sort(adds)), Gone: past.Join(pasts...), Recs: right(keep.Sort(recs))}
}

// ofKnowledge: the algebra of the document's 'What a replica knows': a state is the facts of all events that are known, and a reply brings all that the asked one knew.
func ofKnowledge() algebra[api.Facts] {
	return algebra[api.Facts]{
		event:  func(f api.Facts) api.Facts { return f },
		join:   func(a, b api.Facts) (api.Facts, api.Errno) { return union([]api.Facts{a, b}), api.OK },
		fold:   func(list []api.Facts) (api.Facts, api.Errno) { return union(list), api.OK },
		live:   func(f api.Facts) []api.Entry { return sample.State(f).Live },
		past:   func(f api.Facts) api.Past { return sample.State(f).Past },
		digest: func(f api.Facts) api.Digest { return api.Digest{} },
		lack:   func(f api.Facts, _ api.Digest) api.Facts { return f },
	}
}

// A letter is a mail whose bodies were never bytes.
type letter[S any] struct {
	kind, from, to, lo, hi int
	states                 []node.Held[S]
	told                   []node.Held[api.Digest] // of an ask
	spoilt                 bool                    // its bytes are no mail
}

func (l letter[S]) carts() []int {
	var list []int
	for _, c := range l.states {
		list = append(list, c.Cart)
	}
	for _, c := range l.told {
		list = append(list, c.Cart)
	}
	return list
}

// A slow replica is the chapter's words: every item that was ever logged, and all that the peers acknowledged.
type slow[S any] struct {
	al          algebra[S]
	h           api.Header
	self, start int
	items       [][]node.Held[S] // the first has the number start
	touched     map[int]S
	acked       map[int]int
}

func newSlow[S any](al algebra[S], h api.Header, d node.Durable[S]) *slow[S] {
	s := &slow[S]{al: al, h: clamped(h), self: d.Self, start: d.Next, touched: map[int]S{}, acked: map[int]int{}}
	for _, c := range d.Carts {
		s.touched[c.Cart] = c.State
	}
	return s
}

// clamped is the chapter's words on Clamp.
func clamped(h api.Header) api.Header {
	for _, f := range []struct {
		field       *int
		least, most int
	}{{&h.Reps, 1, 16}, {&h.Carts, 1, 64}, {&h.Lines, 1, 1000}, {&h.Count, 1, 1000000000}, {&h.Log, 0, 64}, {&h.Tokens, 0, 1000}} {
		if *f.field < f.least {
			*f.field = f.least
		}
		if *f.field > f.most {
			*f.field = f.most
		}
	}
	return h
}

func (s *slow[S]) durable() node.Durable[S] {
	d := node.Durable[S]{Self: s.self, Next: s.Next()}
	for _, cart := range s.Touched() {
		d.Carts = append(d.Carts, node.Held[S]{Cart: cart, State: s.touched[cart]})
	}
	return d
}

func (s *slow[S]) isCart(cart int) bool { return cart >= 0 && cart <= s.h.Carts-1 }

// state: of an untouched cart the zero value, which is the empty one.
func (s *slow[S]) state(cart int) S { return s.touched[cart] }

func (s *slow[S]) Next() int { return s.start + len(s.items) }

func (s *slow[S]) First() int { return max(s.start, s.Next()-s.h.Log) }

func (s *slow[S]) Touched() []int { return slices.Sorted(maps.Keys(s.touched)) }

func (s *slow[S]) Live(cart int) ([]api.Entry, api.Errno) {
	if !s.isCart(cart) {
		return nil, api.ErrCart
	}
	return s.al.live(s.state(cart)), api.OK
}

func (s *slow[S]) Past(cart int) (api.Past, api.Errno) {
	if !s.isCart(cart) {
		return api.Past{}, api.ErrCart
	}
	return s.al.past(s.state(cart)), api.OK
}

// Lines is the document's definition of a cart's lines.
func (s *slow[S]) Lines(cart int) ([]api.Line, api.Errno) {
	if !s.isCart(cart) {
		return nil, api.ErrCart
	}
	bySku := map[string]api.Line{}
	for _, e := range s.al.live(s.state(cart)) {
		l := bySku[e.Sku]
		bySku[e.Sku] = api.Line{Sku: e.Sku, Qty: l.Qty + e.Qty, Parts: l.Parts + 1}
	}
	var list []api.Line
	for _, sku := range slices.Sorted(maps.Keys(bySku)) {
		list = append(list, bySku[sku])
	}
	return list, api.OK
}

// asPeer: the errors of one to whom nothing can be sent.
func (s *slow[S]) asPeer(to int) api.Errno {
	if to < 0 || to > s.h.Reps-1 {
		return api.ErrRep
	}
	if to == s.self {
		return api.ErrSelf
	}
	return api.OK
}

func (s *slow[S]) Acked(peer int) (int, api.Errno) {
	if err := s.asPeer(peer); err != api.OK {
		return 0, err
	}
	return s.acked[peer], api.OK
}

func (s *slow[S]) Act(cart int, a api.Act) (bool, api.Errno) {
	if !s.isCart(cart) {
		return false, api.ErrCart
	}
	state := s.state(cart)
	f, err := act.Decide(s.al.live(state), s.al.past(state), s.self, api.Limits{Lines: s.h.Lines, Count: s.h.Count}, a)
	if err != api.OK {
		return false, err
	}
	if len(f.Adds) == 0 && len(f.Recs) == 0 && past.Empty(f.Gone) {
		return false, api.OK
	}
	if s.Next() == 1<<62 {
		return false, api.ErrCount
	}
	s.touched[cart] = right(s.al.join(state, s.al.event(f)))
	s.items = append(s.items, []node.Held[S]{{Cart: cart, State: s.al.event(f)}})
	return true, api.OK
}

// delta: false, if the states of a cart clash.
func (s *slow[S]) delta(to, lo int) (letter[S], bool) {
	l := letter[S]{kind: 1, from: s.self, to: to, lo: lo, hi: s.Next()}
	for cart := range 64 {
		var states []S
		for _, item := range s.items[lo-s.start:] {
			for _, c := range item {
				if c.Cart == cart {
					states = append(states, c.State)
				}
			}
		}
		if len(states) == 0 {
			continue
		}
		state, err := s.al.fold(states)
		if err != api.OK {
			return letter[S]{}, false
		}
		l.states = append(l.states, node.Held[S]{Cart: cart, State: state})
	}
	return l, true
}

func (s *slow[S]) sync(to int, full bool) (letter[S], api.Errno) {
	if err := s.asPeer(to); err != api.OK {
		return letter[S]{}, err
	}
	if a := s.acked[to]; !full && s.First() <= a && a <= s.Next() {
		if l, ok := s.delta(to, a); ok {
			return l, api.OK
		}
	}
	return letter[S]{kind: 2, from: s.self, to: to, hi: s.Next(), states: s.durable().Carts}, api.OK
}

func (s *slow[S]) ask(to int) (letter[S], api.Errno) {
	if err := s.asPeer(to); err != api.OK {
		return letter[S]{}, err
	}
	l := letter[S]{kind: 4, from: s.self, to: to}
	for _, c := range s.durable().Carts {
		l.told = append(l.told, node.Held[api.Digest]{Cart: c.Cart, State: s.al.digest(c.State)})
	}
	return l, api.OK
}

func (s *slow[S]) push(to, back int) (letter[S], api.Errno) {
	if err := s.asPeer(to); err != api.OK {
		return letter[S]{}, err
	}
	if back < 0 || back >= s.Next()-s.First() {
		return letter[S]{}, api.ErrArg
	}
	lo := s.Next() - 1 - back
	return letter[S]{kind: 6, from: s.self, to: to, lo: lo, hi: lo + 1, states: s.items[lo-s.start]}, api.OK
}

// isBad: is the letter refused, whatever is in its parts?
func (s *slow[S]) isBad(l letter[S]) bool {
	if l.spoilt || l.to != s.self || l.from < 0 || l.from > s.h.Reps-1 {
		return true
	}
	return slices.ContainsFunc(l.carts(), func(cart int) bool { return !s.isCart(cart) })
}

// deliver: the answer, if there is one.
func (s *slow[S]) deliver(l letter[S]) (letter[S], bool, api.Errno) {
	if s.isBad(l) {
		return letter[S]{}, false, api.ErrBad
	}
	switch l.kind {
	case 3:
		if l.hi > s.Next() {
			return letter[S]{}, false, api.ErrBad
		}
		s.acked[l.from] = max(s.acked[l.from], l.hi)
		return letter[S]{}, false, api.OK
	case 4:
		return s.reply(l), true, api.OK
	}
	if !s.take(l) {
		return letter[S]{}, false, api.ErrBad
	}
	if l.kind == 1 || l.kind == 2 {
		return letter[S]{kind: 3, from: s.self, to: l.from, hi: l.hi}, true, api.OK
	}
	return letter[S]{}, false, api.OK
}

func (s *slow[S]) reply(ask letter[S]) letter[S] {
	l := letter[S]{kind: 5, from: s.self, to: ask.from}
	for cart := range 64 {
		var told api.Digest
		_, here := s.touched[cart]
		for _, c := range ask.told {
			if c.Cart == cart {
				told, here = c.State, true
			}
		}
		if here {
			l.states = append(l.states, node.Held[S]{Cart: cart, State: s.al.lack(s.state(cart), told)})
		}
	}
	return l
}

// take: false, if the letter is refused.
func (s *slow[S]) take(l letter[S]) bool {
	var behind []node.Held[S]
	for _, c := range l.states {
		state, err := s.al.join(s.state(c.Cart), c.State)
		if err != api.OK {
			return false
		}
		behind = append(behind, node.Held[S]{Cart: c.Cart, State: state})
	}
	if len(behind) > 0 && s.Next() == 1<<62 {
		return false
	}
	for _, c := range behind {
		s.touched[c.Cart] = c.State
	}
	if l.kind == 5 && len(behind) > 0 {
		s.items = append(s.items, behind)
	} else if len(behind) > 0 {
		s.items = append(s.items, l.states)
	}
	return true
}

// restart: a replica of what was kept.
func (s *slow[S]) restart() *slow[S] { return newSlow(s.al, s.h, s.durable()) }

// written: the letter's bytes.
func written[S any, E engine.Engine[S]](l letter[S]) []byte {
	var e E
	m := api.Mail{Kind: l.kind, From: l.from, To: l.to, Lo: l.lo, Hi: l.hi}
	for _, c := range l.states {
		m.Parts = append(m.Parts, api.Part{Cart: c.Cart, Body: right(e.Pack(c.State))})
	}
	for _, c := range l.told {
		m.Parts = append(m.Parts, api.Part{Cart: c.Cart, Body: right(digest.Put(c.State))})
	}
	return right(mail.Put(m))
}

// parsed: the letter of any bytes.
func parsed[S any, E engine.Engine[S]](b []byte) letter[S] {
	var e E
	m, err := mail.Get(b)
	l := letter[S]{kind: m.Kind, from: m.From, to: m.To, lo: m.Lo, hi: m.Hi, spoilt: err != api.OK}
	for _, p := range m.Parts {
		if m.Kind == api.MailAsk {
			d, err := digest.Get(p.Body)
			l.told = append(l.told, node.Held[api.Digest]{Cart: p.Cart, State: d})
			l.spoilt = l.spoilt || err != api.OK
			continue
		}
		s, err := e.Unpack(p.Body)
		l.states = append(l.states, node.Held[S]{Cart: p.Cart, State: s})
		l.spoilt = l.spoilt || err != api.OK
	}
	return l
}

// A kind is a kind of states as the tests see it.
type kind[S any] struct {
	name  string
	same  func(a, b S) bool
	of    func(f api.Facts) S // the state of facts
	dense func(s S) api.Swot  // the compact state of it
	alike func(roll sample.Roll, count int) []S
	mixed func(roll sample.Roll, count int) []S
	wrong func() []S
}

func tombs() kind[api.Facts] {
	itself := func(f api.Facts) api.Facts { return f }
	return kind[api.Facts]{"Tomb", sample.SameFacts, itself, sample.State, sample.AlikeFacts, sample.Facts, sample.WrongFacts}
}

func swots() kind[api.Swot] {
	itself := func(s api.Swot) api.Swot { return s }
	return kind[api.Swot]{"Swot", sample.SameSwot, sample.State, itself, sample.AlikeSwots, sample.Swots, sample.WrongSwots}
}

// isTold: does the replica tell the same of itself as the slow one? Its answers to every cart and peer are looked at, and to some that are none.
func isTold[S any, E engine.Engine[S]](k kind[S], n *node.Node[S, E], s *slow[S]) error {
	if got, want := facts(n, s.h), facts(s, s.h); got != want {
		return fmt.Errorf("%s: it tells %s, want %s", k.name, got, want)
	}
	d := n.Durable()
	if !sameDurable(k, d, s.durable()) {
		return fmt.Errorf("%s: Durable = %v, want %v", k.name, d, s.durable())
	}
	for cart := range s.h.Carts {
		if got, err := n.State(cart); !k.same(got, s.state(cart)) || err != api.OK {
			return fmt.Errorf("%s: State(%d) = %v, %d, want %v", k.name, cart, got, err, s.state(cart))
		}
	}
	var none S
	for _, cart := range []int{-1, s.h.Carts, 64, 1 << 40} {
		if got, err := n.State(cart); !k.same(got, none) || err != api.ErrCart {
			return fmt.Errorf("%s: State(%d) = %v, %d", k.name, cart, got, err)
		}
	}
	return nil
}

func sameDurable[S any](k kind[S], a, b node.Durable[S]) bool {
	same := func(x, y node.Held[S]) bool { return x.Cart == y.Cart && k.same(x.State, y.State) }
	return a.Self == b.Self && a.Next == b.Next && slices.EqualFunc(a.Carts, b.Carts, same)
}

// isSent: would both send the same?
func isSent[S any, E engine.Engine[S]](k kind[S], n *node.Node[S, E], s *slow[S]) error {
	check := func(call string, b []byte, err api.Errno, want letter[S], wantErr api.Errno) error {
		var bytesWanted []byte
		if wantErr == api.OK {
			bytesWanted = written[S, E](want)
		}
		if err != wantErr || !bytes.Equal(b, bytesWanted) {
			return fmt.Errorf("%s: %s = %x, %d, want %x, %d", k.name, call, b, err, bytesWanted, wantErr)
		}
		return nil
	}
	for _, to := range []int{-1, 0, 1, s.self, s.h.Reps - 1, s.h.Reps, 16} {
		for _, full := range []bool{false, true} {
			b, err := n.Sync(to, full)
			want, wantErr := s.sync(to, full)
			if e := check(fmt.Sprintf("Sync(%d, %t)", to, full), b, err, want, wantErr); e != nil {
				return e
			}
		}
		b, err := n.Ask(to)
		want, wantErr := s.ask(to)
		if e := check(fmt.Sprintf("Ask(%d)", to), b, err, want, wantErr); e != nil {
			return e
		}
		for _, back := range []int{-1 << 63, -1, 0, 1, 2, s.h.Log - 1, s.h.Log, s.Next(), 1<<63 - 1} {
			b, err := n.Push(to, back)
			want, wantErr := s.push(to, back)
			if e := check(fmt.Sprintf("Push(%d, %d)", to, back), b, err, want, wantErr); e != nil {
				return e
			}
		}
	}
	return nil
}

// A teller is what replicas tell of themselves, whatever their states are.
type teller interface {
	Live(cart int) ([]api.Entry, api.Errno)
	Lines(cart int) ([]api.Line, api.Errno)
	Past(cart int) (api.Past, api.Errno)
	Touched() []int
	First() int
	Next() int
	Acked(peer int) (int, api.Errno)
}

// facts: all that it tells, as a text.
func facts(r teller, h api.Header) string {
	var b bytes.Buffer
	fmt.Fprintf(&b, "touched %v, items %d to %d", r.Touched(), r.First(), r.Next())
	for _, peer := range append(upTo(h.Reps), 16, -1<<63, 1<<63-1) {
		n, err := r.Acked(peer)
		fmt.Fprintf(&b, ", acked %d: %d %d", peer, n, err)
	}
	for _, cart := range append(upTo(h.Carts), 64, -1<<63, 1<<63-1) {
		fmt.Fprintf(&b, "\n%s", cartFacts(r, cart))
	}
	return b.String()
}

// cartFacts: what a client sees of a cart.
func cartFacts(r teller, cart int) string {
	live, err := r.Live(cart)
	told, errTold := r.Lines(cart)
	seen, errSeen := r.Past(cart)
	return fmt.Sprintf("cart %d: %v %d, %v %d, %v %d", cart, live, err, told, errTold, seen, errSeen)
}

// upTo: -1 to n.
func upTo(n int) []int {
	var list []int
	for i := -1; i <= n; i++ {
		list = append(list, i)
	}
	return list
}

func newDice() *rand.Rand { return rand.New(rand.NewPCG(35, 36)) }

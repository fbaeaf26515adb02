package node

import (
	"slices"

	"barrow/api"
	"barrow/digest"
	"barrow/mail"
)

// Deliver: a message comes; the answer's bytes and to whom it goes (no bytes: there is none).
func (n *Node[S, E]) Deliver(b []byte) ([]byte, int, api.Errno) {
	m, err := mail.Get(b)
	if err != api.OK || !n.isFit(m) {
		return nil, 0, api.ErrBad
	}
	switch m.Kind {
	case api.MailAck:
		return nil, 0, n.hear(m)
	case api.MailAsk:
		return n.reply(m)
	case api.MailDelta, api.MailFull:
		return n.takeAndAck(m)
	}
	return nil, 0, n.take(m)
}

// isFit: is the mail for this replica, from one of the store, about its carts?
func (n *Node[S, E]) isFit(m api.Mail) bool {
	strange := func(cart int) bool { return !n.isCart(cart) }
	return m.To == n.self && m.From < n.head.Reps && !slices.ContainsFunc(mail.Carts(m), strange)
}

// hear: the peer has acknowledged.
func (n *Node[S, E]) hear(ack api.Mail) api.Errno {
	if ack.Hi > n.Next() {
		return api.ErrBad
	}
	return n.peers.Heard(ack.From, ack.Hi)
}

// take: joins what the mail brings, and logs it.
func (n *Node[S, E]) take(m api.Mail) api.Errno {
	came, err := n.unpacked(m.Parts)
	if err != api.OK {
		return api.ErrBad
	}
	behind, err := n.joined(came)
	switch {
	case err != api.OK:
		return api.ErrBad
	case len(came) == 0:
		return api.OK
	case n.isAtEnd():
		return api.ErrBad
	}
	if m.Kind == api.MailReply {
		// A reply leaves out what this replica has told that it knows; an item must not, since others read it.
		came = behind
	}
	n.keep(behind, came)
	return api.OK
}

// unpacked: the states of the parts.
func (n *Node[S, E]) unpacked(parts []api.Part) ([]Held[S], api.Errno) {
	var came []Held[S]
	for _, p := range parts {
		state, err := n.engine.Unpack(p.Body)
		if err != api.OK {
			return nil, err
		}
		came = append(came, Held[S]{p.Cart, state})
	}
	return came, api.OK
}

func (n *Node[S, E]) takeAndAck(m api.Mail) ([]byte, int, api.Errno) {
	if err := n.take(m); err != api.OK {
		return nil, 0, err
	}
	ack, _ := mail.Ack(m)
	b, _ := mail.Put(ack)
	return b, m.From, api.OK
}

// reply: answers an ask with what the asker lacks.
func (n *Node[S, E]) reply(ask api.Mail) ([]byte, int, api.Errno) {
	told := map[int]api.Digest{}
	for _, p := range ask.Parts {
		d, err := digest.Get(p.Body)
		if err != api.OK {
			return nil, 0, api.ErrBad
		}
		told[p.Cart] = d
	}
	b, err := n.post(api.Mail{Kind: api.MailReply, To: ask.From}, n.lacks(mail.Carts(ask), told))
	return b, ask.From, err
}

// lacks: for each cart that was asked for or is touched here, what one who told this lacks.
func (n *Node[S, E]) lacks(asked []int, told map[int]api.Digest) []Held[S] {
	carts := slices.Concat(asked, n.Touched())
	slices.Sort(carts)
	var list []Held[S]
	for _, cart := range slices.Compact(carts) {
		// Of a cart about which nothing was told the map gives the empty digest.
		lack, _ := n.engine.Lack(n.state(cart), told[cart])
		list = append(list, Held[S]{cart, lack})
	}
	return list
}

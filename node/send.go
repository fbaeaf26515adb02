package node

import (
	"maps"
	"slices"

	"barrow/api"
	"barrow/digest"
	"barrow/engine"
	"barrow/mail"
)

// Sync: the bytes of a sync to the replica.
func (n *Node[S, E]) Sync(to int, full bool) ([]byte, api.Errno) {
	plan, err := n.peers.Plan(to, n.First(), n.Next())
	if err != api.OK {
		return nil, err
	}
	if !full && !plan.Full {
		states, err := n.since(plan.Lo)
		if err == api.OK {
			return n.post(api.Mail{Kind: api.MailDelta, To: to, Lo: plan.Lo, Hi: plan.Hi}, states)
		}
		// Two items clash over a dot that was gone here when the second one came: the carts' states tell all without it.
	}
	return n.post(api.Mail{Kind: api.MailFull, To: to, Hi: n.Next()}, n.all())
}

// since: for each cart of the items from that number on, their states joined; the carts rise.
func (n *Node[S, E]) since(lo int) ([]Held[S], api.Errno) {
	states := map[int][]S{}
	for _, item := range n.log.Walk(lo) {
		for _, c := range item {
			states[c.Cart] = append(states[c.Cart], c.State)
		}
	}
	var list []Held[S]
	for _, cart := range slices.Sorted(maps.Keys(states)) {
		state, err := engine.Fold[S, E](states[cart], 1)
		if err != api.OK {
			return nil, err
		}
		list = append(list, Held[S]{cart, state})
	}
	return list, api.OK
}

// post: the bytes of the mail from here, with these states as its parts.
func (n *Node[S, E]) post(m api.Mail, states []Held[S]) ([]byte, api.Errno) {
	m.From = n.self
	for _, c := range states {
		body, _ := n.engine.Pack(c.State)
		m.Parts = append(m.Parts, api.Part{Cart: c.Cart, Body: body})
	}
	return mail.Put(m)
}

// Ask: the bytes of a question to the replica.
func (n *Node[S, E]) Ask(to int) ([]byte, api.Errno) {
	if _, err := n.Acked(to); err != api.OK {
		return nil, err
	}
	m := api.Mail{Kind: api.MailAsk, From: n.self, To: to}
	for _, c := range n.all() {
		told, _ := n.engine.Digest(c.State)
		body, _ := digest.Put(told)
		m.Parts = append(m.Parts, api.Part{Cart: c.Cart, Body: body})
	}
	return mail.Put(m)
}

// Push: the bytes of one item of the log, back items behind the newest.
func (n *Node[S, E]) Push(to, back int) ([]byte, api.Errno) {
	if _, err := n.Acked(to); err != api.OK {
		return nil, err
	}
	number := n.Next() - 1 - back
	item, held := n.log.At(number)
	if back < 0 || !held {
		return nil, api.ErrArg
	}
	return n.post(api.Mail{Kind: api.MailPush, To: to, Lo: number, Hi: number + 1}, item)
}

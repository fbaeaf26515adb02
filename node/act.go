package node

import (
	"barrow/act"
	"barrow/api"
)

// Act: a client's wish on a cart; was an event logged?
func (n *Node[S, E]) Act(cart int, a api.Act) (bool, api.Errno) {
	if !n.isCart(cart) {
		return false, api.ErrCart
	}
	event, err := n.decide(cart, a)
	switch {
	case err != api.OK:
		return false, err
	case act.Empty(event):
		return false, api.OK
	case n.isAtEnd():
		return false, api.ErrCount
	}
	state, _ := n.engine.Event(event)
	item := []Held[S]{{cart, state}}
	behind, err := n.joined(item)
	if err != api.OK {
		return false, err
	}
	n.keep(behind, item)
	return true, api.OK
}

// decide: the event that the act makes, as the cart stands.
func (n *Node[S, E]) decide(cart int, a api.Act) (api.Facts, api.Errno) {
	state := n.state(cart)
	live, _ := n.engine.Live(state)
	seen, _ := n.engine.Past(state)
	return act.Decide(live, seen, n.self, api.Limits{Lines: n.head.Lines, Count: n.head.Count}, a)
}

// isAtEnd: is there no number for one more item?
func (n *Node[S, E]) isAtEnd() bool { return n.Next() == api.MaxSeq }

// joined: the states of the carts, behind the joining of what came for them. Nothing is kept yet: what comes later may be refused.
func (n *Node[S, E]) joined(came []Held[S]) ([]Held[S], api.Errno) {
	var behind []Held[S]
	for _, c := range came {
		state, err := n.engine.Join(n.state(c.Cart), c.State)
		if err != api.OK {
			return nil, err
		}
		behind = append(behind, Held[S]{c.Cart, state})
	}
	return behind, api.OK
}

// keep: these are the carts' states from now on, and this is one item of the log.
func (n *Node[S, E]) keep(states, item []Held[S]) {
	for _, c := range states {
		n.touched[c.Cart] = c.State
	}
	n.log.Push(item)
}

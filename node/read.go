package node

import (
	"maps"
	"slices"

	"barrow/api"
	"barrow/engine"
)

func (n *Node[S, E]) isCart(cart int) bool { return 0 <= cart && cart < n.head.Carts }

// state: the cart's own, not a copy.
func (n *Node[S, E]) state(cart int) S {
	if s, found := n.touched[cart]; found {
		return s
	}
	return n.engine.Empty()
}

// all: the states of the touched carts, rising.
func (n *Node[S, E]) all() []Held[S] {
	var list []Held[S]
	for _, cart := range n.Touched() {
		list = append(list, Held[S]{cart, n.touched[cart]})
	}
	return list
}

// Live: the cart's live entries.
func (n *Node[S, E]) Live(cart int) ([]api.Entry, api.Errno) {
	if !n.isCart(cart) {
		return nil, api.ErrCart
	}
	return n.engine.Live(n.state(cart))
}

// Lines: what a client reads.
func (n *Node[S, E]) Lines(cart int) ([]api.Line, api.Errno) {
	if !n.isCart(cart) {
		return nil, api.ErrCart
	}
	lists, err := engine.Read[S, E]([]S{n.state(cart)}, 1)
	if err != api.OK {
		return nil, err
	}
	return lists[0], api.OK
}

// Past: the cart's context.
func (n *Node[S, E]) Past(cart int) (api.Past, api.Errno) {
	if !n.isCart(cart) {
		return api.Past{}, api.ErrCart
	}
	return n.engine.Past(n.state(cart))
}

// State: the cart's state.
func (n *Node[S, E]) State(cart int) (S, api.Errno) {
	if !n.isCart(cart) {
		return n.engine.Empty(), api.ErrCart
	}
	return n.copied(n.state(cart)), api.OK
}

// Touched: the carts in which something was ever joined, rising.
func (n *Node[S, E]) Touched() []int { return slices.Sorted(maps.Keys(n.touched)) }

// First: the number of the oldest item that the log holds; Next, if there is none.
func (n *Node[S, E]) First() int { return n.log.First() }

// Next: the number of the log's next item.
func (n *Node[S, E]) Next() int { return n.log.Next() }

// Acked: how far the peer has acknowledged.
func (n *Node[S, E]) Acked(peer int) (int, api.Errno) { return n.peers.Of(peer) }

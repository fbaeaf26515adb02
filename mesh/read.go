package mesh

import (
	"sync"

	"barrow/api"
	"barrow/engine"
	"barrow/node"
)

// Lines: what a client reads at the replica.
func (m *Mesh[S, E]) Lines(rep, cart int) ([]api.Line, api.Errno) {
	n, err := m.at(rep)
	if err != api.OK {
		return nil, err
	}
	return n.Lines(cart)
}

// Live: the live entries of a cart at the replica.
func (m *Mesh[S, E]) Live(rep, cart int) ([]api.Entry, api.Errno) {
	n, err := m.at(rep)
	if err != api.OK {
		return nil, err
	}
	return n.Live(cart)
}

// Past: the context of a cart at the replica.
func (m *Mesh[S, E]) Past(rep, cart int) (api.Past, api.Errno) {
	n, err := m.at(rep)
	if err != api.OK {
		return api.Past{}, err
	}
	return n.Past(cart)
}

// State: the state of a cart at the replica.
func (m *Mesh[S, E]) State(rep, cart int) (S, api.Errno) {
	n, err := m.at(rep)
	if err != api.OK {
		var none S
		return none, err
	}
	return n.State(cart)
}

// Touched: the carts in which something was ever joined at the replica, rising.
func (m *Mesh[S, E]) Touched(rep int) ([]int, api.Errno) {
	n, err := m.at(rep)
	if err != api.OK {
		return nil, err
	}
	return n.Touched(), api.OK
}

// All: the lines of every cart at every replica, by a worker a replica.
func (m *Mesh[S, E]) All() [][][]api.Line {
	all := make([][][]api.Line, len(m.reps))
	var workers sync.WaitGroup
	for rep, n := range m.reps {
		workers.Add(1)
		go func() {
			defer workers.Done()
			// Each worker reads its own replica and writes into its own place alone, so that no schedule is to be seen.
			all[rep] = told(n, m.head.Carts)
		}()
	}
	workers.Wait()
	return all
}

// told: what clients read at the replica, cart by cart.
func told[S any, E engine.Engine[S]](n *node.Node[S, E], carts int) [][]api.Line {
	lists := make([][]api.Line, carts)
	for cart := range lists {
		lists[cart], _ = n.Lines(cart)
	}
	return lists
}

package cart

import "barrow/api"

// View: what a client would read; no token is given out.
func (c *Cart[S, E]) View(rep, cart int) ([]api.Line, api.Errno) { return c.store.Lines(rep, cart) }

// Live: the live entries of a cart at the replica.
func (c *Cart[S, E]) Live(rep, cart int) ([]api.Entry, api.Errno) { return c.store.Live(rep, cart) }

// Past: the context of a cart at the replica.
func (c *Cart[S, E]) Past(rep, cart int) (api.Past, api.Errno) { return c.store.Past(rep, cart) }

// State: the state of a cart at the replica.
func (c *Cart[S, E]) State(rep, cart int) (S, api.Errno) { return c.store.State(rep, cart) }

// All: the lines of every cart at every replica.
func (c *Cart[S, E]) All() [][][]api.Line { return c.store.All() }

// Touched: the carts in which something was ever joined at the replica, rising.
func (c *Cart[S, E]) Touched(rep int) ([]int, api.Errno) { return c.store.Touched(rep) }

// Waiting: the numbers of the messages under way, rising.
func (c *Cart[S, E]) Waiting() []int { return c.store.Waiting() }

// Made: how many messages there have been.
func (c *Cart[S, E]) Made() int { return c.store.Made() }

// Look: the message under way.
func (c *Cart[S, E]) Look(n int) (api.Letter, api.Errno) { return c.store.Look(n) }

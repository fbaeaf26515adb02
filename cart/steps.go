package cart

import (
	"barrow/api"
	"barrow/engine"
)

// A step is what one kind of op does on a stack.
type step[S any, E engine.Engine[S]] func(c *Cart[S, E], o api.Op) api.Answer

// steps: each kind's own, at the place of its number.
func steps[S any, E engine.Engine[S]]() [api.OpPush + 1]step[S, E] {
	return [api.OpPush + 1]step[S, E]{
		api.OpSet:      (*Cart[S, E]).set,
		api.OpAdd:      (*Cart[S, E]).add,
		api.OpRemove:   (*Cart[S, E]).remove,
		api.OpRemoveTo: (*Cart[S, E]).removeTo,
		api.OpClear:    (*Cart[S, E]).clearAll,
		api.OpClearTo:  (*Cart[S, E]).clearTo,
		api.OpRead:     (*Cart[S, E]).read,
		api.OpSync:     (*Cart[S, E]).sync,
		api.OpFull:     (*Cart[S, E]).full,
		api.OpAsk:      (*Cart[S, E]).ask,
		api.OpDeliver:  (*Cart[S, E]).deliver,
		api.OpCopy:     (*Cart[S, E]).copied,
		api.OpDrop:     (*Cart[S, E]).drop,
		api.OpTrim:     (*Cart[S, E]).trim,
		api.OpRestart:  (*Cart[S, E]).restart,
		api.OpPush:     (*Cart[S, E]).push,
	}
}

// status: the answer of a step of which nothing else is told.
func status(err api.Errno) api.Answer { return api.Answer{Status: err} }

// message: the answer of a step that made a message; beside an error, and where there is none, its number is 0.
func message(n int, err api.Errno) api.Answer { return api.Answer{Status: err, Msg: n} }

func (c *Cart[S, E]) set(o api.Op) api.Answer {
	return c.act(o, api.Act{Kind: api.ActSet, Sku: o.Sku, Qty: o.Qty})
}

func (c *Cart[S, E]) add(o api.Op) api.Answer {
	return c.act(o, api.Act{Kind: api.ActAdd, Sku: o.Sku, Qty: o.Qty})
}

func (c *Cart[S, E]) remove(o api.Op) api.Answer {
	return c.act(o, api.Act{Kind: api.ActRemove, Sku: o.Sku})
}

func (c *Cart[S, E]) clearAll(o api.Op) api.Answer {
	return c.act(o, api.Act{Kind: api.ActClear})
}

// act: the wish on the cart that the op names.
func (c *Cart[S, E]) act(o api.Op, a api.Act) api.Answer {
	return status(c.store.Act(o.Rep, o.Cart, a))
}

func (c *Cart[S, E]) removeTo(o api.Op) api.Answer {
	return c.actByToken(o, api.Act{Kind: api.ActRemoveTo, Sku: o.Sku})
}

func (c *Cart[S, E]) clearTo(o api.Op) api.Answer {
	return c.actByToken(o, api.Act{Kind: api.ActClearTo})
}

// actByToken: the wish on the cart and the past of the token that the op names.
func (c *Cart[S, E]) actByToken(o api.Op, a api.Act) api.Answer {
	// The store would tell of a wrong replica too late: the token's error comes behind it.
	if o.Rep < 0 || o.Rep >= c.Head().Reps {
		return status(api.ErrRep)
	}
	token, err := c.given.Find(o.Num)
	if err != api.OK {
		return status(err)
	}
	a.Past = token.Past
	return status(c.store.Act(o.Rep, token.Cart, a))
}

func (c *Cart[S, E]) read(o api.Op) api.Answer {
	told, err := c.View(o.Rep, o.Cart)
	if err != api.OK {
		return status(err)
	}
	// Of a replica and a cart that there are the past is told, and is canonical, so that the token isn't refused.
	seen, _ := c.Past(o.Rep, o.Cart)
	number, _ := c.given.Give(api.Token{Cart: o.Cart, Past: seen})
	return api.Answer{Lines: told, Token: number}
}

func (c *Cart[S, E]) sync(o api.Op) api.Answer { return message(c.store.Send(o.Rep, o.To, false)) }

func (c *Cart[S, E]) full(o api.Op) api.Answer { return message(c.store.Send(o.Rep, o.To, true)) }

func (c *Cart[S, E]) ask(o api.Op) api.Answer { return message(c.store.Ask(o.Rep, o.To)) }

func (c *Cart[S, E]) push(o api.Op) api.Answer { return message(c.store.Push(o.Rep, o.To, o.Num)) }

func (c *Cart[S, E]) deliver(o api.Op) api.Answer { return message(c.store.Deliver(o.Num)) }

func (c *Cart[S, E]) copied(o api.Op) api.Answer { return message(c.store.Copy(o.Num)) }

func (c *Cart[S, E]) drop(o api.Op) api.Answer { return status(c.store.Drop(o.Num)) }

func (c *Cart[S, E]) trim(o api.Op) api.Answer { return status(c.store.Trim(o.Num, o.Qty)) }

func (c *Cart[S, E]) restart(o api.Op) api.Answer { return status(c.store.Restart(o.Rep)) }

package known

import (
	"slices"

	"barrow/api"
	"barrow/goods"
	"barrow/past"
	"barrow/sample"
)

// A wish is an act, with what the replica has of the cart.
type wish struct {
	api.Op
	past api.Past
	head api.Header
	live []api.Entry
	seen api.Past
}

// act: the client's wish at a replica and on a cart that there are.
func (s *Stack) act(o api.Op, cart int, seen api.Past) api.Errno {
	w := wish{Op: o, past: seen, head: s.head, live: s.Live(o.Rep, cart), seen: s.Past(o.Rep, cart)}
	if err := w.refusal(); err != api.OK {
		return err
	}
	e := w.event()
	if e.isEmpty() {
		return api.OK
	}
	s.events = append(s.events, e)
	item := news{cart: {len(s.events) - 1}}
	s.reps[o.Rep].knows.learnAll(item)
	s.reps[o.Rep].log(item, s.head.Log)
	return api.OK
}

func (w wish) puts() bool { return w.Kind == api.OpSet || w.Kind == api.OpAdd }

func (w wish) namesSku() bool { return w.Kind != api.OpClear && w.Kind != api.OpClearTo }

// refusal: the errors of an act, in their order.
func (w wish) refusal() api.Errno {
	switch old := w.ofSku(); {
	case w.namesSku() && !goods.Good(w.Sku):
		return api.ErrSku
	case w.puts() && (w.Qty < 1 || w.Qty > api.MaxQty):
		return api.ErrQty
	case w.puts() && len(old) == 0 && len(Told(w.live)) >= w.head.Lines:
		return api.ErrFull
	case w.Kind == api.OpAdd && sum(old)+w.Qty > api.MaxQty:
		return api.ErrOver
	case w.puts() && w.last() >= w.head.Count:
		return api.ErrCount
	case w.Kind == api.OpRemove && len(old) == 0:
		return api.ErrAbsent
	}
	return api.OK
}

// event: what the act makes, by the document's table.
func (w wish) event() event {
	next := api.Dot{Rep: w.Rep, Num: w.last() + 1}
	switch w.Kind {
	case api.OpSet:
		return event{adds: []api.Entry{{Dot: next, Sku: w.Sku, Qty: w.Qty}}, gone: dots(w.ofSku())}
	case api.OpAdd:
		own := sample.Those(w.ofSku(), func(e api.Entry) bool { return e.Dot.Rep == w.Rep })
		return event{adds: []api.Entry{{Dot: next, Sku: w.Sku, Qty: w.Qty + sum(own)}}, gone: dots(own)}
	case api.OpRemove:
		return event{gone: dots(w.ofSku())}
	case api.OpClear:
		return event{gone: dots(w.live)}
	}
	if past.Empty(w.past) {
		return event{}
	}
	if w.Kind == api.OpClearTo {
		w.Sku = ""
	}
	return event{recs: []api.Record{{Sku: w.Sku, Past: w.past}}}
}

// ofSku: the live entries of the wish's SKU.
func (w wish) ofSku() []api.Entry {
	return sample.Those(w.live, func(e api.Entry) bool { return e.Sku == w.Sku })
}

// last: the greatest number of the replica in the cart's context.
func (w wish) last() int {
	last := 0
	if w.Rep < len(w.seen.Vec) {
		last = w.seen.Vec[w.Rep]
	}
	for _, c := range w.seen.Cloud {
		if c.Rep == w.Rep {
			last = max(last, c.Hi)
		}
	}
	return last
}

func sum(list []api.Entry) int {
	total := 0
	for _, e := range list {
		total += e.Qty
	}
	return total
}

func dots(list []api.Entry) []api.Dot {
	var all []api.Dot
	for _, e := range list {
		all = append(all, e.Dot)
	}
	return all
}

// read: the lines, and a token with what was heard of.
func (s *Stack) read(o api.Op) api.Answer {
	s.tokens = append(s.tokens, api.Token{Cart: o.Cart, Past: s.Past(o.Rep, o.Cart)})
	return api.Answer{Lines: s.Lines(o.Rep, o.Cart), Token: len(s.tokens)}
}

// Token: that of the number, if it is one of the last that are held.
func (s *Stack) Token(n int) (api.Token, bool) {
	if n < 1 || n > len(s.tokens) || n <= len(s.tokens)-s.head.Tokens {
		return api.Token{}, false
	}
	t := s.tokens[n-1]
	return api.Token{Cart: t.Cart, Past: api.Past{Vec: slices.Clone(t.Past.Vec), Cloud: slices.Clone(t.Past.Cloud)}}, true
}

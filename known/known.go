// Package known is a slow stack made of the document's words alone (the sections 'What a client's acts do', 'Mails' and 'What a replica knows'): replicas that know events, and messages that bring them. Tests hold the two stacks against it; the program doesn't use it.
package known

import (
	"slices"

	"barrow/api"
	"barrow/keep"
	"barrow/lines"
	"barrow/node"
	"barrow/past"
	"barrow/sample"
)

// An event is what one act made.
type event struct {
	adds []api.Entry
	gone []api.Dot
	recs []api.Record
}

func (e event) isEmpty() bool { return len(e.adds) == 0 && len(e.gone) == 0 && len(e.recs) == 0 }

// The news hold, cart by cart, numbers of events, rising. A cart may be there without any.
type news map[int][]int

// learn: the events are known from now on, and the cart is there.
func (n news) learn(cart int, events []int) {
	all := slices.Concat(n[cart], events)
	slices.Sort(all)
	n[cart] = slices.Compact(all)
}

func (n news) learnAll(more news) {
	for cart, events := range more {
		n.learn(cart, events)
	}
}

// copied: the same, in memory of its own.
func (n news) copied() news {
	same := news{}
	same.learnAll(n)
	return same
}

// carts: those that are there, rising.
func (n news) carts() []int {
	var list []int
	for cart := range api.MaxCarts {
		if _, found := n[cart]; found {
			list = append(list, cart)
		}
	}
	return list
}

// A replica knows events; of the items that it logged it holds the last ones.
type replica struct {
	knows news // its carts are the touched ones
	first int
	items []news
	acked [api.MaxReps]int
}

func (r *replica) next() int { return r.first + len(r.items) }

func (r *replica) log(item news, most int) {
	r.items = append(r.items, item)
	for len(r.items) > most {
		r.items = r.items[1:]
		r.first++
	}
}

// A letter is a message that was made.
type letter struct {
	Mail
	brings news
	spent  bool
}

// A Mail is what the document says of a message, whatever its bytes are.
type Mail struct {
	Kind, From, To, Lo, Hi int
	Carts                  []int
	Whole                  bool // nothing was cut off it
}

// Stack is the slow one.
type Stack struct {
	head    api.Header
	events  []event
	reps    []*replica
	letters []letter
	tokens  []api.Token
}

// New: a stack with that head.
func New(h api.Header) *Stack {
	s := &Stack{head: node.Clamp(h)}
	for range s.head.Reps {
		s.reps = append(s.reps, &replica{knows: news{}})
	}
	return s
}

// Head: the head, clamped.
func (s *Stack) Head() api.Header { return s.head }

// Made: how many messages there have been.
func (s *Stack) Made() int { return len(s.letters) }

// Given: how many tokens there have been.
func (s *Stack) Given() int { return len(s.tokens) }

// Waiting: the numbers of the messages under way, rising.
func (s *Stack) Waiting() []int {
	var list []int
	for i, l := range s.letters {
		if !l.spent {
			list = append(list, i+1)
		}
	}
	return list
}

// Look: the message, if it is under way.
func (s *Stack) Look(n int) (Mail, bool) {
	l := s.find(n)
	if l == nil {
		return Mail{}, false
	}
	return l.Mail, true
}

// Brings: the facts that a message brings of a cart.
func (s *Stack) Brings(n, cart int) api.Facts {
	return s.factsOf(s.letters[n-1].brings[cart])
}

// Touched: the touched carts of a replica that there is, rising.
func (s *Stack) Touched(rep int) []int { return s.reps[rep].knows.carts() }

// Facts: the known facts of a replica and a cart that there are.
func (s *Stack) Facts(rep, cart int) api.Facts { return s.factsOf(s.reps[rep].knows[cart]) }

// All: the facts of all events of a cart that any replica knows.
func (s *Stack) All(cart int) api.Facts {
	all := news{}
	for _, r := range s.reps {
		all.learn(cart, r.knows[cart])
	}
	return s.factsOf(all[cart])
}

// factsOf: the joining of the facts of the events.
func (s *Stack) factsOf(events []int) api.Facts {
	var adds []api.Entry
	var gone []api.Dot
	var recs []api.Record
	for _, n := range events {
		e := s.events[n]
		adds, gone, recs = append(adds, e.adds...), append(gone, e.gone...), append(recs, e.recs...)
	}
	// No two adds have one dot, and all records are in form, so that neither list is refused.
	adds, _ = lines.Sort(adds)
	recs, _ = keep.Sort(recs)
	return api.Facts{Adds: adds, Gone: past.Of(gone), Recs: recs}
}

// Live: what is live in the known facts.
func (s *Stack) Live(rep, cart int) []api.Entry { return sample.State(s.Facts(rep, cart)).Live }

// Past: what is heard by the known facts.
func (s *Stack) Past(rep, cart int) api.Past { return sample.State(s.Facts(rep, cart)).Past }

// Lines: the lines of what is live in the known facts.
func (s *Stack) Lines(rep, cart int) []api.Line { return Told(s.Live(rep, cart)) }

// Told: the lines of entries, word by word.
func Told(live []api.Entry) []api.Line {
	var skus []string
	for _, e := range live {
		skus = append(skus, e.Sku)
	}
	slices.Sort(skus)
	var list []api.Line
	for _, sku := range slices.Compact(skus) {
		line := api.Line{Sku: sku}
		for _, e := range live {
			if e.Sku == sku {
				line.Qty += e.Qty
				line.Parts++
			}
		}
		list = append(list, line)
	}
	return list
}

package node_test

import (
	"fmt"
	"math/rand/v2"
	"slices"

	"barrow/api"
	"barrow/engine"
	"barrow/mail"
	"barrow/node"
	"barrow/sample"
)

// An actor is a replica in a store whose messages are of the kind M.
type actor[M any] interface {
	teller
	Act(cart int, a api.Act) (bool, api.Errno)
	sync(to int, full bool) (M, api.Errno)
	ask(to int) (M, api.Errno)
	push(to, back int) (M, api.Errno)
	deliver(m M) (posted[M], bool, api.Errno)
	again() actor[M] // what comes back of it
	head(m M) string // the mail's kind, numbers and carts
	cut(m M, count int) M
}

// posted is a message that was made, and for whom.
type posted[M any] struct {
	m  M
	to int
}

// A built actor is a node.
type built[S any, E engine.Engine[S]] struct {
	*node.Node[S, E]
	h api.Header
}

func (r built[S, E]) sync(to int, full bool) ([]byte, api.Errno) { return r.Sync(to, full) }

func (r built[S, E]) ask(to int) ([]byte, api.Errno) { return r.Ask(to) }

func (r built[S, E]) push(to, back int) ([]byte, api.Errno) { return r.Push(to, back) }

func (r built[S, E]) deliver(b []byte) (posted[[]byte], bool, api.Errno) {
	answer, to, err := r.Deliver(b)
	return posted[[]byte]{answer, to}, len(answer) > 0, err
}

func (r built[S, E]) again() actor[[]byte] {
	return built[S, E]{right(node.Load[S, E](r.h, r.Durable())), r.h}
}

func (r built[S, E]) head(b []byte) string {
	m := right(mail.Get(b))
	return fmt.Sprint(m.Kind, m.From, m.To, m.Lo, m.Hi, mail.Carts(m))
}

func (r built[S, E]) cut(b []byte, count int) []byte { return b[:max(0, len(b)-count)] }

// A thought actor is a slow replica.
type thought[S any] struct{ *slow[S] }

func (r thought[S]) deliver(l letter[S]) (posted[letter[S]], bool, api.Errno) {
	answer, has, err := r.slow.deliver(l)
	return posted[letter[S]]{answer, answer.to}, has, err
}

func (r thought[S]) again() actor[letter[S]] { return thought[S]{r.restart()} }

func (r thought[S]) head(l letter[S]) string {
	return fmt.Sprint(l.kind, l.from, l.to, l.lo, l.hi, l.carts())
}

func (r thought[S]) cut(l letter[S], _ int) letter[S] {
	l.spoilt = true
	return l
}

// A store is some replicas, every message that they ever made, and what reads have seen.
type store[M any] struct {
	h     api.Header
	reps  []actor[M]
	all   []posted[M]
	seen  []api.Token
	heard func(rep, number, answer int) // told of each delivery that was taken: the message, and the answer or -1
}

func builtStore[S any, E engine.Engine[S]](h api.Header) *store[[]byte] {
	s := &store[[]byte]{h: clamped(h)}
	for self := range s.h.Reps {
		s.reps = append(s.reps, built[S, E]{right(node.New[S, E](h, self)), h})
	}
	return s
}

func thoughtStore[S any](al algebra[S], h api.Header) *store[letter[S]] {
	s := &store[letter[S]]{h: clamped(h)}
	for self := range s.h.Reps {
		s.reps = append(s.reps, thought[S]{newSlow(al, h, node.Durable[S]{Self: self})})
	}
	return s
}

// A step is one thing that happens in a store.
type step struct {
	what          string
	rep, to, cart int
	num           int // of a message or a token: so many behind the newest; of a push: items back
	bytes         int // that a cut takes
	act           api.Act
}

// play: the step's answer as a text, and what the replica tells of itself behind it.
func (s *store[M]) play(st step) string {
	answer := s.answer(st)
	return fmt.Sprintf("%s\n%s", answer, facts(s.reps[st.rep], s.h))
}

func (s *store[M]) answer(st step) string {
	r := s.reps[st.rep]
	switch st.what {
	case "act":
		return fmt.Sprint(r.Act(st.cart, st.act))
	case "act by token":
		return s.actByToken(st)
	case "read":
		p, err := r.Past(st.cart)
		if err == api.OK {
			s.seen = append(s.seen, api.Token{Cart: st.cart, Past: p})
		}
		return fmt.Sprint("context ", p, " ", err)
	case "sync", "full":
		m, err := r.sync(st.to, st.what == "full")
		return s.post(r, m, st.to, err)
	case "ask":
		m, err := r.ask(st.to)
		return s.post(r, m, st.to, err)
	case "push":
		m, err := r.push(st.to, st.num)
		return s.post(r, m, st.to, err)
	case "restart":
		s.reps[st.rep] = r.again()
		return "restart"
	}
	return s.deliver(st)
}

func (s *store[M]) actByToken(st step) string {
	if len(s.seen) == 0 {
		return "no token"
	}
	token := s.seen[back(len(s.seen), st.num)]
	st.act.Past = token.Past
	return fmt.Sprint(s.reps[st.rep].Act(token.Cart, st.act))
}

// back: the place of the one that is so many behind the newest, round and round.
func back(count, num int) int { return count - 1 - num%count }

func (s *store[M]) post(r actor[M], m M, to int, err api.Errno) string {
	if err != api.OK {
		return fmt.Sprint("refused ", err)
	}
	s.all = append(s.all, posted[M]{m, to})
	return "mail " + r.head(m)
}

// deliver: whole, without its last bytes, or where it shouldn't go. No message is spent, so that each may come again.
func (s *store[M]) deliver(st step) string {
	if len(s.all) == 0 {
		return "no message"
	}
	number := back(len(s.all), st.num)
	p := s.all[number]
	rep := p.to
	switch st.what {
	case "cut":
		p.m = s.reps[rep].cut(p.m, st.bytes)
	case "stray":
		rep = st.rep
	}
	answer, has, err := s.reps[rep].deliver(p.m)
	text := fmt.Sprintf("delivered at %d: %d, answer %t to %d", rep, err, has, answer.to)
	made := -1
	if has {
		text += " " + s.post(s.reps[rep], answer.m, answer.to, err)
		made = len(s.all) - 1
	}
	if err == api.OK && s.heard != nil {
		s.heard(rep, number, made)
	}
	return text + "\n" + facts(s.reps[rep], s.h)
}

// thrownHead: the head of a store whose limits are soon reached.
func thrownHead(dice *rand.Rand) api.Header {
	return api.Header{Reps: 1 + dice.IntN(4), Carts: 1 + dice.IntN(3), Lines: 1 + dice.IntN(5), Count: 2 + dice.IntN(40), Log: dice.IntN(6), Tokens: 9}
}

// roomyHead: the head of a store whose limits aren't reached.
func roomyHead(dice *rand.Rand) api.Header {
	return api.Header{Reps: 2 + dice.IntN(4), Carts: 1 + dice.IntN(3), Lines: 9, Count: 1000, Log: dice.IntN(6), Tokens: 9}
}

// thrownStep: any step, now and then with a replica or a cart that there isn't.
func thrownStep(dice *rand.Rand, h api.Header) step {
	words := []string{"act", "act", "act", "act", "act", "act by token", "read", "read", "sync", "sync", "full", "ask", "push", "deliver", "deliver", "deliver", "deliver", "deliver", "deliver", "cut", "stray", "restart"}
	st := step{what: words[dice.IntN(len(words))], rep: dice.IntN(h.Reps), to: dice.IntN(h.Reps), cart: dice.IntN(h.Carts), num: dice.IntN(4), bytes: 1 + dice.IntN(1+dice.IntN(40)), act: sample.ThrownAct(dice.IntN)}
	switch st.what {
	case "act by token":
		st.act.Kind = []int{api.ActRemoveTo, api.ActClearTo}[dice.IntN(2)]
	case "deliver", "stray", "cut":
		st.num = dice.IntN(1 + dice.IntN(40))
	case "restart":
		// Rare, so that logs and acknowledgements grow between.
		if dice.IntN(4) > 0 {
			st.what = "deliver"
		}
	}
	if dice.IntN(20) == 0 {
		st.to, st.cart = dice.IntN(h.Reps+4)-2, dice.IntN(h.Carts+4)-2
	}
	return st
}

// without: the steps that aren't of these words.
func without(steps []step, words ...string) []step {
	return sample.Those(steps, func(st step) bool { return !slices.Contains(words, st.what) })
}

// fair: the steps without removes of contexts that no read ever gave out.
func fair(steps []step) []step {
	return sample.Those(steps, func(st step) bool {
		return st.what != "act" || st.act.Kind != api.ActRemoveTo && st.act.Kind != api.ActClearTo
	})
}

func thrownSteps(dice *rand.Rand, h api.Header, count int) []step {
	var list []step
	for range count {
		list = append(list, thrownStep(dice, clamped(h)))
	}
	return list
}

package mesh_test

import (
	"bytes"
	"fmt"
	"math/rand/v2"
	"slices"

	"barrow/api"
	"barrow/mail"
	"barrow/sample"
)

// A store is what clients and the network see of one, whatever its states are.
type store interface {
	Head() api.Header
	Act(rep, cart int, a api.Act) api.Errno
	Lines(rep, cart int) ([]api.Line, api.Errno)
	Live(rep, cart int) ([]api.Entry, api.Errno)
	Past(rep, cart int) (api.Past, api.Errno)
	Touched(rep int) ([]int, api.Errno)
	All() [][][]api.Line
	Send(from, to int, full bool) (int, api.Errno)
	Ask(from, to int) (int, api.Errno)
	Push(from, to, back int) (int, api.Errno)
	Deliver(n int) (int, api.Errno)
	Copy(n int) (int, api.Errno)
	Drop(n int) api.Errno
	Trim(n, cut int) api.Errno
	Look(n int) (api.Letter, api.Errno)
	Waiting() []int
	Made() int
	Restart(rep int) api.Errno
}

// A step is one call.
type step struct {
	what          string
	rep, to, cart int
	num           int // of a message or a token: so many behind the newest; of a push: items back
	cut           int
	act           api.Act
}

// A player makes calls on a store, and remembers what reads have seen.
type player struct {
	store
	seen  []api.Token
	alive bool         // messages are counted among those under way alone
	apart map[int]bool // messages that no step takes
}

// message: the number of the message that the step means.
func (p *player) message(st step) int {
	if !p.alive {
		return p.Made() - st.num
	}
	list := sample.Those(p.Waiting(), func(n int) bool { return !p.apart[n] })
	if len(list) == 0 {
		return 0
	}
	return list[len(list)-1-max(st.num, 0)%len(list)]
}

// play: the call's answer as a text.
func (p *player) play(st step) string {
	n := p.message(st)
	switch st.what {
	case "act":
		return fmt.Sprint("act ", p.Act(st.rep, st.cart, st.act))
	case "act by token":
		if len(p.seen) == 0 {
			return "no token"
		}
		token := p.seen[len(p.seen)-1-st.num%len(p.seen)]
		st.act.Past = token.Past
		return fmt.Sprint("act ", p.Act(st.rep, token.Cart, st.act))
	case "read":
		return p.read(st)
	case "sync", "full":
		return number(p.Send(st.rep, st.to, st.what == "full"))
	case "ask":
		return number(p.Ask(st.rep, st.to))
	case "push":
		return number(p.Push(st.rep, st.to, st.num))
	case "deliver":
		return "delivered " + number(p.Deliver(n))
	case "copy":
		return number(p.Copy(n))
	case "drop":
		return fmt.Sprint("drop ", p.Drop(n))
	case "trim":
		return fmt.Sprint("trim ", p.Trim(n, st.cut))
	}
	return fmt.Sprint("restart ", p.Restart(st.rep))
}

func number(n int, err api.Errno) string {
	return fmt.Sprintf("message %t error %d: %d", n > 0, err, n)
}

func (p *player) read(st step) string {
	seen, err := p.Past(st.rep, st.cart)
	if err == api.OK {
		p.seen = append(p.seen, api.Token{Cart: st.cart, Past: seen})
	}
	told, errTold := p.Lines(st.rep, st.cart)
	return fmt.Sprintf("read %v %d, %v %d", told, errTold, seen, err)
}

// reads: what clients see, at every replica and cart, and at some that are none.
func reads(s store) string {
	var b bytes.Buffer
	h := s.Head()
	fmt.Fprint(&b, h)
	for _, rep := range around(h.Reps) {
		touched, err := s.Touched(rep)
		fmt.Fprintf(&b, "\nreplica %d: touched %v %d", rep, touched, err)
		for _, cart := range around(h.Carts) {
			told, err := s.Lines(rep, cart)
			live, errLive := s.Live(rep, cart)
			seen, errSeen := s.Past(rep, cart)
			fmt.Fprintf(&b, "\n cart %d: %v %d, %v %d, %v %d", cart, told, err, live, errLive, seen, errSeen)
		}
	}
	fmt.Fprintf(&b, "\nall %v", s.All())
	return b.String()
}

// letters: what is under way, each letter as show tells it.
func letters(s store, show func(b []byte) string) string {
	var b bytes.Buffer
	fmt.Fprintf(&b, "made %d, waiting %v", s.Made(), s.Waiting())
	for _, n := range around(s.Made() + 2) {
		l, err := s.Look(n)
		fmt.Fprintf(&b, "\nmessage %d: %d from %d to %d %s", n, err, l.From, l.To, show(l.Bytes))
	}
	return b.String()
}

// whole: all of a letter's bytes.
func whole(b []byte) string { return fmt.Sprintf("%x", b) }

// heading: of a letter what is the same over both engines.
func heading(b []byte) string {
	m, err := mail.Get(b)
	if err != api.OK {
		return "no mail"
	}
	return fmt.Sprint(m.Kind, m.From, m.To, m.Lo, m.Hi, mail.Carts(m))
}

// inside: all that the replica tells of itself and would send, as a text. What is sent to find out is dropped.
func inside(s store, rep int) string {
	var b bytes.Buffer
	touched, _ := s.Touched(rep)
	fmt.Fprint(&b, touched)
	show := func(n int, err api.Errno) {
		l, _ := s.Look(n)
		fmt.Fprintf(&b, " %d %x", err, l.Bytes)
		s.Drop(n)
	}
	for to := range s.Head().Reps {
		show(s.Send(rep, to, false))
		show(s.Send(rep, to, true))
		show(s.Ask(rep, to))
		for back := range s.Head().Log + 1 {
			show(s.Push(rep, to, back))
		}
	}
	return b.String()
}

func insides(s store) []string {
	var all []string
	for rep := range s.Head().Reps {
		all = append(all, inside(s, rep))
	}
	return all
}

// thrownHead: the head of a store whose limits are soon reached.
func thrownHead(dice *rand.Rand) api.Header {
	return api.Header{Reps: 1 + dice.IntN(4), Carts: 1 + dice.IntN(3), Lines: 1 + dice.IntN(5), Count: 2 + dice.IntN(12), Log: dice.IntN(6), Tokens: 9}
}

// roomyHead: the head of a store whose limits aren't reached.
func roomyHead(dice *rand.Rand) api.Header {
	return api.Header{Reps: 2 + dice.IntN(4), Carts: 1 + dice.IntN(3), Lines: 9, Count: 1000, Log: dice.IntN(6), Tokens: 9}
}

// thrownStep: any step, now and then with a replica, a cart or a message that there isn't.
func thrownStep(dice *rand.Rand, h api.Header) step {
	words := []string{"act", "act", "act", "act", "act", "act by token", "read", "read", "sync", "sync", "sync", "full", "ask", "push", "deliver", "deliver", "deliver", "deliver", "deliver", "deliver", "copy", "copy", "drop", "trim", "restart"}
	st := step{what: words[dice.IntN(len(words))], rep: dice.IntN(h.Reps), to: dice.IntN(h.Reps), cart: dice.IntN(h.Carts), num: dice.IntN(4), cut: 1 + dice.IntN(1+dice.IntN(40)), act: sample.ThrownAct(dice.IntN)}
	switch st.what {
	case "act by token":
		st.act.Kind = []int{api.ActRemoveTo, api.ActClearTo}[dice.IntN(2)]
	case "deliver", "copy", "drop", "trim":
		st.num = dice.IntN(1+dice.IntN(12)) - dice.IntN(20)/19
		if st.what == "trim" && dice.IntN(5) == 0 {
			st.cut = []int{0, -1, -1 << 63, 1<<63 - 1}[dice.IntN(4)]
		}
	case "restart":
		// Rare, so that logs and acknowledgements grow between.
		switch dice.IntN(6) {
		case 0, 1:
		case 2:
			st.rep = []int{-1, h.Reps}[dice.IntN(2)]
		default:
			st.what = "deliver"
		}
	}
	if dice.IntN(20) == 0 {
		st.rep, st.to, st.cart = dice.IntN(h.Reps+4)-2, dice.IntN(h.Reps+4)-2, dice.IntN(h.Carts+4)-2
	}
	return st
}

func thrownSteps(dice *rand.Rand, h api.Header, count int) []step {
	var list []step
	for range count {
		list = append(list, thrownStep(dice, clamped(h)))
	}
	return list
}

// without: the steps that aren't of these words.
func without(steps []step, words ...string) []step {
	return sample.Those(steps, func(st step) bool { return !slices.Contains(words, st.what) })
}

// fair: the steps without removes of contexts that no read ever gave out.
func fair(steps []step) []step {
	return sample.Those(steps, func(st step) bool {
		return st.what != "act" || st.act.Kind != api.ActRemoveTo && st.act.Kind != api.ActClearTo
	})
}

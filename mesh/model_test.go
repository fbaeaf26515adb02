package mesh_test

import (
	"fmt"
	"math/rand/v2"
	"slices"

	"barrow/api"
	"barrow/engine"
	"barrow/mesh"
	"barrow/node"
	"barrow/sample"
)

// right: the answer of a call that must not fail.
func right[T any](answer T, err api.Errno) T {
	if err != api.OK {
		panic(fmt.Sprint("error ", err))
	}
	return answer
}

// clamped is the document's words on a head.
func clamped(h api.Header) api.Header {
	for _, f := range []struct {
		field       *int
		least, most int
	}{{&h.Reps, 1, 16}, {&h.Carts, 1, 64}, {&h.Lines, 1, 1000}, {&h.Count, 1, 1000000000}, {&h.Log, 0, 64}, {&h.Tokens, 0, 1000}} {
		if *f.field < f.least {
			*f.field = f.least
		}
		if *f.field > f.most {
			*f.field = f.most
		}
	}
	return h
}

// A slow store is the chapter's words: the replicas, and every message that was ever made.
type slow[S any, E engine.Engine[S]] struct {
	h    api.Header
	reps []*node.Node[S, E]
	all  []message
}

type message struct {
	from, to int
	bytes    []byte
	spent    bool
}

func newSlow[S any, E engine.Engine[S]](h api.Header) *slow[S, E] {
	s := &slow[S, E]{h: clamped(h)}
	for self := range s.h.Reps {
		s.reps = append(s.reps, right(node.New[S, E](s.h, self)))
	}
	return s
}

func (s *slow[S, E]) isRep(rep int) bool { return rep >= 0 && rep <= s.h.Reps-1 }

func (s *slow[S, E]) Head() api.Header { return s.h }

func (s *slow[S, E]) Act(rep, cart int, a api.Act) api.Errno {
	if !s.isRep(rep) {
		return api.ErrRep
	}
	_, err := s.reps[rep].Act(cart, a)
	return err
}

func (s *slow[S, E]) Lines(rep, cart int) ([]api.Line, api.Errno) {
	if !s.isRep(rep) {
		return nil, api.ErrRep
	}
	return s.reps[rep].Lines(cart)
}

func (s *slow[S, E]) Live(rep, cart int) ([]api.Entry, api.Errno) {
	if !s.isRep(rep) {
		return nil, api.ErrRep
	}
	return s.reps[rep].Live(cart)
}

func (s *slow[S, E]) Past(rep, cart int) (api.Past, api.Errno) {
	if !s.isRep(rep) {
		return api.Past{}, api.ErrRep
	}
	return s.reps[rep].Past(cart)
}

func (s *slow[S, E]) State(rep, cart int) (S, api.Errno) {
	var none S
	if !s.isRep(rep) {
		return none, api.ErrRep
	}
	return s.reps[rep].State(cart)
}

func (s *slow[S, E]) Touched(rep int) ([]int, api.Errno) {
	if !s.isRep(rep) {
		return nil, api.ErrRep
	}
	return s.reps[rep].Touched(), api.OK
}

func (s *slow[S, E]) All() [][][]api.Line {
	var all [][][]api.Line
	for rep := range s.h.Reps {
		var carts [][]api.Line
		for cart := range s.h.Carts {
			carts = append(carts, right(s.Lines(rep, cart)))
		}
		all = append(all, carts)
	}
	return all
}

func (s *slow[S, E]) put(from, to int, b []byte) int {
	s.all = append(s.all, message{from: from, to: to, bytes: b})
	return len(s.all)
}

func (s *slow[S, E]) Send(from, to int, full bool) (int, api.Errno) {
	if !s.isRep(from) {
		return 0, api.ErrRep
	}
	b, err := s.reps[from].Sync(to, full)
	if err != api.OK {
		return 0, err
	}
	return s.put(from, to, b), api.OK
}

func (s *slow[S, E]) Ask(from, to int) (int, api.Errno) {
	if !s.isRep(from) {
		return 0, api.ErrRep
	}
	b, err := s.reps[from].Ask(to)
	if err != api.OK {
		return 0, err
	}
	return s.put(from, to, b), api.OK
}

func (s *slow[S, E]) Push(from, to, back int) (int, api.Errno) {
	if !s.isRep(from) {
		return 0, api.ErrRep
	}
	b, err := s.reps[from].Push(to, back)
	if err != api.OK {
		return 0, err
	}
	return s.put(from, to, b), api.OK
}

// find: the message of that number, if it is under way.
func (s *slow[S, E]) find(n int) *message {
	if n < 1 || n > len(s.all) || s.all[n-1].spent {
		return nil
	}
	return &s.all[n-1]
}

func (s *slow[S, E]) Deliver(n int) (int, api.Errno) {
	m := s.find(n)
	if m == nil {
		return 0, api.ErrMsg
	}
	m.spent = true
	from := m.to
	answer, to, err := s.reps[m.to].Deliver(m.bytes)
	if err != api.OK {
		return 0, api.ErrBad
	}
	if answer == nil {
		return 0, api.OK
	}
	return s.put(from, to, answer), api.OK
}

func (s *slow[S, E]) Copy(n int) (int, api.Errno) {
	m := s.find(n)
	if m == nil {
		return 0, api.ErrMsg
	}
	return s.put(m.from, m.to, m.bytes), api.OK
}

func (s *slow[S, E]) Drop(n int) api.Errno {
	m := s.find(n)
	if m == nil {
		return api.ErrMsg
	}
	m.spent = true
	return api.OK
}

func (s *slow[S, E]) Trim(n, cut int) api.Errno {
	m := s.find(n)
	if m == nil {
		return api.ErrMsg
	}
	if cut < 1 {
		return api.ErrArg
	}
	m.bytes = slices.Clone(m.bytes[:max(0, len(m.bytes)-cut)])
	return api.OK
}

func (s *slow[S, E]) Look(n int) (api.Letter, api.Errno) {
	m := s.find(n)
	if m == nil {
		return api.Letter{}, api.ErrMsg
	}
	return api.Letter{From: m.from, To: m.to, Bytes: slices.Clone(m.bytes)}, api.OK
}

func (s *slow[S, E]) Waiting() []int {
	var list []int
	for i, m := range s.all {
		if !m.spent {
			list = append(list, i+1)
		}
	}
	return list
}

func (s *slow[S, E]) Made() int { return len(s.all) }

// Restart: what is kept comes back, and nothing else.
func (s *slow[S, E]) Restart(rep int) api.Errno {
	if !s.isRep(rep) {
		return api.ErrRep
	}
	s.reps[rep] = right(node.Load[S, E](s.h, s.reps[rep].Durable()))
	return api.OK
}

// A kind is a kind of states as the tests see it.
type kind[S any, E engine.Engine[S]] struct {
	name string
	same func(a, b S) bool
}

func tombs() kind[api.Facts, engine.Tomb] {
	return kind[api.Facts, engine.Tomb]{"Tomb", sample.SameFacts}
}

func swots() kind[api.Swot, engine.Swot] {
	return kind[api.Swot, engine.Swot]{"Swot", sample.SameSwot}
}

// isState: does the store tell the same states as the slow one, and the same errors?
func (k kind[S, E]) isState(m *mesh.Mesh[S, E], s *slow[S, E]) error {
	for _, rep := range around(s.h.Reps) {
		for _, cart := range around(s.h.Carts) {
			got, err := m.State(rep, cart)
			if want, wantErr := s.State(rep, cart); !k.same(got, want) || err != wantErr {
				return fmt.Errorf("%s: State(%d, %d) = %v, %d, want %v, %d", k.name, rep, cart, got, err, want, wantErr)
			}
		}
	}
	return nil
}

// around: 0 to n - 1, and numbers that lie beside them.
func around(n int) []int {
	list := []int{-1 << 63, -1, n, n + 1, 64, 1<<63 - 1}
	for i := range n {
		list = append(list, i)
	}
	return list
}

func newDice() *rand.Rand { return rand.New(rand.NewPCG(39, 40)) }

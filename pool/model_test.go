package pool_test

import (
	"math"
	"math/rand/v2"
	"slices"
	"testing"

	"barrow/api"
	"barrow/pool"
)

// A slow pool is the chapter's words: every message that was ever made, and whether it is spent.
type slow struct{ all []message }

type message struct {
	from, to int
	bytes    string
	spent    bool
}

func (s *slow) made() int { return len(s.all) }

// find: the message of that number, if it is under way.
func (s *slow) find(n int) *message {
	if n < 1 || n > len(s.all) || s.all[n-1].spent {
		return nil
	}
	return &s.all[n-1]
}

func (s *slow) put(from, to int, bytes string) int {
	s.all = append(s.all, message{from: from, to: to, bytes: bytes})
	return len(s.all)
}

func (s *slow) look(n int) (message, api.Errno) {
	if m := s.find(n); m != nil {
		return *m, api.OK
	}
	return message{}, api.ErrMsg
}

func (s *slow) take(n int) (message, api.Errno) {
	m, err := s.look(n)
	if err == api.OK {
		s.all[n-1].spent = true
	}
	return m, err
}

func (s *slow) copy(n int) (int, api.Errno) {
	m, err := s.look(n)
	if err != api.OK {
		return 0, err
	}
	return s.put(m.from, m.to, m.bytes), api.OK
}

func (s *slow) trim(n, cut int) api.Errno {
	m := s.find(n)
	if m == nil {
		return api.ErrMsg
	}
	if cut < 1 {
		return api.ErrArg
	}
	for ; cut > 0 && m.bytes != ""; cut-- {
		m.bytes = m.bytes[:len(m.bytes)-1]
	}
	return api.OK
}

func (s *slow) waiting() []int {
	var list []int
	for n := 1; n <= len(s.all); n++ {
		if !s.all[n-1].spent {
			list = append(list, n)
		}
	}
	return list
}

// A pair is a pool and its model; each of its calls holds the one against the other.
type pair struct {
	*testing.T
	p *pool.Pool
	s *slow
}

func newPair(t *testing.T) pair { return pair{t, pool.New(), &slow{}} }

func (p pair) put(from, to int, bytes string) {
	p.Helper()
	if got, want := p.p.Put(api.Letter{From: from, To: to, Bytes: []byte(bytes)}), p.s.put(from, to, bytes); got != want {
		p.Errorf("Put(%d, %d, %q) = %d, want %d", from, to, bytes, got, want)
	}
}

func (p pair) isLetter(name string, n int, l api.Letter, err api.Errno, want message, wantErr api.Errno) {
	p.Helper()
	if err != wantErr || l.From != want.from || l.To != want.to || string(l.Bytes) != want.bytes {
		p.Errorf("%s(%d) = %v, %d, want %v, %d", name, n, l, err, want, wantErr)
	}
}

func (p pair) look(n int) {
	p.Helper()
	l, err := p.p.Look(n)
	want, wantErr := p.s.look(n)
	p.isLetter("Look", n, l, err, want, wantErr)
}

func (p pair) take(n int) {
	p.Helper()
	l, err := p.p.Take(n)
	want, wantErr := p.s.take(n)
	p.isLetter("Take", n, l, err, want, wantErr)
}

func (p pair) drop(n int) {
	p.Helper()
	_, want := p.s.take(n)
	if err := p.p.Drop(n); err != want {
		p.Errorf("Drop(%d) = %d, want %d", n, err, want)
	}
}

func (p pair) copy(n int) {
	p.Helper()
	got, err := p.p.Copy(n)
	if want, wantErr := p.s.copy(n); got != want || err != wantErr {
		p.Errorf("Copy(%d) = %d, %d, want %d, %d", n, got, err, want, wantErr)
	}
}

func (p pair) trim(n, cut int) {
	p.Helper()
	if got, want := p.p.Trim(n, cut), p.s.trim(n, cut); got != want {
		p.Errorf("Trim(%d, %d) = %d, want %d", n, cut, got, want)
	}
}

// asked: the numbers of all messages, and some that are none.
func (p pair) asked() []int {
	list := []int{math.MinInt, math.MinInt + 1, -2, -1, 0, math.MaxInt - 1, math.MaxInt}
	for n := range p.s.made() + 3 {
		list = append(list, n+1, -n)
	}
	return list
}

// check holds all that the pool tells of itself against the model.
func (p pair) check() {
	p.Helper()
	if got, want := p.p.Made(), p.s.made(); got != want {
		p.Errorf("Made = %d, want %d", got, want)
	}
	if got, want := p.p.Waiting(), p.s.waiting(); !slices.Equal(got, want) {
		p.Errorf("Waiting = %v, want %v", got, want)
	}
	for _, n := range p.asked() {
		p.look(n)
	}
}

func newDice() *rand.Rand { return rand.New(rand.NewPCG(33, 34)) }

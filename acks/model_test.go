package acks_test

import (
	"math"
	"math/rand/v2"
	"slices"
	"testing"

	"barrow/acks"
	"barrow/api"
)

// A slow table is the chapter's words: of each peer all that it acknowledged since the last Reset.
type slow struct {
	reps, self int
	told       map[int][]int
}

func newSlow(reps, self int) *slow { return &slow{reps, self, map[int][]int{}} }

func (s *slow) isPeer(peer int) api.Errno {
	if peer < 0 || peer > s.reps-1 {
		return api.ErrRep
	}
	if peer == s.self {
		return api.ErrSelf
	}
	return api.OK
}

func (s *slow) heard(peer, hi int) api.Errno {
	if err := s.isPeer(peer); err != api.OK {
		return err
	}
	if !(0 <= hi && hi <= 1<<62) {
		return api.ErrArg
	}
	s.told[peer] = append(s.told[peer], hi)
	return api.OK
}

// number: the greatest that was told, 0 at first.
func (s *slow) number(peer int) int { return slices.Max(append([]int{0}, s.told[peer]...)) }

func (s *slow) of(peer int) (int, api.Errno) {
	if err := s.isPeer(peer); err != api.OK {
		return 0, err
	}
	return s.number(peer), api.OK
}

func (s *slow) plan(peer, first, next int) (api.Plan, api.Errno) {
	if err := s.isPeer(peer); err != api.OK {
		return api.Plan{}, err
	}
	if !(0 <= first && first <= next && next <= 1<<62) {
		return api.Plan{}, api.ErrArg
	}
	if a := s.number(peer); first <= a && a <= next {
		return api.Plan{Full: false, Lo: a, Hi: next}, api.OK
	}
	return api.Plan{Full: true, Lo: 0, Hi: next}, api.OK
}

func (s *slow) all() []int {
	list := make([]int, s.reps)
	for rep := range s.reps {
		if rep != s.self {
			list[rep] = s.number(rep)
		}
	}
	return list
}

func (s *slow) least() (int, bool) {
	peers := slices.Delete(s.all(), s.self, s.self+1)
	if len(peers) == 0 {
		return 0, false
	}
	return slices.Min(peers), true
}

func (s *slow) reset() { s.told = map[int][]int{} }

// A pair is a table and its model.
type pair struct {
	t *acks.Table
	s *slow
}

func newPair(t *testing.T, reps, self int) pair {
	t.Helper()
	table, err := acks.New(reps, self)
	if table == nil || err != api.OK {
		t.Fatalf("New(%d, %d) = %v, %d", reps, self, table, err)
	}
	return pair{table, newSlow(reps, self)}
}

func (p pair) heard(t *testing.T, peer, hi int) {
	t.Helper()
	if got, want := p.t.Heard(peer, hi), p.s.heard(peer, hi); got != want {
		t.Errorf("of %d among %d: Heard(%d, %d) = %d, want %d", p.s.self, p.s.reps, peer, hi, got, want)
	}
}

func (p pair) reset() {
	p.t.Reset()
	p.s.reset()
}

func (p pair) plan(t *testing.T, peer, first, next int) {
	t.Helper()
	got, err := p.t.Plan(peer, first, next)
	if want, wantErr := p.s.plan(peer, first, next); got != want || err != wantErr {
		t.Errorf("of %d among %d, numbers %v: Plan(%d, %d, %d) = %v, %d, want %v, %d", p.s.self, p.s.reps, p.s.all(), peer, first, next, got, err, want, wantErr)
	}
}

// asked: peers, self, and numbers that are no replica.
func (p pair) asked() []int {
	list := []int{math.MinInt, -16, -1, p.s.reps, p.s.reps + 1, 15, 16, 17, math.MaxInt}
	for rep := range p.s.reps {
		list = append(list, rep)
	}
	return list
}

// near: the number, its neighbours, and the bounds.
func near(n int) []int { return []int{n - 1, n, n + 1, 0, api.MaxSeq} }

// check holds all that the table tells against the model.
func (p pair) check(t *testing.T) {
	t.Helper()
	if got := p.t.All(); !slices.Equal(got, p.s.all()) {
		t.Errorf("of %d among %d: All = %v, want %v", p.s.self, p.s.reps, got, p.s.all())
	}
	least, any := p.t.Least()
	if want, wantAny := p.s.least(); least != want || any != wantAny {
		t.Errorf("of %d among %d, numbers %v: Least = %d, %t, want %d, %t", p.s.self, p.s.reps, p.s.all(), least, any, want, wantAny)
	}
	for _, peer := range p.asked() {
		got, err := p.t.Of(peer)
		if want, wantErr := p.s.of(peer); got != want || err != wantErr {
			t.Errorf("of %d among %d: Of(%d) = %d, %d, want %d, %d", p.s.self, p.s.reps, peer, got, err, want, wantErr)
		}
		for _, first := range near(got) {
			for _, next := range near(got) {
				p.plan(t, peer, first, next)
			}
		}
	}
}

// numbers: what a peer may acknowledge, and what it may not.
func numbers() []int {
	return []int{math.MinInt, -1, 0, 1, 2, 3, 4, 5, 9, 64, 1 << 40, api.MaxSeq - 1, api.MaxSeq, api.MaxSeq + 1, math.MaxInt}
}

func newDice() *rand.Rand { return rand.New(rand.NewPCG(29, 30)) }

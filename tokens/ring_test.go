package tokens_test

import (
	"math"
	"math/rand/v2"
	"testing"

	"barrow/api"
	"barrow/tokens"
)

// A slow ring is the chapter's words: every token that was ever given, and how many of the last are held.
type slow struct {
	keep int
	all  []api.Token
}

// first: the number of the oldest token that is held, if one is.
func (s *slow) first() int { return max(1, len(s.all)-s.keep+1) }

func (s *slow) find(n int) (api.Token, api.Errno) {
	if n < s.first() || n > len(s.all) {
		return api.Token{}, api.ErrToken
	}
	return s.all[n-1], api.OK
}

func (s *slow) span() (int, int) {
	if s.first() > len(s.all) {
		return 0, 0
	}
	return s.first(), len(s.all)
}

// A pair is a ring and its model; each of its calls holds the one against the other.
type pair struct {
	*testing.T
	r *tokens.Ring
	s *slow
}

func newPair(t *testing.T, keep int) pair {
	t.Helper()
	r, err := tokens.New(keep)
	if r == nil || err != api.OK {
		t.Fatalf("New(%d) = %v, %d", keep, r, err)
	}
	return pair{t, r, &slow{keep: keep}}
}

func (p pair) give(t api.Token) {
	p.Helper()
	p.s.all = append(p.s.all, t)
	if n, err := p.r.Give(t); n != len(p.s.all) || err != api.OK {
		p.Errorf("Give(%v) = %d, %d, want %d", t, n, err, len(p.s.all))
	}
}

func (p pair) refuse(t api.Token) {
	p.Helper()
	if n, err := p.r.Give(t); n != 0 || err != api.ErrForm {
		p.Errorf("Give(%v) = %d, %d", t, n, err)
	}
}

func (p pair) find(n int) {
	p.Helper()
	want, wantErr := p.s.find(n)
	if got, err := p.r.Find(n); !same(got, want) || err != wantErr {
		p.Errorf("Find(%d) of a ring of %d with %d given = %v, %d, want %v, %d", n, p.s.keep, len(p.s.all), got, err, want, wantErr)
	}
}

// check holds all that the ring tells of itself against the model.
func (p pair) check() {
	p.Helper()
	if got := p.r.Given(); got != len(p.s.all) {
		p.Errorf("Given = %d, want %d", got, len(p.s.all))
	}
	first, last := p.r.Span()
	if wantFirst, wantLast := p.s.span(); first != wantFirst || last != wantLast {
		p.Errorf("Span of a ring of %d with %d given = %d, %d, want %d, %d", p.s.keep, len(p.s.all), first, last, wantFirst, wantLast)
	}
	for _, n := range []int{math.MinInt, math.MinInt + 1, -1001, -1000, -2, -1, math.MaxInt - 1, math.MaxInt} {
		p.find(n)
	}
	for n := range len(p.s.all) + 4 {
		p.find(n)
		p.find(-n)
	}
}

func TestNew(t *testing.T) { // P23.1
	for _, keep := range []int{0, 1, 2, 3, 64, 65, 999, 1000} {
		newPair(t, keep).check()
	}
	for _, keep := range []int{math.MinInt, -1000, -2, -1, 1001, 1002, 1 << 32, math.MaxInt} {
		if r, err := tokens.New(keep); r != nil || err != api.ErrArg {
			t.Errorf("New(%d) = %v, %d", keep, r, err)
		}
	}
}

func TestEveryCountOfTokens(t *testing.T) { // P23.1
	list := right(100)
	for _, keep := range []int{0, 1, 2, 3, 4, 7, 8, 20} {
		p := newPair(t, keep)
		p.check()
		for i := range 3*keep + 5 {
			p.give(list[i%len(list)])
			p.check()
		}
	}
}

func TestGreatRings(t *testing.T) { // P23.1
	list := right(300)
	for _, keep := range []int{64, 65, 999, 1000} {
		p := newPair(t, keep)
		for i := range 2*keep + 3 {
			p.give(list[i%len(list)])
			if i%97 == 0 || i == keep-1 || i == keep {
				p.check()
			}
		}
		p.check()
	}
}

// throw makes one call that the dice choose.
func (p pair) throw(dice *rand.Rand, taken, refused []api.Token) {
	p.Helper()
	switch dice.IntN(4) {
	case 0:
		p.refuse(refused[dice.IntN(len(refused))])
	case 1:
		p.find(dice.IntN(len(p.s.all)+4) - 1)
	default:
		p.give(taken[dice.IntN(len(taken))])
	}
}

func TestRingsSideBySide(t *testing.T) { // P23.1
	dice := newDice()
	taken, refused := right(200), wrong()
	var pairs []pair
	for range 3 {
		for keep := range 6 {
			pairs = append(pairs, newPair(t, keep))
		}
	}
	for i := range 1500 {
		p := pairs[dice.IntN(len(pairs))]
		p.throw(dice, taken, refused)
		if i%10 == 0 {
			p.check()
		}
	}
	for _, p := range pairs {
		p.check()
	}
}

// A refused call changes nothing, the next token's number neither.
func TestARefusedGiveChangesNothing(t *testing.T) { // P23.1
	for keep := range 4 {
		p := newPair(t, keep)
		for i := range 6 {
			for _, bad := range wrong() {
				p.refuse(bad)
			}
			p.check()
			p.give(tk(i, []int{i + 1}))
		}
		p.check()
	}
}

func TestRingExamples(t *testing.T) { // P23.1
	p := newPair(t, 2)
	third := tk(3, []int{3})
	for _, given := range []api.Token{tk(1, []int{1}), tk(2, []int{2}), third} {
		p.give(given)
	}
	if first, last := p.r.Span(); first != 2 || last != 3 || p.r.Given() != 3 {
		t.Errorf("Span = %d, %d, Given = %d", first, last, p.r.Given())
	}
	if got, err := p.r.Find(1); !same(got, api.Token{}) || err != api.ErrToken {
		t.Errorf("Find(1) = %v, %d", got, err)
	}
	if got, err := p.r.Find(3); !same(got, third) || err != api.OK {
		t.Errorf("Find(3) = %v, %d", got, err)
	}
	p.refuse(tk(64, []int{1}))
	p.refuse(tk(0, []int{1, 0}))
	p.check()

	none := newPair(t, 0)
	none.give(api.Token{})
	if got, err := none.r.Find(1); !same(got, api.Token{}) || err != api.ErrToken {
		t.Errorf("Find(1) of a ring of 0 = %v, %d", got, err)
	}
	if first, last := none.r.Span(); first != 0 || last != 0 {
		t.Errorf("Span of a ring of 0 = %d, %d", first, last)
	}
}

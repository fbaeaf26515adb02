package pool_test

import (
	"math"
	"math/rand/v2"
	"slices"
	"strings"
	"testing"

	"barrow/api"
	"barrow/pool"
)

func texts() []string {
	return []string{"", "a", "abc", "\x00", "\xff\x00\xff", "a long message " + strings.Repeat("z", 300)}
}

func ends() []int {
	return []int{0, 1, 2, 15, 16, -1, 64, math.MinInt, math.MaxInt}
}

func cuts() []int {
	return []int{math.MinInt, -100, -1, 0, 1, 2, 3, 4, 100, 315, 316, math.MaxInt}
}

// throw makes one call that the dice choose, mostly on messages that were made.
func (p pair) throw(dice *rand.Rand) {
	p.Helper()
	n := dice.IntN(p.s.made()+4) - 1
	if dice.IntN(10) == 0 {
		all := p.asked()
		n = all[dice.IntN(len(all))]
	}
	switch dice.IntN(9) {
	case 0, 1, 2:
		p.put(ends()[dice.IntN(len(ends()))], ends()[dice.IntN(len(ends()))], texts()[dice.IntN(len(texts()))])
	case 3:
		p.copy(n)
	case 4:
		p.take(n)
	case 5:
		p.drop(n)
	case 6, 7:
		p.trim(n, cuts()[dice.IntN(len(cuts()))])
	default:
		p.look(n)
	}
}

func TestEveryOrderOfCalls(t *testing.T) { // P19.1, P19.2, P19.3
	dice := newDice()
	for range 60 {
		p := newPair(t)
		p.check()
		for i := range 80 {
			p.throw(dice)
			if i%4 == 0 {
				p.check()
			}
		}
		p.check()
	}
}

func TestPoolsSideBySide(t *testing.T) { // P19.1
	dice := newDice()
	var pairs []pair
	for range 8 {
		pairs = append(pairs, newPair(t))
	}
	for range 1500 {
		pairs[dice.IntN(len(pairs))].throw(dice)
	}
	for _, p := range pairs {
		p.check()
	}
}

func TestExamples(t *testing.T) { // P19.1
	p := newPair(t)
	p.put(0, 1, "abc")
	p.put(1, 0, "")
	if p.p.Made() != 2 || !slices.Equal(p.p.Waiting(), []int{1, 2}) {
		t.Errorf("Made = %d, Waiting = %v", p.p.Made(), p.p.Waiting())
	}
	p.copy(1)
	p.trim(1, 2)
	for n, want := range map[int]string{1: "a", 3: "abc"} {
		if l, err := p.p.Look(n); l.From != 0 || l.To != 1 || string(l.Bytes) != want || err != api.OK {
			t.Errorf("Look(%d) = %v, %d", n, l, err)
		}
	}
	for _, c := range []struct {
		n, cut int
		want   api.Errno
	}{{3, 100, api.OK}, {3, 1, api.OK}, {3, 0, api.ErrArg}, {9, 0, api.ErrMsg}} {
		if err := p.p.Trim(c.n, c.cut); err != c.want {
			t.Errorf("Trim(%d, %d) = %d", c.n, c.cut, err)
		}
		p.s.trim(c.n, c.cut)
	}
	p.check()
	p.take(1)
	p.take(1)
	p.copy(1)
	p.drop(2)
	p.drop(2)
	p.check()
	if p.p.Made() != 3 || !slices.Equal(p.p.Waiting(), []int{3}) {
		t.Errorf("Made = %d, Waiting = %v", p.p.Made(), p.p.Waiting())
	}
	for _, n := range []int{0, -1, 4} {
		if l, err := p.p.Look(n); err != api.ErrMsg || l.Bytes != nil {
			t.Errorf("Look(%d) = %v, %d", n, l, err)
		}
	}
}

func TestAnEmptyPool(t *testing.T) { // P19.1, P19.3
	p := newPair(t)
	p.check()
	for _, n := range []int{math.MinInt, -1, 0, 1, 2, math.MaxInt} {
		p.take(n)
		p.drop(n)
		p.copy(n)
		for _, cut := range cuts() {
			p.trim(n, cut)
		}
		p.check()
	}
	p.put(0, 1, "first")
	p.check()
}

func TestLettersAreKeptAsTheyAre(t *testing.T) { // P19.1, P19.2
	for _, text := range texts() {
		p := newPair(t)
		for _, from := range ends() {
			for _, to := range ends() {
				p.put(from, to, text)
				p.copy(p.s.made())
			}
		}
		p.check()
	}
}

func TestEveryCut(t *testing.T) { // P19.1, P19.2
	for length := range 9 {
		for _, cut := range []int{math.MinInt, -1, 0, 1, 2, 3, 4, 5, 6, 7, 8, 9, 10, math.MaxInt} {
			p := newPair(t)
			p.put(3, 4, "abcdefgh"[:length])
			p.copy(1)
			p.trim(1, cut)
			p.copy(1)
			p.check()
			p.trim(1, cut)
			p.trim(2, 1)
			p.check()
			p.take(1)
			p.trim(1, cut)
			p.check()
		}
	}
}

// A refused call changes nothing, the next message's number neither.
func TestARefusedCallChangesNothing(t *testing.T) { // P19.1
	p := newPair(t)
	for _, text := range texts() {
		p.put(0, 1, text)
	}
	p.drop(2)
	p.take(4)
	for _, n := range []int{math.MinInt, -1, 0, 2, 4, 7, 8, math.MaxInt} {
		p.look(n)
		p.take(n)
		p.drop(n)
		p.copy(n)
		p.trim(n, 1)
		p.check()
	}
	for _, cut := range []int{math.MinInt, -1, 0} {
		p.trim(3, cut)
		p.check()
	}
	p.put(5, 6, "seventh")
	p.check()
}

func TestNoMessageIsSpentTwice(t *testing.T) { // P19.2
	spend := map[string]func(p *pool.Pool, n int) api.Errno{
		"Take": func(p *pool.Pool, n int) api.Errno { _, err := p.Take(n); return err },
		"Drop": func(p *pool.Pool, n int) api.Errno { return p.Drop(n) },
	}
	for first, one := range spend {
		for second, two := range spend {
			p := pool.New()
			p.Put(api.Letter{Bytes: []byte("abc")})
			if err := one(p, 1); err != api.OK {
				t.Errorf("%s: %d", first, err)
			}
			p.Put(api.Letter{Bytes: []byte("other")})
			if err := two(p, 1); err != api.ErrMsg {
				t.Errorf("%s behind %s: %d", second, first, err)
			}
		}
	}
}

func TestWaitingRisesWithManyMessages(t *testing.T) { // P19.3
	dice := newDice()
	p := newPair(t)
	for i := range 3000 {
		p.put(i, -i, "")
	}
	for _, n := range dice.Perm(3000)[:2000] {
		if n%2 == 0 {
			p.take(n + 1)
		} else {
			p.drop(n + 1)
		}
	}
	p.check()
	for n := range 3000 {
		p.drop(n + 1)
	}
	p.check()
	p.put(1, 2, "the last")
	p.check()
}

package dlog_test

import (
	"math"
	"slices"
	"testing"

	"barrow/api"
	"barrow/dlog"
)

// A pair is a log and its model.
type pair struct {
	l *dlog.Log[int]
	s *slow[int]
}

func newPair(most, start int) pair {
	return pair{dlog.New[int](most, start), newSlow[int](most, start)}
}

func (p pair) push(t *testing.T, item int) {
	t.Helper()
	if got, want := p.l.Push(item), p.s.push(item); got != want {
		t.Errorf("Push(%d) = %d, want %d", item, got, want)
	}
}

func (p pair) trim(t *testing.T, n int) {
	t.Helper()
	if got, want := p.l.Trim(n), p.s.trim(n); got != want {
		t.Errorf("Trim(%d) = %d, want %d", n, got, want)
	}
}

func TestEveryOrderOfCalls(t *testing.T) { // P16.1, P16.2, P16.3
	dice := newDice()
	mosts := []int{math.MinInt, -1, 0, 1, 2, 3, 7, 63, 64, 65, math.MaxInt}
	starts := []int{math.MinInt, -3, 0, 1, 5, api.MaxSeq - 2, api.MaxSeq, api.MaxSeq + 1, math.MaxInt}
	for _, most := range mosts {
		for _, start := range starts {
			p := newPair(most, start)
			check(t, p.l, p.s)
			for i := range 40 {
				for range dice.IntN(6) {
					p.push(t, dice.IntN(1000))
				}
				if dice.IntN(3) == 0 {
					asked := p.s.asked()
					p.trim(t, asked[dice.IntN(len(asked))])
				}
				if i%4 == 0 {
					check(t, p.l, p.s)
				}
			}
			check(t, p.l, p.s)
		}
	}
}

func TestLogsSideBySide(t *testing.T) { // P16.1
	dice := newDice()
	var pairs []pair
	for i := range 12 {
		pairs = append(pairs, newPair(i, i*3))
	}
	for i := range 600 {
		p := pairs[dice.IntN(len(pairs))]
		p.push(t, i)
		if dice.IntN(4) == 0 {
			other := pairs[dice.IntN(len(pairs))]
			other.trim(t, other.s.first+dice.IntN(4))
		}
	}
	for _, p := range pairs {
		check(t, p.l, p.s)
	}
}

func TestNumbersNeverComeAgain(t *testing.T) { // P16.2
	dice := newDice()
	for _, most := range []int{0, 1, 5, 64} {
		l := dlog.New[int](most, 9)
		for range 400 {
			first, next := l.First(), l.Next()
			if dice.IntN(3) > 0 {
				if n := l.Push(7); n != next || l.Next() != next+1 {
					t.Errorf("Push = %d, Next %d and then %d", n, next, l.Next())
				}
			} else if l.Trim(next - 4 + dice.IntN(6)); l.Next() != next {
				t.Errorf("Trim: Next %d and then %d", next, l.Next())
			}
			l.At(first)
			l.From(first)
			told(l.Walk(first))
			if l.First() < first || l.First() > l.Next() || l.Next()-l.First() > most {
				t.Errorf("most %d: First %d and then %d, Next %d", most, first, l.First(), l.Next())
			}
		}
	}
}

func TestTheGreatestRoom(t *testing.T) { // P16.1
	for _, most := range []int{64, 65, 1000, math.MaxInt} {
		l := dlog.New[int](most, 0)
		for i := range 200 {
			l.Push(i)
			if held := l.Next() - l.First(); held != min(i+1, 64) {
				t.Errorf("most %d: %d held behind %d", most, held, i+1)
			}
		}
	}
}

func TestExamples(t *testing.T) { // P16.1
	l := dlog.New[string](2, 5)
	if l.First() != 5 || l.Next() != 5 {
		t.Errorf("First, Next = %d, %d", l.First(), l.Next())
	}
	for i, s := range []string{"a", "b", "c"} {
		if n := l.Push(s); n != 5+i {
			t.Errorf("Push(%q) = %d", s, n)
		}
	}
	if l.First() != 6 || l.Next() != 8 {
		t.Errorf("First, Next = %d, %d", l.First(), l.Next())
	}
	if s, ok := l.At(5); s != "" || ok {
		t.Errorf("At(5) = %q, %t", s, ok)
	}
	if s, ok := l.At(6); s != "b" || !ok {
		t.Errorf("At(6) = %q, %t", s, ok)
	}
	for n, want := range map[int][]string{6: {"b", "c"}, 7: {"c"}, 8: nil, 5: nil, 9: nil} {
		if got, ok := l.From(n); !slices.Equal(got, want) || ok != (6 <= n && n <= 8) {
			t.Errorf("From(%d) = %q, %t", n, got, ok)
		}
	}
	for n, want := range map[int][]int{0: {6, 7}, 7: {7}, 8: nil} {
		if got, _ := told(l.Walk(n)); !slices.Equal(got, want) {
			t.Errorf("Walk(%d) gives %v", n, got)
		}
	}
	seq := l.Walk(0)
	for _, c := range []struct{ n, want, first int }{{7, 1, 7}, {3, 0, 7}, {100, 1, 8}, {8, 0, 8}} {
		if got := l.Trim(c.n); got != c.want || l.First() != c.first || l.Next() != 8 {
			t.Errorf("Trim(%d) = %d, First %d, Next %d", c.n, got, l.First(), l.Next())
		}
	}
	if numbers, items := told(seq); !slices.Equal(numbers, []int{6, 7}) || !slices.Equal(items, []string{"b", "c"}) {
		t.Errorf("behind Trim the iterator gives %v, %q", numbers, items)
	}
}

func TestALogThatHoldsNothing(t *testing.T) { // P16.1
	l := dlog.New[int](0, -3)
	if l.First() != 0 || l.Next() != 0 || l.Push(9) != 0 || l.First() != 1 || l.Next() != 1 {
		t.Errorf("First, Next = %d, %d", l.First(), l.Next())
	}
	if x, ok := l.At(0); x != 0 || ok {
		t.Errorf("At(0) = %d, %t", x, ok)
	}
	if list, ok := l.From(1); len(list) != 0 || !ok {
		t.Errorf("From(1) = %v, %t", list, ok)
	}
}

func TestNumbersGoOnAboveTheGreatestStart(t *testing.T) { // P16.1
	l := dlog.New[string](2, math.MaxInt)
	for i, s := range []string{"a", "b", "c"} {
		if n := l.Push(s); n != api.MaxSeq+i {
			t.Errorf("Push(%q) = %d", s, n)
		}
	}
	if s, ok := l.At(api.MaxSeq + 2); s != "c" || !ok || l.First() != api.MaxSeq+1 {
		t.Errorf("At = %q, %t, First %d", s, ok, l.First())
	}
}

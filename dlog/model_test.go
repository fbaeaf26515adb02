package dlog_test

import (
	"iter"
	"math"
	"math/rand/v2"
	"slices"
	"testing"

	"barrow/api"
	"barrow/dlog"
)

// A slow log is the chapter's words: every item that was ever pushed, and which numbers are held.
type slow[T any] struct {
	all                      []T
	most, start, first, next int
}

func newSlow[T any](most, start int) *slow[T] {
	most, start = min(max(most, 0), 64), min(max(start, 0), api.MaxSeq)
	return &slow[T]{most: most, start: start, first: start, next: start}
}

func (s *slow[T]) push(t T) int {
	s.all = append(s.all, t)
	s.next++
	if s.next-s.first > s.most {
		s.first++
	}
	return s.next - 1
}

func (s *slow[T]) trim(n int) int {
	went := 0
	for s.first < s.next && s.first < n {
		s.first++
		went++
	}
	return went
}

func (s *slow[T]) at(n int) (T, bool) {
	if s.first <= n && n < s.next {
		return s.all[n-s.start], true
	}
	var none T
	return none, false
}

// from: the numbers from n on that are held, and their items.
func (s *slow[T]) from(n int) ([]int, []T) {
	var numbers []int
	var items []T
	for k := s.first; k < s.next; k++ {
		if k >= n {
			numbers, items = append(numbers, k), append(items, s.all[k-s.start])
		}
	}
	return numbers, items
}

// told: what an iterator gives.
func told[T any](seq iter.Seq2[int, T]) ([]int, []T) {
	var numbers []int
	var items []T
	for n, t := range seq {
		numbers, items = append(numbers, n), append(items, t)
	}
	return numbers, items
}

// asked: the numbers about which a log is asked: all near to what it holds, and far ones.
func (s *slow[T]) asked() []int {
	all := []int{math.MinInt, math.MinInt + 1, -1, 0, 1, api.MaxSeq - 1, api.MaxSeq, api.MaxSeq + 1, math.MaxInt - 1, math.MaxInt}
	for n := s.first - 3; n <= s.next+3; n++ {
		all = append(all, n)
	}
	return all
}

// check holds all that the log tells of itself against the model.
func check[T comparable](t *testing.T, l *dlog.Log[T], s *slow[T]) {
	t.Helper()
	if l.First() != s.first || l.Next() != s.next {
		t.Fatalf("First, Next = %d, %d, want %d, %d", l.First(), l.Next(), s.first, s.next)
	}
	if l.Next()-l.First() > s.most {
		t.Errorf("%d items are held, of at most %d", l.Next()-l.First(), s.most)
	}
	for _, n := range s.asked() {
		got, ok := l.At(n)
		if want, wantOk := s.at(n); got != want || ok != wantOk {
			t.Errorf("At(%d) = %v, %t, want %v, %t", n, got, ok, want, wantOk)
		}
		numbers, items := s.from(n)
		if gotNumbers, gotItems := told(l.Walk(n)); !slices.Equal(gotNumbers, numbers) || !slices.Equal(gotItems, items) {
			t.Errorf("Walk(%d) gives %v, %v, want %v, %v", n, gotNumbers, gotItems, numbers, items)
		}
		wantOk := s.first <= n && n <= s.next
		if !wantOk {
			items = nil
		}
		if list, ok := l.From(n); !slices.Equal(list, items) || ok != wantOk {
			t.Errorf("From(%d) = %v, %t, want %v, %t", n, list, ok, items, wantOk)
		}
	}
}

func newDice() *rand.Rand { return rand.New(rand.NewPCG(27, 28)) }

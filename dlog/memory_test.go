package dlog_test

import (
	"runtime"
	"slices"
	"testing"
	"weak"

	"barrow/dlog"
	"barrow/memcheck"
)

// filled: a log of the numbers 0 .. count-1, of which the last ones are held.
func filled(most, count int) *dlog.Log[int] {
	l := dlog.New[int](most, 0)
	for i := range count {
		l.Push(i)
	}
	return l
}

func TestAnsweredListsStay(t *testing.T) { // P16.3
	for _, most := range []int{1, 3, 8, 64} {
		for n := range 90 {
			l := filled(most, 80)
			list, _ := l.From(n)
			before := slices.Clone(list[:cap(list)])
			seq := l.Walk(n)
			numbers, _ := told(seq)
			for i := range 70 {
				l.Push(1000 + i)
				l.Trim(l.First() + i%2)
			}
			l.Trim(1000)
			if !slices.Equal(list[:cap(list)], before) {
				t.Errorf("From(%d) answered %v, and later it is %v", n, before, list)
			}
			got, items := told(seq)
			if !slices.Equal(got, numbers) || !slices.Equal(items, numbers) {
				t.Errorf("Walk(%d) gave %v, and later %v, %v", n, numbers, got, items)
			}
		}
	}
}

// checkOwnMemory: what is written into an answer of From, its spare room too, is lost on the log and on its other answers.
func checkOwnMemory(t *testing.T, l *dlog.Log[int], n int) {
	t.Helper()
	one, _ := l.From(n)
	two, _ := l.From(n)
	seq := l.Walk(n)
	if memcheck.Shared([]memcheck.Region{memcheck.Numbers(one), memcheck.Numbers(two)}) {
		t.Errorf("two answers of From(%d) share memory", n)
	}
	l.Push(l.Next())
	for k, item := range l.Walk(0) {
		if at, ok := l.At(k); item != k || at != k || !ok {
			t.Errorf("behind a write into From(%d), item %d is %d, %d, %t", n, k, item, at, ok)
		}
	}
	for k, item := range seq {
		if item != k {
			t.Errorf("behind a write into From(%d), an iterator gives %d as item %d", n, item, k)
		}
	}
}

func TestAnsweredListsAreNewMemory(t *testing.T) { // R7
	for _, count := range []int{0, 1, 2, 5, 7, 64, 70} {
		for back := range min(count, 64) + 1 {
			checkOwnMemory(t, filled(64, count), count-back)
		}
	}
}

func TestWalkIsGoneOverSeveralTimes(t *testing.T) { // P16.1, P16.3
	l := filled(3, 5)
	seq := l.Walk(0)
	var got []int
	for n := range seq {
		for m, item := range seq {
			got = append(got, 10*n+item)
			if m == 3 {
				break
			}
		}
		if n == 3 {
			break
		}
	}
	if want := []int{22, 23, 32, 33}; !slices.Equal(got, want) {
		t.Errorf("Walk within itself, left early, gives %v", got)
	}
	for range 2 {
		if numbers, items := told(seq); !slices.Equal(numbers, []int{2, 3, 4}) || !slices.Equal(items, numbers) {
			t.Errorf("Walk again gives %v, %v", numbers, items)
		}
	}
	for n := range seq {
		l.Push(n)
		l.Trim(100)
		got = append(got, n)
	}
	if !slices.Equal(got[4:], []int{2, 3, 4}) {
		t.Errorf("Walk with pushes within gives %v", got[4:])
	}
	for _, l := range []*dlog.Log[int]{l, filled(0, 3), dlog.New[int](5, 5)} {
		if seq := l.Walk(0); seq == nil {
			t.Error("Walk answers nil")
		} else if numbers, _ := told(seq); l.First() == l.Next() && len(numbers) > 0 {
			t.Errorf("Walk of an empty log gives %v", numbers)
		}
	}
}

func TestItemsAreKeptAsTheValueThatTheyAre(t *testing.T) { // P16.1
	l := dlog.New[[]int](2, 0)
	mine, other := []int{1, 2, 3}, []int{4}
	l.Push(mine)
	l.Push(other)
	at, _ := l.At(0)
	from, _ := l.From(0)
	mine[0] = 9
	if at[0] != 9 || from[0][0] != 9 {
		t.Errorf("the log holds a copy: %v, %v", at, from)
	}
	for _, item := range l.Walk(0) {
		if &item[0] != &mine[0] && &item[0] != &other[0] {
			t.Errorf("Walk gives a copy: %v", item)
		}
	}
	l.Push(nil)
	l.Trim(9)
	if !slices.Equal(mine, []int{9, 2, 3}) || !slices.Equal(other, []int{4}) {
		t.Errorf("the log wrote into its items: %v, %v", mine, other)
	}
}

// letGo: a log of pointers, and weak ones to the items that it let go.
func letGo() (*dlog.Log[*[64]int], []weak.Pointer[[64]int]) {
	l := dlog.New[*[64]int](4, 0)
	var went []weak.Pointer[[64]int]
	for range 10 {
		item := new([64]int)
		went = append(went, weak.Make(item))
		l.Push(item)
	}
	l.Trim(8)
	return l, went[:8]
}

// What is kept from call to call is no more than the promises need.
func TestWhatIsLetGoIsNotKept(t *testing.T) { // P16.2
	l, went := letGo()
	runtime.GC()
	runtime.GC()
	for n, p := range went {
		if p.Value() != nil {
			t.Errorf("item %d was let go and is still kept", n)
		}
	}
	if item, ok := l.At(8); item == nil || !ok {
		t.Errorf("At(8) = %v, %t", item, ok)
	}
}

// Structs, pointers and things of no size are items as well.
func TestItemsOfAnyKind(t *testing.T) { // P16.1
	empty := dlog.New[struct{}](3, 0)
	pairs := dlog.New[struct{ a, b int }](3, 0)
	errs := dlog.New[error](3, 0)
	for i := range 5 {
		empty.Push(struct{}{})
		pairs.Push(struct{ a, b int }{i, -i})
		errs.Push(nil)
	}
	if list, ok := empty.From(2); len(list) != 3 || !ok {
		t.Errorf("%d items of no size, %t", len(list), ok)
	}
	if p, ok := pairs.At(3); p.a != 3 || p.b != -3 || !ok {
		t.Errorf("At(3) = %v, %t", p, ok)
	}
	if err, ok := errs.At(4); err != nil || !ok {
		t.Errorf("At(4) = %v, %t", err, ok)
	}
}

package shop_test

import (
	"math"
	"runtime"
	"slices"
	"testing"
	"time"

	"barrow/memcheck"
	"barrow/shop"
)

func numbersOfWorkers() []int {
	return []int{math.MinInt, -1, 0, 1, 2, 3, 5, 15, 16, 17, 1 << 40, math.MaxInt}
}

// answered: Run of each.
func answered(texts []string) []string {
	var list []string
	for _, text := range texts {
		list = append(list, shop.Run(text))
	}
	return list
}

func TestBatch(t *testing.T) { // P29.4, R8
	all := texts(20)
	for _, count := range []int{0, 1, 2, 3, 17, len(all)} {
		some := all[:count]
		want := answered(some)
		for _, workers := range numbersOfWorkers() {
			if got := shop.Batch(some, workers); !slices.Equal(got, want) {
				t.Fatalf("Batch of %d texts by %d: %q, want %q", count, workers, got, want)
			}
		}
	}
}

func TestBatchExamples(t *testing.T) { // P29.4
	for _, workers := range numbersOfWorkers() {
		if got := shop.Batch(nil, workers); len(got) != 0 {
			t.Errorf("Batch of no text by %d: %q", workers, got)
		}
		if got := shop.Batch([]string{}, workers); len(got) != 0 {
			t.Errorf("Batch of no text by %d: %q", workers, got)
		}
		// A long one ahead of short ones: the answers stand where their texts do.
		var list, want []string
		for _, x := range slices.Concat(runs()[3:4], runs(), runs()) {
			list, want = append(list, x[0]), append(want, x[1])
		}
		list, want = append(list, "", "x"), append(want, "line 1 text\n", "line 1 text\n")
		if got := shop.Batch(list, workers); !slices.Equal(got, want) {
			t.Errorf("Batch by %d: %q, want %q", workers, got, want)
		}
	}
}

func TestNoScheduleIsSeen(t *testing.T) { // P29.4, R8
	defer runtime.GOMAXPROCS(runtime.GOMAXPROCS(0))
	all := texts(10)
	want := answered(all)
	for _, processors := range []int{1, 2, 3, 8} {
		runtime.GOMAXPROCS(processors)
		for _, workers := range []int{1, 2, 7, 16} {
			if got := shop.Batch(all, workers); !slices.Equal(got, want) {
				t.Fatalf("on %d processors, by %d workers: %q, want %q", processors, workers, got, want)
			}
		}
	}
}

func TestAllGoroutinesHaveEnded(t *testing.T) { // R8
	before := runtime.NumGoroutine()
	all := texts(3)
	for _, workers := range numbersOfWorkers() {
		shop.Batch(all, workers)
		shop.Batch(nil, workers)
		shop.Batch(all[:1], workers)
		shop.Final(all[0])
		shop.Sizes(all[0])
		shop.Run(all[0])
		for end := time.Now().Add(5 * time.Second); runtime.NumGoroutine() > before && time.Now().Before(end); {
			runtime.Gosched()
		}
		if got := runtime.NumGoroutine(); got > before {
			t.Fatalf("%d goroutines are left behind %d workers", got-before, workers)
		}
	}
}

func TestBatchIsNewMemory(t *testing.T) { // R7
	all := texts(5)
	want := answered(all)
	for _, workers := range []int{1, 4, 16} {
		mine := slices.Concat(all, []string{"spare", "room"})[:len(all)]
		given := memcheck.Texts(mine)
		one, two := shop.Batch(mine, workers), shop.Batch(mine, workers)
		if memcheck.Changed([]memcheck.Region{given}, nil) {
			t.Errorf("Batch changes the texts")
		}
		if memcheck.Shared([]memcheck.Region{memcheck.Texts(one), memcheck.Texts(two), given}) {
			t.Errorf("a write into an answer changes another, or the texts")
		}
		three := shop.Batch(all, workers)
		if memcheck.Changed([]memcheck.Region{memcheck.Texts(three)}, []memcheck.Region{given}) || !slices.Equal(three, want) {
			t.Errorf("Batch keeps the texts")
		}
	}
}

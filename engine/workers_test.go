package engine_test

import (
	"runtime"
	"slices"
	"sync/atomic"
	"testing"
	"time"

	"barrow/api"
	"barrow/engine"
	"barrow/sample"
)

// watched is engine.Tomb, and counts how many of its calls go on at one time. It has to count at package level, since an engine is used by its zero value.
type watched struct{ engine.Tomb }

var busy, most atomic.Int32

func enter() {
	now := busy.Add(1)
	for before := most.Load(); now > before && !most.CompareAndSwap(before, now); before = most.Load() {
	}
	// The longer a call takes, the more of them go on at one time.
	time.Sleep(200 * time.Microsecond)
}

func leave() { busy.Add(-1) }

func (w watched) Live(f api.Facts) ([]api.Entry, api.Errno) {
	enter()
	defer leave()
	return w.Tomb.Live(f)
}

func (w watched) Join(a, b api.Facts) (api.Facts, api.Errno) {
	enter()
	defer leave()
	return w.Tomb.Join(a, b)
}

// checkWorkers: how many worked at one time, and do any still?
func checkWorkers(t *testing.T, name string, workers, count int) {
	t.Helper()
	allowed := min(max(workers, 1), 16, max(count, 1))
	if got := int(most.Swap(0)); got > allowed {
		t.Errorf("%s of %d states, %d workers: %d work at one time", name, count, workers, got)
	}
	if got := busy.Load(); got != 0 {
		t.Errorf("%s of %d states, %d workers: %d still work", name, count, workers, got)
	}
}

func TestAtMostSoManyWorkers(t *testing.T) { // R8
	all := sample.AlikeFacts(newDice().IntN, 17)
	for _, count := range []int{0, 1, 7, 17} {
		for _, workers := range numbersOfWorkers() {
			_, err := engine.Fold[api.Facts, watched](all[:count], workers)
			checkWorkers(t, "Fold", workers, count)
			_, err2 := engine.Read[api.Facts, watched](all[:count], workers)
			checkWorkers(t, "Read", workers, count)
			if err != api.OK || err2 != api.OK {
				t.Errorf("%d states: %d, %d", count, err, err2)
			}
		}
	}
}

// meeting is engine.Tomb; each call of Live waits till as many others are there as are awaited.
type meeting struct{ engine.Tomb }

var awaited, there atomic.Int32

func (m meeting) Live(f api.Facts) ([]api.Entry, api.Errno) {
	there.Add(1)
	for end := time.Now().Add(5 * time.Second); there.Load() < awaited.Load() && time.Now().Before(end); {
		runtime.Gosched()
	}
	if there.Load() < awaited.Load() {
		return nil, api.ErrCount // nobody came
	}
	return m.Tomb.Live(f)
}

func TestWorkersGoSideBySide(t *testing.T) { // P15.2, P15.3
	for _, workers := range []int{2, 3, 16} {
		list := make([]api.Facts, workers)
		for name, call := range map[string]func() api.Errno{
			"Fold": func() api.Errno { _, err := engine.Fold[api.Facts, meeting](list, workers); return err },
			"Read": func() api.Errno { _, err := engine.Read[api.Facts, meeting](list, workers); return err },
		} {
			awaited.Store(int32(workers))
			there.Store(0)
			if err := call(); err != api.OK || int(there.Load()) != workers {
				t.Errorf("%s, %d workers: %d of them came, %d", name, workers, there.Load(), err)
			}
		}
	}
}

// goroutines: how many there are once those that are just ending have ended.
func goroutines(wanted int) int {
	for end := time.Now().Add(5 * time.Second); runtime.NumGoroutine() > wanted && time.Now().Before(end); {
		runtime.Gosched()
	}
	return runtime.NumGoroutine()
}

func TestAllWorkersHaveEnded(t *testing.T) { // R8
	before := runtime.NumGoroutine()
	facts := append(sample.Facts(newDice().IntN, 30), sample.WrongFacts()[:3]...)
	states := append(sample.Swots(newDice().IntN, 30), sample.WrongSwots()[:3]...)
	for _, workers := range numbersOfWorkers() {
		for _, count := range []int{0, 1, 5, 20, len(states)} {
			tombs().fold(facts[:min(count, len(facts))], workers)
			tombs().read(facts[:min(count, len(facts))], workers)
			swots().fold(states[:count], workers)
			swots().read(states[:count], workers)
			if got := goroutines(before); got > before {
				t.Fatalf("%d goroutines are left, behind %d workers on %d states", got-before, workers, count)
			}
		}
	}
	tombs().replay(facts)
	swots().replay(sample.Events(newDice().IntN, 30))
	if got := goroutines(before); got > before {
		t.Errorf("%d goroutines are left behind Replay", got-before)
	}
}

// checkSchedules: the same answers on one processor and on many, again and again.
func checkSchedules[S any](t *testing.T, w world[S]) {
	t.Helper()
	dice := newDice()
	lists := [][]S{w.alike(dice.IntN, 50), w.mixed(dice.IntN, 10), slices.Concat(w.alike(dice.IntN, 20), w.wrong()[:2], w.mixed(dice.IntN, 5))}
	defer runtime.GOMAXPROCS(runtime.GOMAXPROCS(0))
	for _, list := range lists {
		want, wantErr := w.folded(list)
		lines, linesErr := w.read(list, 1)
		for _, processors := range []int{1, 2, 8} {
			runtime.GOMAXPROCS(processors)
			for workers := range 18 {
				w.checkFold(t, list, workers, want, wantErr)
				w.checkRead(t, list, workers, lines, linesErr)
			}
		}
	}
}

func TestNoScheduleIsSeen(t *testing.T) { // R8
	checkSchedules(t, tombs())
	checkSchedules(t, swots())
}

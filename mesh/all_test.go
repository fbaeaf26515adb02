package mesh_test

import (
	"fmt"
	"runtime"
	"slices"
	"sync/atomic"
	"testing"
	"time"

	"barrow/api"
	"barrow/engine"
	"barrow/mesh"
)

// checkAll: All is what Lines answers, call by call.
func checkAll(t *testing.T, s store) {
	t.Helper()
	all, h := s.All(), s.Head()
	if len(all) != h.Reps {
		t.Fatalf("All tells of %d replicas, want %d", len(all), h.Reps)
	}
	for rep, carts := range all {
		if len(carts) != h.Carts {
			t.Fatalf("All tells of %d carts, want %d", len(carts), h.Carts)
		}
		for cart, got := range carts {
			if want := right(s.Lines(rep, cart)); !slices.Equal(got, want) {
				t.Errorf("All()[%d][%d] = %v, want %v", rep, cart, got, want)
			}
		}
	}
}

// full: a store of that head in which every cart at every replica has lines of its own.
func full[S any, E engine.Engine[S]](h api.Header) *mesh.Mesh[S, E] {
	m := mesh.New[S, E](h)
	for rep := range m.Head().Reps {
		for cart := range m.Head().Carts {
			for i := range 1 + (rep+cart)%3 {
				m.Act(rep, cart, api.Act{Kind: api.ActSet, Sku: fmt.Sprintf("R%d-%d-%d", rep, cart, i), Qty: 1 + rep*64 + cart})
			}
		}
	}
	return m
}

func checkAlls[S any, E engine.Engine[S]](t *testing.T) {
	t.Helper()
	for _, h := range heads() {
		checkAll(t, mesh.New[S, E](h))
		h.Lines = max(h.Lines, 9)
		checkAll(t, full[S, E](h))
	}
	dice := newDice()
	for range 20 {
		h := thrownHead(dice)
		p := &player{store: mesh.New[S, E](h)}
		for _, st := range thrownSteps(dice, h, 60) {
			p.play(st)
			checkAll(t, p)
		}
	}
}

func TestAllIsLinesCallByCall(t *testing.T) { // P22.5
	checkAlls[api.Facts, engine.Tomb](t)
	checkAlls[api.Swot, engine.Swot](t)
}

func TestNoScheduleIsSeen(t *testing.T) { // P22.5, R8
	defer runtime.GOMAXPROCS(runtime.GOMAXPROCS(0))
	m := full[api.Swot, engine.Swot](api.Header{Reps: 16, Carts: 20, Lines: 10, Count: 100})
	want := fmt.Sprint(m.All())
	for _, processors := range []int{1, 2, 3, 8} {
		runtime.GOMAXPROCS(processors)
		for range 30 {
			if got := fmt.Sprint(m.All()); got != want {
				t.Fatalf("on %d processors All = %s, want %s", processors, got, want)
			}
		}
	}
	checkAll(t, m)
}

// goroutines: how many there are once those that are just ending have ended.
func goroutines(wanted int) int {
	for end := time.Now().Add(5 * time.Second); runtime.NumGoroutine() > wanted && time.Now().Before(end); {
		runtime.Gosched()
	}
	return runtime.NumGoroutine()
}

func TestAllWorkersHaveEnded(t *testing.T) { // R8
	before := runtime.NumGoroutine()
	for _, reps := range []int{1, 2, 7, 16} {
		m := full[api.Facts, engine.Tomb](api.Header{Reps: reps, Carts: 5, Lines: 10, Count: 100})
		for range 20 {
			m.All()
		}
		if got := goroutines(before); got > before {
			t.Fatalf("%d goroutines are left, of %d replicas", got-before, reps)
		}
	}
}

// meeting is engine.Tomb; where it is awaited, each call of Live waits till so many others are there. It has to count at package level, since an engine is used by its zero value.
type meeting struct{ engine.Tomb }

var awaited, there, busy, most atomic.Int32

func (m meeting) Live(f api.Facts) ([]api.Entry, api.Errno) {
	now := busy.Add(1)
	defer busy.Add(-1)
	for before := most.Load(); now > before && !most.CompareAndSwap(before, now); before = most.Load() {
	}
	there.Add(1)
	for end := time.Now().Add(5 * time.Second); there.Load() < awaited.Load() && time.Now().Before(end); {
		runtime.Gosched()
	}
	if there.Load() < awaited.Load() {
		return nil, api.ErrCount // nobody came
	}
	return m.Tomb.Live(f)
}

func TestAWorkerAReplica(t *testing.T) { // P22.5
	for _, reps := range []int{1, 2, 3, 16} {
		m := full[api.Facts, meeting](api.Header{Reps: reps, Carts: 3, Lines: 10, Count: 100})
		there.Store(0)
		most.Store(0)
		awaited.Store(int32(reps))
		all := m.All()
		awaited.Store(0)
		if got := int(most.Load()); got != reps || busy.Load() != 0 {
			t.Errorf("of %d replicas %d are read at one time, and %d still are", reps, got, busy.Load())
		}
		for rep, carts := range all {
			for cart, told := range carts {
				if want := right(m.Lines(rep, cart)); !slices.Equal(told, want) {
					t.Errorf("All()[%d][%d] = %v, want %v", rep, cart, told, want)
				}
			}
		}
	}
}

package lockstep_test

import (
	"fmt"
	"runtime"
	"slices"
	"testing"
	"time"

	"barrow/api"
	"barrow/known"
	"barrow/lockstep"
	"barrow/sample"
)

// told: the report of a script by the slow stack.
func told(s api.Script) api.Report {
	c := known.New(s.Head)
	var r api.Report
	for _, o := range s.Ops {
		r.Answers = append(r.Answers, c.Step(o))
	}
	r.Sends = c.Made()
	return r
}

func same(a, b api.Report) bool {
	return a.At == b.At && a.Sends == b.Sends && slices.EqualFunc(a.Answers, b.Answers, sample.SameAnswer)
}

func TestRun(t *testing.T) { // P28.1, P28.2, P2, P3
	sends := 0
	for _, s := range scripts(300) {
		got, want := lockstep.Run(s), told(s)
		if !same(got, want) {
			t.Fatalf("Run(%v) = %v, want %v", s, got, want)
		}
		sends += got.Sends
	}
	if sends < 3000 {
		t.Errorf("only %d messages", sends)
	}
}

func TestRunExamples(t *testing.T) { // P28.1
	s := api.Script{Head: head(), Ops: []api.Op{set(0, "A", 5), {Kind: api.OpSync, To: 1}, {Kind: api.OpDeliver, Num: 1}, {Kind: api.OpRead, Rep: 1}, {Kind: api.OpRead, Rep: 5}}}
	want := api.Report{Answers: []api.Answer{{}, {Msg: 1}, {Msg: 2}, {Lines: []api.Line{line("A", 5, 1)}, Token: 1}, {Status: api.ErrRep}}, Sends: 2}
	if got := lockstep.Run(s); !same(got, want) {
		t.Errorf("Run = %v, want %v", got, want)
	}
	for _, h := range append(sample.EdgeHeads(), head()) {
		if got := lockstep.Run(api.Script{Head: h}); !same(got, api.Report{}) {
			t.Errorf("Run of no steps = %v", got)
		}
		wrong := api.Script{Head: h, Ops: []api.Op{{}, {Kind: -1}, {Kind: 17}, {Kind: api.OpRead, Rep: -1}, {Kind: api.OpDeliver}}}
		refusals := api.Report{Answers: []api.Answer{{Status: api.ErrKind}, {Status: api.ErrKind}, {Status: api.ErrKind}, {Status: api.ErrRep}, {Status: api.ErrMsg}}}
		if got := lockstep.Run(wrong); !same(got, refusals) {
			t.Errorf("Run of wrong steps = %v, want %v", got, refusals)
		}
	}
}

// Messages that are made by the last step are counted, and so are copies and acknowledgements.
func TestRunCountsAllMessages(t *testing.T) { // P28.1
	s := api.Script{Head: head(), Ops: []api.Op{{Kind: api.OpSync, To: 1}, {Kind: api.OpCopy, Num: 1}, {Kind: api.OpDeliver, Num: 2}, {Kind: api.OpDrop, Num: 1}, {Kind: api.OpAsk, Rep: 1}}}
	for n, want := range []int{0, 1, 2, 3, 3, 4} {
		if got := lockstep.Run(api.Script{Head: s.Head, Ops: s.Ops[:n]}); got.Sends != want || got.At != 0 || len(got.Answers) != n {
			t.Errorf("Run of %d steps = %v, want %d messages", n, got, want)
		}
	}
}

func TestNoScheduleIsSeen(t *testing.T) { // P28.4, R8
	defer runtime.GOMAXPROCS(runtime.GOMAXPROCS(0))
	for _, s := range scripts(4) {
		want := fmt.Sprint(told(s))
		for _, processors := range []int{1, 2, 3, 8} {
			runtime.GOMAXPROCS(processors)
			for range 3 {
				if got := fmt.Sprint(lockstep.Run(s)); got != want {
					t.Fatalf("on %d processors Run = %s, want %s", processors, got, want)
				}
			}
		}
	}
}

// How many messages there are is told by the goroutine that ends last.
func TestSendsAreThoseOfTheEnd(t *testing.T) { // P28.4, R8
	s := api.Script{Head: head(), Ops: []api.Op{{Kind: api.OpSync, To: 1}}}
	for range 20000 {
		if got := lockstep.Run(s); got.Sends != 1 {
			t.Fatalf("Run = %v", got)
		}
	}
}

func TestBothGoroutinesHaveEnded(t *testing.T) { // P28.1, R8
	before := runtime.NumGoroutine()
	for _, s := range scripts(20) {
		for range 3 {
			lockstep.Run(s)
		}
		for end := time.Now().Add(5 * time.Second); runtime.NumGoroutine() > before && time.Now().Before(end); {
			runtime.Gosched()
		}
		if got := runtime.NumGoroutine(); got > before {
			t.Fatalf("%d goroutines are left", got-before)
		}
	}
}

// Many at one time: each has its own stacks and channels.
func TestRunsSideBySide(t *testing.T) { // P28.4
	all := scripts(12)
	got := make([]chan api.Report, len(all))
	for i, s := range all {
		got[i] = make(chan api.Report, 1)
		go func() { got[i] <- lockstep.Run(s) }()
	}
	for i, s := range all {
		if r := <-got[i]; !same(r, told(s)) {
			t.Errorf("Run(%v) = %v, want %v", s, r, told(s))
		}
	}
}

package lockstep_test

import (
	"testing"

	"barrow/api"
	"barrow/known"
	"barrow/lockstep"
	"barrow/sample"
)

func TestEqual(t *testing.T) { // P28.1
	for i, a := range answers() {
		for j, b := range answers() {
			if lockstep.Equal(a, b) != (i == j) {
				t.Errorf("Equal(%v, %v) = %t", a, b, i != j)
			}
		}
	}
	a5 := []api.Line{line("A", 5, 1)}
	for _, c := range []struct {
		a, b api.Answer
		want bool
	}{
		{api.Answer{}, api.Answer{Lines: []api.Line{}}, true}, {api.Answer{Lines: make([]api.Line, 0, 9)}, api.Answer{}, true}, {api.Answer{Lines: a5}, api.Answer{Lines: []api.Line{line("A", 5, 2)}}, false}, {api.Answer{Msg: 1}, api.Answer{Msg: 2}, false},
		{api.Answer{Lines: a5}, api.Answer{Lines: append(make([]api.Line, 0, 5), a5...)}, true}, {api.Answer{Lines: a5}, api.Answer{Lines: []api.Line{}}, false}, {api.Answer{Status: 99}, api.Answer{Status: 99}, true}, {api.Answer{Lines: []api.Line{{}}}, api.Answer{}, false},
	} {
		if lockstep.Equal(c.a, c.b) != c.want || lockstep.Equal(c.b, c.a) != c.want {
			t.Errorf("Equal(%v, %v) isn't %t", c.a, c.b, c.want)
		}
	}
}

// checkFits: at every replica, and at none that there isn't.
func checkFits(t *testing.T, w *lockstep.Twin, reps int, behind api.Op) {
	t.Helper()
	for rep := range reps {
		if !w.Fits(rep) {
			t.Fatalf("behind %+v Fits(%d) is false", behind, rep)
		}
	}
	for _, rep := range noReplicas(reps) {
		if w.Fits(rep) {
			t.Fatalf("of %d replicas Fits(%d) is true", reps, rep)
		}
	}
}

func TestTwins(t *testing.T) { // P28.1, P28.2, P28.3, P2, P3, P6
	var refused, lines, removed int
	for _, s := range scripts(150) {
		w, slow := lockstep.New(s.Head), known.New(s.Head)
		reps := slow.Head().Reps
		checkFits(t, w, reps, api.Op{})
		if !w.Same() {
			t.Fatalf("new twins aren't the same")
		}
		for _, o := range s.Ops {
			a, b := w.Step(o)
			if want := slow.Step(o); !sample.SameAnswer(a, want) || !sample.SameAnswer(b, want) {
				t.Fatalf("%+v: %v and %v, want %v", o, a, b, want)
			}
			if !w.Same() {
				t.Fatalf("behind %+v they aren't the same", o)
			}
			if reps*slow.Head().Carts < 50 {
				checkFits(t, w, reps, o)
			}
			lines += len(a.Lines)
			if a.Status != api.OK {
				refused++
			}
			if o.Kind == api.OpRemoveTo && a.Status == api.OK {
				removed++
			}
		}
		checkFits(t, w, reps, api.Op{})
	}
	if refused < 500 || lines < 500 || removed < 50 {
		t.Errorf("only %d refused steps, %d lines, %d removes by token", refused, lines, removed)
	}
}

func TestTwinsExamples(t *testing.T) { // P28.1, P28.3
	for _, h := range append(sample.EdgeHeads(), head()) {
		w := lockstep.New(h)
		if !w.Same() || !w.Fits(0) || w.Fits(16) || w.Fits(-1) {
			t.Errorf("twins of the head %v: same %t, fits %t, %t, %t", h, w.Same(), w.Fits(0), w.Fits(16), w.Fits(-1))
		}
	}
	w := lockstep.New(head())
	if w.Fits(2) || !w.Fits(1) {
		t.Error("of two replicas there is no third")
	}
	steps := []struct {
		op   api.Op
		want api.Answer
	}{
		{set(0, "A", 5), api.Answer{}}, {api.Op{Kind: api.OpRead}, api.Answer{Lines: []api.Line{line("A", 5, 1)}, Token: 1}},
		// It waits on the compact stack, and stands among the facts on the other.
		{api.Op{Kind: api.OpRemoveTo, Rep: 1, Sku: "A", Num: 1}, api.Answer{}}, {api.Op{Kind: api.OpSync, To: 1}, api.Answer{Msg: 1}}, {api.Op{Kind: api.OpDeliver, Num: 1}, api.Answer{Msg: 2}},
		{api.Op{Kind: api.OpRead, Rep: 1}, api.Answer{Token: 2}}, {api.Op{Kind: api.OpRead, Rep: 5}, api.Answer{Status: api.ErrRep}}, {api.Op{Kind: 99}, api.Answer{Status: api.ErrKind}},
	}
	for _, step := range steps {
		a, b := w.Step(step.op)
		if !sample.SameAnswer(a, step.want) || !sample.SameAnswer(b, step.want) || !w.Same() || !w.Fits(0) || !w.Fits(1) {
			t.Errorf("%+v: %v and %v, want %v", step.op, a, b, step.want)
		}
	}
}

package lockstep_test

import (
	"slices"
	"testing"

	"barrow/api"
	"barrow/lockstep"
	"barrow/memcheck"
	"barrow/sample"
)

type region = memcheck.Region

func TestRunIsNewMemory(t *testing.T) { // R7
	for _, s := range scripts(40) {
		mine := sample.RoomyScript(s)
		given := memcheck.Ops(mine.Ops)
		one, two := lockstep.Run(mine), lockstep.Run(mine)
		if memcheck.Changed([]region{given}, nil) {
			t.Errorf("Run changes the script")
		}
		if memcheck.Shared(slices.Concat(memcheck.Answers(one.Answers), memcheck.Answers(two.Answers), []region{given})) {
			t.Errorf("a write into an answer of Run changes another, or the script")
		}
		three := memcheck.Answers(lockstep.Run(s).Answers)
		if memcheck.Changed(three, []region{given}) {
			t.Errorf("Run keeps the script")
		}
		if got := lockstep.Run(s); !same(got, told(s)) {
			t.Errorf("behind writes into answers Run = %v, want %v", got, told(s))
		}
	}
}

// What is written into the answers of a step is lost on the stacks, on the other answer and on later ones.
func TestStepsAreNewMemory(t *testing.T) { // R7
	for _, s := range scripts(40) {
		w, twin := lockstep.New(s.Head), lockstep.New(s.Head)
		var all []region
		for _, o := range s.Ops {
			a, b := w.Step(o)
			c, d := twin.Step(o)
			if !sample.SameAnswer(a, c) || !sample.SameAnswer(b, d) {
				t.Fatalf("%+v: %v and %v behind writes into answers, want %v and %v", o, a, b, c, d)
			}
			if memcheck.Shared([]region{memcheck.Lines(a.Lines), memcheck.Lines(b.Lines)}) {
				t.Errorf("%+v: a write into one answer changes the other", o)
			}
			all = append(all, memcheck.Lines(c.Lines), memcheck.Lines(d.Lines))
		}
		if memcheck.Changed(all, nil) || memcheck.Shared(all) {
			t.Errorf("answers share memory with the stacks, or with one another")
		}
		if !w.Same() || !w.Fits(0) {
			t.Errorf("behind writes into answers the twins part")
		}
	}
}

func TestEqualChangesNothing(t *testing.T) { // R7
	for _, a := range answers() {
		for _, b := range answers() {
			list := []api.Answer{a, b}
			before := memcheck.Answers(list)
			lockstep.Equal(list[0], list[1])
			if memcheck.Changed(before, nil) {
				t.Errorf("Equal(%v, %v) changes them", a, b)
			}
		}
	}
}

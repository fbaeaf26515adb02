package lockstep

import (
	"slices"
	"sync"
	"testing"

	"barrow/api"
)

// The stacks never part (P28.2): what is said of those that do can be asked from within alone.

// feed: the answers, one by one; done is told when all were heard.
func feed(done *sync.WaitGroup, list []api.Answer) <-chan api.Answer {
	answers := make(chan api.Answer)
	done.Add(1)
	go func() {
		defer done.Done()
		defer close(answers)
		for _, a := range list {
			answers <- a
		}
	}()
	return answers
}

func msgs(numbers ...int) []api.Answer {
	var list []api.Answer
	for _, n := range numbers {
		list = append(list, api.Answer{Msg: n})
	}
	return list
}

func TestReportOfStacksThatPart(t *testing.T) { // P28.1
	for _, c := range []struct {
		tombs, swots []api.Answer
		at           int
		want         []api.Answer
	}{
		{nil, nil, 0, nil}, {msgs(1, 2, 3), msgs(1, 2, 3), 0, msgs(1, 2, 3)},
		// The first step on which they part, that one too, and of the tombstone stack.
		{msgs(1, 2, 3), msgs(9, 2, 3), 1, msgs(1)}, {msgs(1, 2, 3), msgs(1, 9, 3), 2, msgs(1, 2)}, {msgs(1, 2, 3), msgs(1, 2, 9), 3, msgs(1, 2, 3)}, {msgs(1, 2, 3, 4), msgs(1, 7, 8, 4), 2, msgs(1, 2)}, {msgs(5), msgs(6), 1, msgs(5)},
	} {
		var done sync.WaitGroup
		got := compared(feed(&done, c.tombs), feed(&done, c.swots))
		// Both have been heard to their ends.
		done.Wait()
		if got.At != c.at || !slices.EqualFunc(got.Answers, c.want, Equal) || got.Sends != 0 {
			t.Errorf("of %v and %v: %v, want %v at %d", c.tombs, c.swots, got, c.want, c.at)
		}
	}
}

func TestTwinsThatPart(t *testing.T) { // P28.1
	h := api.Header{Reps: 2, Carts: 2, Lines: 10, Count: 100, Log: 8, Tokens: 4}
	read := api.Op{Kind: api.OpRead, Cart: 1}
	alone := api.Op{Kind: api.OpSet, Cart: 1, Sku: "A", Qty: 1}
	for name, part := range map[string]func(w *Twin){
		"tombs": func(w *Twin) { w.tombs.Step(alone) },
		"swots": func(w *Twin) { w.swots.Step(alone) },
	} {
		ahead := map[string]int{"tombs": 1, "swots": 0}[name]
		w := New(h)
		w.Step(read)
		part(w)
		// They have answered alike so far, but a state of replica 0 is no longer that of its facts.
		if !w.Same() || w.Fits(0) || !w.Fits(1) {
			t.Errorf("%s: same %t, fits %t, %t", name, w.Same(), w.Fits(0), w.Fits(1))
		}
		if a, b := w.Step(read); len(a.Lines) != ahead || len(b.Lines) != 1-ahead || w.Same() {
			t.Errorf("%s: %v and %v, same %t", name, a, b, w.Same())
		}
		// Once they parted, no later step makes that undone.
		if a, b := w.Step(api.Op{Kind: 99}); !Equal(a, b) || w.Same() {
			t.Errorf("%s: %v and %v, same %t", name, a, b, w.Same())
		}
	}
}

// A cart that is heard of on one stack alone, and holds no lines there, parts them too.
func TestFitsLooksAtMoreThanLines(t *testing.T) { // P28.1
	w := New(api.Header{Reps: 1, Carts: 1, Lines: 10, Count: 100, Log: 8, Tokens: 4})
	for _, o := range []api.Op{{Kind: api.OpSet, Sku: "A", Qty: 1}, {Kind: api.OpClear}} {
		w.swots.Step(o)
	}
	a, b := w.Step(api.Op{Kind: api.OpRead})
	if !Equal(a, b) || !w.Same() || w.Fits(0) {
		t.Errorf("%v and %v, same %t, fits %t", a, b, w.Same(), w.Fits(0))
	}
}

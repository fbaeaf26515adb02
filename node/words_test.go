package node_test

import (
	"bytes"
	"strings"
	"testing"

	"barrow/api"
	"barrow/engine"
)

// sides: a store of nodes, and one of slow replicas over the same engine.
type sides[S any, E engine.Engine[S]] struct {
	k     kind[S]
	nodes *store[[]byte]
	slows *store[letter[S]]
}

func newSides[S any, E engine.Engine[S]](k kind[S], h api.Header) sides[S, E] {
	return sides[S, E]{k, builtStore[S, E](h), thoughtStore(ofEngine[S, E](), h)}
}

// play holds the two against each other; it answers the step's text.
func (x sides[S, E]) play(t *testing.T, st step) string {
	t.Helper()
	got, want := x.nodes.play(st), x.slows.play(st)
	if got != want {
		t.Fatalf("%s: %v: %s\nwant %s", x.k.name, st, got, want)
	}
	if len(x.nodes.all) != len(x.slows.all) {
		t.Fatalf("%s: %v: %d messages, want %d", x.k.name, st, len(x.nodes.all), len(x.slows.all))
	}
	if last := len(x.nodes.all) - 1; last >= 0 && !bytes.Equal(x.nodes.all[last].m, written[S, E](x.slows.all[last].m)) {
		t.Fatalf("%s: %v: the message %x, want %v", x.k.name, st, x.nodes.all[last].m, x.slows.all[last].m)
	}
	return got
}

// check looks at all that each replica tells, and would send.
func (x sides[S, E]) check(t *testing.T) {
	t.Helper()
	for rep := range x.nodes.reps {
		n, s := x.nodes.reps[rep].(built[S, E]).Node, x.slows.reps[rep].(thought[S]).slow
		if err := isTold(x.k, n, s); err != nil {
			t.Fatal(err)
		}
		if err := isSent(x.k, n, s); err != nil {
			t.Fatal(err)
		}
	}
}

// A tally counts what a script came to, so that the scripts are known to reach what they should.
type tally map[string]int

func (c tally) count(text string) {
	line, _, _ := strings.Cut(text, "\n")
	for _, word := range outcomes() {
		if strings.Contains(" "+line+" ", " "+word+" ") {
			c[word]++
		}
	}
}

// outcomes: what a step's answer may begin with, or hold: every error of an act and of a mail that is made, every kind of mail, a refused delivery.
func outcomes() []string {
	return []string{
		"true 0", "false 0", "false 1", "false 4", "false 5", "false 6", "false 7", "false 9", "false 11", "false 12", "false 13",
		"mail 1", "mail 2", "mail 3", "mail 4", "mail 5", "mail 6", "refused 2", "refused 3", "refused 16", "8, answer false",
	}
}

func (c tally) isFull(t *testing.T) {
	t.Helper()
	for _, word := range outcomes() {
		if c[word] < 5 {
			t.Errorf("the scripts come to %q %d times", word, c[word])
		}
	}
}

func checkScripts[S any, E engine.Engine[S]](t *testing.T, k kind[S]) {
	t.Helper()
	dice := newDice()
	c := tally{}
	for range 90 {
		h := thrownHead(dice)
		x := newSides[S, E](k, h)
		for i, st := range thrownSteps(dice, h, 120) {
			c.count(x.play(t, st))
			if i%30 == 0 {
				x.check(t)
			}
		}
		x.check(t)
	}
	c.isFull(t)
}

func TestEveryRowOfCalls(t *testing.T) { // P20.1, P20.6, P8
	checkScripts[api.Facts, engine.Tomb](t, tombs())
	checkScripts[api.Swot, engine.Swot](t, swots())
}

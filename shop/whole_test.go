package shop_test

import (
	"fmt"
	"slices"
	"strings"
	"testing"

	"barrow/api"
	"barrow/known"
	"barrow/sample"
	"barrow/script"
	"barrow/settle"
	"barrow/shop"
)

// readAll: a read of each cart at each replica.
func readAll(h api.Header) []api.Op {
	var ops []api.Op
	for rep := range h.Reps {
		for at := range h.Carts {
			ops = append(ops, api.Op{Kind: api.OpRead, Rep: rep, Cart: at})
		}
	}
	return ops
}

// noise: steps among which a talk may go on, without any act.
func noise(roll sample.Roll, h api.Header, made int) []api.Op {
	kinds := []int{api.OpRead, api.OpAsk, api.OpPush, api.OpRestart, api.OpDeliver, api.OpDeliver, api.OpCopy, api.OpDrop, api.OpTrim}
	var ops []api.Op
	for range roll(4) {
		ops = append(ops, api.Op{Kind: kinds[roll(len(kinds))], Rep: roll(h.Reps), To: roll(h.Reps), Cart: roll(h.Carts), Num: roll(made + 1), Qty: 1 + roll(3)})
	}
	return ops
}

// fair: behind the script a sync for each ordered pair, in any order, each delivered whole, among noise that touches none of these messages.
func fair(roll sample.Roll, s api.Script) api.Script {
	c := known.Played(s)
	made := c.Made()
	step := func(o api.Op) api.Answer {
		s.Ops = append(s.Ops, o)
		return c.Step(o)
	}
	pairs := settle.Pairs(c.Head().Reps)
	for i := range pairs {
		j := i + roll(len(pairs)-i)
		pairs[i], pairs[j] = pairs[j], pairs[i]
	}
	for _, p := range pairs {
		sent := step(api.Op{Kind: api.OpSync, Rep: p.From, To: p.To})
		for _, o := range noise(roll, c.Head(), made) {
			step(o)
		}
		step(api.Op{Kind: api.OpDeliver, Num: sent.Msg})
	}
	return s
}

// readsOf: what Run tells of the reads that are the last steps of a script, each read's lines alone.
func readsOf(answer string, reads int) []string {
	var list []string
	for _, line := range strings.SplitAfter(answer, "\n") {
		switch {
		case strings.HasPrefix(line, "  "):
			list[len(list)-1] += line
		case line != "" && !strings.HasPrefix(line, "steps"):
			list = append(list, "")
		}
	}
	return list[len(list)-reads:]
}

func TestAllReadTheSameInTheEnd(t *testing.T) { // P4, P6, P29.3, P29.5, P29.6
	dice := newDice()
	some := 0
	for range 80 {
		s := known.Thrown(dice.IntN, anyHead(dice), 100)
		h, want := s.Head, shop.Final(script.Print(s))
		s = fair(dice.IntN, s)
		reads := readsOf(shop.Run(script.Print(api.Script{Head: h, Ops: slices.Concat(s.Ops, readAll(h))})), h.Reps*h.Carts)
		for rep := range h.Reps {
			got := ""
			for at, list := range reads[rep*h.Carts : (rep+1)*h.Carts] {
				if list != "" {
					got += fmt.Sprintf("cart %d\n", at) + list
				}
			}
			if got == "" {
				got = "nothing\n"
			}
			if got != want {
				t.Fatalf("behind the talk replica %d reads %q, want %q: %q", rep, got, want, script.Print(s))
			}
		}
		for line := range strings.Lines(shop.Sizes(script.Print(s))) {
			if line != "nothing\n" && !strings.HasSuffix(line, " holes 0 waits 0\n") {
				t.Errorf("behind the talk there is %q", line)
			}
		}
		some += strings.Count(want, "\n")
	}
	if some < 200 {
		t.Errorf("only %d lines", some)
	}
}

func TestRestartsAreNotSeen(t *testing.T) { // P9, P29.3
	dice := newDice()
	for range 60 {
		s := known.Thrown(dice.IntN, anyHead(dice), 100)
		s.Ops = sample.Those(s.Ops, func(o api.Op) bool { return o.Kind != api.OpPush && o.Kind != api.OpRestart })
		restarted := api.Script{Head: s.Head}
		var at []int
		for _, o := range s.Ops {
			for dice.IntN(6) == 0 {
				restarted.Ops = append(restarted.Ops, api.Op{Kind: api.OpRestart, Rep: dice.IntN(s.Head.Reps)})
			}
			restarted.Ops = append(restarted.Ops, o)
			at = append(at, len(restarted.Ops))
		}
		// The steps' own numbers aside, each line is the same.
		got := linesOf(shop.Run(script.Print(restarted)), at)
		every := make([]int, len(s.Ops))
		for i := range every {
			every[i] = i + 1
		}
		if want := linesOf(shop.Run(script.Print(s)), every); !slices.Equal(got, want) {
			t.Fatalf("with restarts %q, without %q", got, want)
		}
		if shop.Final(script.Print(restarted)) != shop.Final(script.Print(s)) {
			t.Errorf("restarts change what is there in the end")
		}
	}
}

// linesOf: what is told of the steps with these numbers, without the numbers.
func linesOf(answer string, steps []int) []string {
	told := map[string]string{}
	step := ""
	for _, line := range strings.SplitAfter(answer, "\n") {
		if number, rest, _ := strings.Cut(line, " "); number != "" {
			step, line = number, rest
		}
		told[step] += line
	}
	var list []string
	for _, n := range steps {
		list = append(list, told[fmt.Sprint(n)])
	}
	return list
}

package settle_test

import (
	"slices"
	"testing"

	"barrow/api"
	"barrow/settle"
)

func TestPairs(t *testing.T) { // P26.1
	for _, c := range counts() {
		reps, n := c.given, c.counts
		got := settle.Pairs(reps)
		if len(got) != n*(n-1) {
			t.Errorf("Pairs(%d) has %d, want %d", reps, len(got), n*(n-1))
		}
		for i, p := range got {
			if !isGood(p, n) || i > 0 && (p.From < got[i-1].From || p.From == got[i-1].From && p.To <= got[i-1].To) {
				t.Errorf("Pairs(%d) has %v at %d", reps, p, i)
			}
		}
	}
	want := []api.Pair{{From: 0, To: 1}, {From: 0, To: 2}, {From: 1, To: 0}, {From: 1, To: 2}, {From: 2, To: 0}, {From: 2, To: 1}}
	if got := settle.Pairs(3); !slices.Equal(got, want) {
		t.Errorf("Pairs(3) = %v, want %v", got, want)
	}
}

func TestRounds(t *testing.T) { // P26.2
	hows := []int{0, 0, 1, 2, 2, 3, 3, 3, 3, 4, 4, 4, 4, 4, 4, 4, 4}
	for _, c := range counts() {
		reps, n := c.given, c.counts
		got := settle.Rounds(reps)
		if len(got) != hows[n] {
			t.Fatalf("Rounds(%d) has %d, want %d", reps, len(got), hows[n])
		}
		for k, round := range got {
			var want []api.Pair
			for from := range n {
				want = append(want, api.Pair{From: from, To: (from + 1<<k) % n})
			}
			if !slices.Equal(round, want) {
				t.Errorf("round %d of Rounds(%d) is %v, want %v", k, reps, round, want)
			}
		}
	}
	if got, want := settle.Rounds(3), [][]api.Pair{{{From: 0, To: 1}, {From: 1, To: 2}, {From: 2, To: 0}}, {{From: 0, To: 2}, {From: 1, To: 0}, {From: 2, To: 1}}}; !sameLists(got, want) {
		t.Errorf("Rounds(3) = %v, want %v", got, want)
	}
	if got, want := settle.Rounds(5)[2], []api.Pair{{From: 0, To: 4}, {From: 1, To: 0}, {From: 2, To: 1}, {From: 3, To: 2}, {From: 4, To: 3}}; !slices.Equal(got, want) {
		t.Errorf("the last of Rounds(5) is %v, want %v", got, want)
	}
}

func TestReachExamples(t *testing.T) { // P26.3, P26.4
	for _, c := range []struct {
		reps int
		ps   []api.Pair
		want [][]int
	}{
		{3, []api.Pair{{From: 0, To: 1}, {From: 1, To: 2}}, [][]int{{0}, {0, 1}, {0, 1, 2}}},
		{3, []api.Pair{{From: 1, To: 2}, {From: 0, To: 1}}, [][]int{{0}, {0, 1}, {1, 2}}},
		{2, []api.Pair{{From: 0, To: 0}, {From: 5, To: 1}}, [][]int{{0}, {1}}},
		{2, []api.Pair{{From: 1, To: 2}, {From: -1, To: 0}, {From: 1, To: -1}}, [][]int{{0}, {1}}},
		{0, []api.Pair{{From: 0, To: 1}}, [][]int{{0}}},
		{-9, nil, [][]int{{0}}},
	} {
		if got := settle.Reach(c.reps, c.ps); !sameLists(got, c.want) {
			t.Errorf("Reach(%d, %v) = %v, want %v", c.reps, c.ps, got, c.want)
		}
	}
	ring := []api.Pair{{From: 0, To: 1}, {From: 1, To: 2}, {From: 2, To: 0}, {From: 0, To: 1}}
	if !settle.Enough(3, ring) || settle.Enough(3, ring[:3]) {
		t.Errorf("Enough of a ring: %t, without its last talk: %t", settle.Enough(3, ring), settle.Enough(3, ring[:3]))
	}
	if !settle.Enough(1, nil) || !settle.Enough(0, nil) || !settle.Enough(-1, ring) || settle.Enough(2, nil) || settle.Enough(16, nil) || settle.Enough(17, settle.Pairs(15)) {
		t.Error("Enough of no talks")
	}
}

func TestReachAndEnough(t *testing.T) { // P26.3, P26.4
	dice := newDice()
	enough := 0
	for _, c := range counts() {
		reps, n := c.given, c.counts
		for range 60 {
			ps := pairs(dice, n, dice.IntN(12*n))
			want := reach(n, ps)
			if got := settle.Reach(reps, ps); !sameLists(got, want) {
				t.Errorf("Reach(%d, %v) = %v, want %v", reps, ps, got, want)
			}
			all := !slices.ContainsFunc(want, func(list []int) bool { return len(list) != n })
			if got := settle.Enough(reps, ps); got != all {
				t.Errorf("Enough(%d, %v) = %t", reps, ps, got)
			}
			if all && n > 1 {
				enough++
			}
		}
	}
	if enough < 50 {
		t.Errorf("only %d rows of talks are enough", enough)
	}
}

func TestWhatIsEnough(t *testing.T) { // P26.5
	dice := newDice()
	for _, c := range counts() {
		reps := c.given
		for range 20 {
			if ps := shuffled(dice, settle.Pairs(reps)); !settle.Enough(reps, ps) {
				t.Errorf("Enough(%d, %v) is false", reps, ps)
			}
			var ps []api.Pair
			for _, round := range settle.Rounds(reps) {
				ps = append(ps, shuffled(dice, round)...)
			}
			if !settle.Enough(reps, ps) {
				t.Errorf("Enough(%d, %v) is false", reps, ps)
			}
		}
	}
}

func TestOps(t *testing.T) { // P26.6
	dice := newDice()
	for range 100 {
		ps := pairs(dice, 1+dice.IntN(16), dice.IntN(20))
		for _, full := range []bool{false, true} {
			got := settle.Ops(ps, full)
			if len(got) != len(ps) {
				t.Fatalf("Ops of %d pairs are %d", len(ps), len(got))
			}
			for i, p := range ps {
				want := api.Op{Kind: 8, Rep: p.From, To: p.To}
				if full {
					want.Kind = 9
				}
				if got[i] != want {
					t.Errorf("Ops(%v, %t)[%d] = %+v", ps, full, i, got[i])
				}
			}
		}
	}
	want := []api.Op{{Kind: api.OpFull, Rep: 0, To: 1}, {Kind: api.OpFull, Rep: 7, To: 7}}
	if got := settle.Ops([]api.Pair{{From: 0, To: 1}, {From: 7, To: 7}}, true); !slices.Equal(got, want) {
		t.Errorf("Ops = %v, want %v", got, want)
	}
}

package acks_test

import (
	"math"
	"slices"
	"testing"

	"barrow/acks"
	"barrow/api"
)

func TestNew(t *testing.T) { // P17.1
	edges := []int{math.MinInt, -16, -1, 0, 1, 2, 3, 15, 16, 17, 18, 64, math.MaxInt}
	for _, reps := range edges {
		for _, self := range edges {
			want := api.OK
			if reps < 1 || reps > 16 {
				want = api.ErrArg
			} else if self < 0 || self > reps-1 {
				want = api.ErrRep
			}
			if table, err := acks.New(reps, self); err != want || (table != nil) != (err == api.OK) {
				t.Errorf("New(%d, %d) = %v, %d, want %d", reps, self, table, err, want)
			}
		}
	}
}

func TestANewTable(t *testing.T) { // P17.1, P17.2
	for reps := 1; reps <= 16; reps++ {
		for self := range reps {
			newPair(t, reps, self).check(t)
		}
	}
}

func TestEveryOrderOfCalls(t *testing.T) { // P17.1, P17.2, P17.3
	dice := newDice()
	for reps := 1; reps <= 16; reps++ {
		for self := range reps {
			p := newPair(t, reps, self)
			asked := p.asked()
			for i := range 60 {
				// Small numbers come more often than the far ones, behind which no other counts.
				hi := dice.IntN(12)
				if dice.IntN(4) == 0 {
					hi = numbers()[dice.IntN(len(numbers()))]
				}
				p.heard(t, asked[dice.IntN(len(asked))], hi)
				if dice.IntN(15) == 0 {
					p.reset()
				}
				if i%5 == 0 {
					p.check(t)
				}
			}
			p.check(t)
			p.reset()
			p.check(t)
		}
	}
}

func TestTheGreatestCounts(t *testing.T) { // P17.1, P17.2
	for _, one := range numbers() {
		for _, two := range numbers() {
			p := newPair(t, 3, 1)
			p.heard(t, 2, one)
			p.check(t)
			p.heard(t, 2, two)
			p.check(t)
			p.heard(t, 0, two)
			p.check(t)
		}
	}
}

func TestPlans(t *testing.T) { // P17.1, P17.3
	for has := range 8 {
		p := newPair(t, 2, 0)
		p.heard(t, 1, has)
		for first := -2; first < 10; first++ {
			for next := -2; next < 10; next++ {
				p.plan(t, 1, first, next)
			}
		}
	}
	for _, has := range numbers() {
		p := newPair(t, 2, 0)
		p.heard(t, 1, has)
		for _, first := range numbers() {
			for _, next := range numbers() {
				p.plan(t, 1, first, next)
			}
		}
	}
}

func TestTheErrorThatIsNamedFirst(t *testing.T) { // P17.1
	p := newPair(t, 3, 1)
	p.heard(t, 0, 4)
	for _, peer := range p.asked() {
		for _, hi := range []int{math.MinInt, -1, api.MaxSeq + 1, math.MaxInt} {
			p.heard(t, peer, hi)
		}
		for _, log := range [][2]int{{3, 2}, {-1, 5}, {-2, -1}, {0, api.MaxSeq + 1}, {math.MaxInt, math.MinInt}, {math.MinInt, math.MaxInt}} {
			p.plan(t, peer, log[0], log[1])
		}
	}
	if _, err := acks.New(0, 99); err != api.ErrArg {
		t.Errorf("New(0, 99): %d", err)
	}
}

func TestARefusedCallChangesNothing(t *testing.T) { // P17.1, P17.2
	p := newPair(t, 3, 1)
	p.heard(t, 0, 4)
	p.heard(t, 2, 9)
	for _, peer := range p.asked() {
		p.heard(t, peer, -1)
		p.heard(t, peer, api.MaxSeq+1)
		p.check(t)
	}
	for _, peer := range []int{math.MinInt, -1, 1, 3, 16, math.MaxInt} {
		p.heard(t, peer, 50)
		p.check(t)
	}
}

func TestANumberNeverFallsAndWasTold(t *testing.T) { // P17.2
	dice := newDice()
	table, _ := acks.New(16, 5)
	since := map[int][]int{} // for each peer what was told since the last Reset
	before := make([]int, 16)
	for range 3000 {
		peer, hi := dice.IntN(18)-1, dice.IntN(200)-20
		if table.Heard(peer, hi) == api.OK {
			since[peer] = append(since[peer], hi)
		}
		if dice.IntN(150) == 0 {
			table.Reset()
			clear(since)
			clear(before)
		}
		now := table.All()
		for peer, n := range now {
			if n < before[peer] || n != 0 && !slices.Contains(since[peer], n) {
				t.Fatalf("peer %d: %d and then %d; it was told %v", peer, before[peer], n, since[peer])
			}
		}
		before = now
	}
}

// A sync by a plan that isn't full sends all that the peer lacks; one that can't is full.
func TestAPlanLeavesNoItemOut(t *testing.T) { // P17.3
	dice := newDice()
	for range 3000 {
		table, _ := acks.New(4, 3)
		table.Heard(1, dice.IntN(20))
		first := dice.IntN(20)
		next := first + dice.IntN(20)
		has, _ := table.Of(1)
		plan, err := table.Plan(1, first, next)
		held := first <= has && has <= next
		if err != api.OK || plan.Hi != next || plan.Full == held {
			t.Errorf("with %d, Plan(1, %d, %d) = %v, %d", has, first, next, plan, err)
		}
		if plan.Full && plan.Lo != 0 || !plan.Full && (plan.Lo != has || plan.Lo < first || plan.Lo > plan.Hi) {
			t.Errorf("with %d, Plan(1, %d, %d) = %v", has, first, next, plan)
		}
		if again, _ := table.Of(1); again != has {
			t.Errorf("Plan(1, %d, %d) changes %d to %d", first, next, has, again)
		}
	}
}

func TestTablesSideBySide(t *testing.T) { // P17.3
	dice := newDice()
	var pairs []pair
	for range 3 {
		for reps := 1; reps <= 16; reps += 5 {
			pairs = append(pairs, newPair(t, reps, dice.IntN(reps)))
		}
	}
	for range 500 {
		p := pairs[dice.IntN(len(pairs))]
		p.heard(t, dice.IntN(17), dice.IntN(100))
		if dice.IntN(40) == 0 {
			pairs[dice.IntN(len(pairs))].reset()
		}
	}
	for _, p := range pairs {
		p.check(t)
	}
}

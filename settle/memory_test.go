package settle_test

import (
	"slices"
	"testing"

	"barrow/api"
	"barrow/engine"
	"barrow/known"
	"barrow/memcheck"
	"barrow/sample"
	"barrow/settle"
)

type region = memcheck.Region

// answers: the memory of all that the calls on numbers and pairs answer.
func answers(reps int, ps []api.Pair) []region {
	return slices.Concat(
		[]region{memcheck.Pairs(settle.Pairs(reps)), memcheck.Ops(settle.Ops(ps, false)), memcheck.Ops(settle.Ops(ps, true))},
		memcheck.PairLists(settle.Rounds(reps)), memcheck.Lists(settle.Reach(reps, ps)),
	)
}

func TestPairsAreNewMemory(t *testing.T) { // R7
	dice := newDice()
	for _, c := range counts() {
		reps, n := c.given, c.counts
		for range 5 {
			mine := sample.RoomyPairs(pairs(dice, n, dice.IntN(20)))
			given := memcheck.Pairs(mine)
			settle.Enough(reps, mine)
			if memcheck.Shared(slices.Concat(answers(reps, mine), answers(reps, mine), []region{given})) {
				t.Errorf("of %d replicas a write into an answer changes another, or the pairs", reps)
			}
		}
		// A written answer is no part of a later one.
		if got := settle.Pairs(reps); len(got) != n*(n-1) || n > 1 && got[0] != (api.Pair{From: 0, To: 1}) {
			t.Errorf("Pairs(%d) = %v", reps, got)
		}
	}
}

func TestTalkKeepsNothing(t *testing.T) { // R7
	dice := newDice()
	for range 20 {
		s := known.Thrown(dice.IntN, anyHead(dice), 60)
		c, twin := played[api.Facts, engine.Tomb](s), played[api.Facts, engine.Tomb](s)
		ps := pairs(dice, s.Head.Reps, 10)
		mine := sample.RoomyPairs(ps)
		given := []region{memcheck.Pairs(mine)}
		settle.Talk(c, mine, false)
		if memcheck.Changed(given, nil) {
			t.Errorf("Talk changes the pairs")
		}
		memcheck.Changed(nil, given)
		settle.Talk(twin, ps, false)
		if tell(c) != tell(twin) {
			t.Errorf("a write into the pairs changes the stack")
		}
	}
}

func TestScriptsAreNewMemory(t *testing.T) { // R7
	dice := newDice()
	for range 30 {
		s := known.Thrown(dice.IntN, anyHead(dice), dice.IntN(60))
		mine := sample.RoomyScript(s)
		given := []region{memcheck.Ops(mine.Ops)}
		one, two := settle.Extend(mine), settle.Extend(mine)
		three, four := settle.Final(mine), settle.Final(mine)
		all := slices.Concat([]region{memcheck.Ops(one.Ops), memcheck.Ops(two.Ops)}, memcheck.LineLists(three), memcheck.LineLists(four), given)
		if memcheck.Shared(all) {
			t.Errorf("a write into an answer changes another, or the script")
		}
		one, three = settle.Extend(s), settle.Final(s)
		if memcheck.Changed(append(memcheck.LineLists(three), memcheck.Ops(one.Ops)), given) {
			t.Errorf("Extend or Final keeps the script")
		}
	}
}

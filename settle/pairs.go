package settle

import "barrow/api"

// clamped: the number of replicas, or the bound that it is beyond.
func clamped(reps int) int { return min(max(reps, 1), api.MaxReps) }

// Pairs: each ordered pair of replicas once.
func Pairs(reps int) []api.Pair {
	n := clamped(reps)
	var ps []api.Pair
	for from := range n {
		for to := range n {
			if from != to {
				ps = append(ps, api.Pair{From: from, To: to})
			}
		}
	}
	return ps
}

// Rounds: the doubling rounds: in round k each replica talks to the one 2^k further on.
func Rounds(reps int) [][]api.Pair {
	n := clamped(reps)
	var rounds [][]api.Pair
	for step := 1; step < n; step *= 2 {
		rounds = append(rounds, round(n, step))
	}
	return rounds
}

// round: each replica talks to the one so many steps further on.
func round(reps, step int) []api.Pair {
	var ps []api.Pair
	for from := range reps {
		ps = append(ps, api.Pair{From: from, To: (from + step) % reps})
	}
	return ps
}

// Reach: whose events each replica knows, behind talks in that order.
func Reach(reps int, ps []api.Pair) [][]int {
	n := clamped(reps)
	knows := behind(n, ps)
	lists := make([][]int, n)
	for rep := range lists {
		for other := range n {
			if knows[rep][other] {
				lists[rep] = append(lists[rep], other)
			}
		}
	}
	return lists
}

// A sight says of each replica whether its events are known.
type sight [api.MaxReps]bool

// behind: what each of so many replicas knows behind the talks.
func behind(reps int, ps []api.Pair) [api.MaxReps]sight {
	var knows [api.MaxReps]sight
	for rep := range reps {
		knows[rep][rep] = true
	}
	for _, p := range ps {
		if isGood(p, reps) {
			knows[p.To].take(knows[p.From])
		}
	}
	return knows
}

func isGood(p api.Pair, reps int) bool {
	return isRep(p.From, reps) && isRep(p.To, reps) && p.From != p.To
}

func isRep(rep, reps int) bool { return 0 <= rep && rep < reps }

// take: what the other one knows is known here too.
func (s *sight) take(other sight) {
	for rep, known := range other {
		s[rep] = s[rep] || known
	}
}

// Enough: does each replica know all replicas' events behind the talks?
func Enough(reps int, ps []api.Pair) bool {
	for _, list := range Reach(reps, ps) {
		if len(list) < clamped(reps) {
			return false
		}
	}
	return true
}

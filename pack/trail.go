package pack

import "barrow/api"

// How far a number lies at least above the one before it, of one replica: two entries may be neighbours, two spans would then be one.
const (
	entryGap = 1
	spanGap  = 2
)

// A trail goes along things that rise by replica and then by number, and knows what may stand next. Writer and reader go along the same one, so that the one puts back what the other leaves out.
type trail struct {
	gap  int
	rep  int              // of the thing before
	last [api.MaxReps]int // of each replica how far its numbers are told
}

// newTrail stands ahead of the first thing; what vec holds is told already.
func newTrail(gap int, vec []int) *trail {
	t := &trail{gap: gap}
	copy(t.last[:], vec)
	return t
}

// least: the least number of the replica that may stand next.
func (t *trail) least(rep int) int { return t.last[rep] + t.gap }

// pass: the replica's numbers are told up to last.
func (t *trail) pass(rep, last int) { t.rep, t.last[rep] = rep, last }

package engine

import (
	"slices"

	"barrow/api"
	"barrow/lines"
)

// A pile is what a list of states comes to: their join, and every entry that is live in one of them.
type pile[S any] struct {
	state S
	lives []api.Entry
	err   api.Errno
}

// Fold: the join of all, by so many workers.
func Fold[S any, E Engine[S]](list []S, workers int) (S, api.Errno) {
	return result(together[S, E](sideBySide(pieces(list, workers), gather[S, E])))
}

func result[S any](p pile[S]) (S, api.Errno) { return p.state, p.err }

// gather: the pile of a list of states.
func gather[S any, E Engine[S]](list []S) pile[S] {
	var e E
	var lives []api.Entry
	// All are asked for their form ahead of the first join, which may clash.
	for _, s := range list {
		live, err := e.Live(s)
		if err != api.OK {
			return pile[S]{err: err}
		}
		lives = append(lives, live...)
	}
	return joined[S, E](list, lives)
}

// together: the pile of all piles, as of the states behind them.
func together[S any, E Engine[S]](piles []pile[S]) pile[S] {
	// A state out of form in one piece counts ahead of a clash in another.
	for _, err := range []api.Errno{api.ErrForm, api.ErrClash} {
		if slices.ContainsFunc(piles, func(p pile[S]) bool { return p.err == err }) {
			return pile[S]{err: err}
		}
	}
	var states []S
	var lives []api.Entry
	for _, p := range piles {
		states, lives = append(states, p.state), append(lives, p.lives...)
	}
	return joined[S, E](states, lives)
}

// joined: the pile of states in form, of which these entries are live.
func joined[S any, E Engine[S]](list []S, lives []api.Entry) pile[S] {
	// Two compact states that clash may come together over a third, which has removed the dot from one of them: their joins alone would not tell.
	all, err := lines.Sort(lives)
	if err != api.OK {
		return pile[S]{err: err}
	}
	state, err := join[S, E](list)
	return pile[S]{state, all, err}
}

// join puts the halves together, not one state behind the other: so each is copied but few times.
func join[S any, E Engine[S]](list []S) (S, api.Errno) {
	var e E
	switch len(list) {
	case 0:
		return e.Empty(), api.OK
	case 1:
		// Joined to nothing a state is the same, in memory of its own.
		return e.Join(e.Empty(), list[0])
	}
	half := len(list) / 2
	a, err := join[S, E](list[:half])
	if err != api.OK {
		return e.Empty(), err
	}
	b, err := join[S, E](list[half:])
	if err != api.OK {
		return e.Empty(), err
	}
	return e.Join(a, b)
}

// Replay: the join of the states of all events.
func Replay[S any, E Engine[S]](events []api.Facts) (S, api.Errno) {
	var e E
	var states []S
	for _, f := range events {
		s, err := e.Event(f)
		if err != api.OK {
			return e.Empty(), err
		}
		states = append(states, s)
	}
	// An event's add is live in its state, so that a clash of the events is one of the states.
	return result(gather[S, E](states))
}

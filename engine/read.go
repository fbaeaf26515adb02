package engine

import (
	"barrow/api"
	"barrow/lines"
)

// told is what a worker reads.
type told struct {
	lists [][]api.Line
	err   api.Errno
}

// Read: the lines of each state, by so many workers.
func Read[S any, E Engine[S]](list []S, workers int) ([][]api.Line, api.Errno) {
	var out [][]api.Line
	for _, t := range sideBySide(pieces(list, workers), readAll[S, E]) {
		if t.err != api.OK {
			return nil, t.err
		}
		out = append(out, t.lists...)
	}
	return out, api.OK
}

func readAll[S any, E Engine[S]](list []S) told {
	var e E
	var lists [][]api.Line
	for _, s := range list {
		live, err := e.Live(s)
		if err != api.OK {
			return told{err: err}
		}
		read, _ := lines.Lines(live)
		lists = append(lists, read)
	}
	return told{lists: lists}
}

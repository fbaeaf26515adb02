package span

import (
	"strconv"
	"strings"

	"barrow/api"
)

const (
	emptyText = "none"
	runComma  = ","
	runDots   = ".."
)

// Show: the set as a text.
func Show(a []api.Run) string {
	runs := Norm(a)
	if len(runs) == 0 {
		return emptyText
	}
	texts := make([]string, len(runs))
	for i, r := range runs {
		texts[i] = showRun(r)
	}
	return strings.Join(texts, runComma)
}

func showRun(r api.Run) string {
	if r.Lo == r.Hi {
		return strconv.Itoa(r.Lo)
	}
	return strconv.Itoa(r.Lo) + runDots + strconv.Itoa(r.Hi)
}

// Read: the set of a text.
func Read(s string) ([]api.Run, api.Errno) {
	runs, ok := parse(s)
	// parse takes more than Show writes (signs, zeros in front, runs out of order); what is one of Show's own texts, Show itself tells.
	if !ok || Show(runs) != s {
		return nil, api.ErrText
	}
	return Norm(runs), api.OK
}

func parse(s string) ([]api.Run, bool) {
	if s == emptyText {
		return nil, true
	}
	var runs []api.Run
	for piece := range strings.SplitSeq(s, runComma) {
		r, ok := parseRun(piece)
		if !ok {
			return nil, false
		}
		runs = append(runs, r)
	}
	return runs, true
}

func parseRun(piece string) (api.Run, bool) {
	first, last, long := strings.Cut(piece, runDots)
	if !long {
		last = first
	}
	lo, errLo := strconv.Atoi(first)
	hi, errHi := strconv.Atoi(last)
	return api.Run{Lo: lo, Hi: hi}, errLo == nil && errHi == nil
}

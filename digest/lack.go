package digest

import (
	"barrow/api"
	"barrow/keep"
	"barrow/lines"
	"barrow/past"
	"barrow/swot"
	"barrow/tomb"
)

// LackFacts: what one with that digest lacks of the facts.
func LackFacts(f api.Facts, d api.Digest) (api.Facts, api.Errno) {
	heard, err := tomb.Past(f)
	if err != api.OK {
		return api.Facts{}, err
	}
	if err := Check(d); err != api.OK {
		return api.Facts{}, err
	}
	live, _ := tomb.Live(f)
	news, dead := lack(live, heard, d)
	waits, _ := keep.Waits(f.Recs, heard)
	return api.Facts{Adds: news, Gone: dead, Recs: waits}, api.OK
}

// LackSwot: what one with that digest lacks of the state.
func LackSwot(s api.Swot, d api.Digest) (api.Swot, api.Errno) {
	if err := swot.Check(s); err != api.OK {
		return api.Swot{}, err
	}
	if err := Check(d); err != api.OK {
		return api.Swot{}, err
	}
	news, dead := lack(s.Live, s.Past, d)
	dots, _ := lines.Dots(news)
	// In a state in form each record waits: these are all of them, in memory of their own.
	waits, _ := keep.Waits(s.Defer, s.Past)
	return api.Swot{Live: news, Past: past.Join(dots, dead), Defer: waits}, api.OK
}

// lack: of what is live and of what was heard of, the entries that one with the digest lacks, and the dots of which it doesn't know that they aren't live.
func lack(live []api.Entry, heard api.Past, d api.Digest) ([]api.Entry, api.Past) {
	news, _ := lines.Outside(live, d.Heard)
	dots, _ := lines.Dots(live)
	deadHere, deadThere := past.Minus(heard, dots), past.Minus(d.Heard, d.Live)
	return news, past.Minus(deadHere, deadThere)
}

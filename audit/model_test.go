package audit_test

import (
	"math"
	"math/rand/v2"
	"slices"

	"barrow/api"
	"barrow/codec"
	"barrow/goods"
	"barrow/past"
	"barrow/sample"
)

const (
	leastInt = math.MinInt
	greatInt = math.MaxInt
)

var (
	en = sample.Entry
	pa = sample.Past
	re = sample.Record
	sp = sample.Span
)

func es(list ...api.Entry) []api.Entry { return list }

func rs(list ...api.Record) []api.Record { return list }

func newDice() *rand.Rand { return rand.New(rand.NewPCG(53, 54)) }

// inBounds: a number from lo to hi?
func inBounds(n, lo, hi int) bool { return lo <= n && n <= hi }

// isEntry is the document's word on an entry.
func isEntry(e api.Entry) bool {
	return inBounds(e.Dot.Rep, 0, 15) && inBounds(e.Dot.Num, 1, 1000000000) && goods.Good(e.Sku) && inBounds(e.Qty, 1, 1000000)
}

// isCanonical is the document's word on a past.
func isCanonical(p api.Past) bool {
	if len(p.Vec) > 16 || len(p.Vec) > 0 && p.Vec[len(p.Vec)-1] == 0 {
		return false
	}
	for _, n := range p.Vec {
		if !inBounds(n, 0, 1000000000) {
			return false
		}
	}
	for i, s := range p.Cloud {
		if !inBounds(s.Rep, 0, 15) || !inBounds(s.Lo, 1, s.Hi) || s.Hi > 1000000000 {
			return false
		}
		own := 0
		if s.Rep < len(p.Vec) {
			own = p.Vec[s.Rep]
		}
		if s.Lo < own+2 || i > 0 && (s.Rep < p.Cloud[i-1].Rep || s.Rep == p.Cloud[i-1].Rep && s.Lo < p.Cloud[i-1].Hi+2) {
			return false
		}
	}
	return true
}

// isRecord is the document's word on a record.
func isRecord(r api.Record) bool {
	return (r.Sku == "" || goods.Good(r.Sku)) && isCanonical(r.Past) && len(r.Past.Vec)+len(r.Past.Cloud) > 0
}

// faults is the chapter's table, line by line.
func faults(s api.Swot) []int {
	broken := map[int]int{}
	for i, e := range s.Live {
		if !isEntry(e) {
			broken[1]++
		}
		if i > 0 && (s.Live[i-1].Dot.Rep > e.Dot.Rep || s.Live[i-1].Dot.Rep == e.Dot.Rep && s.Live[i-1].Dot.Num >= e.Dot.Num) {
			broken[2]++
		}
		if !sample.Has(s.Past, e.Dot) {
			broken[4]++
		}
		for _, r := range s.Defer {
			if sample.Covers(r, e) {
				broken[8]++
			}
		}
	}
	if !isCanonical(s.Past) {
		broken[3]++
	}
	for i, r := range s.Defer {
		if !isRecord(r) {
			broken[5]++
		}
		if i > 0 && (s.Defer[i-1].Sku > r.Sku || s.Defer[i-1].Sku == r.Sku && past.Compare(s.Defer[i-1].Past, r.Past) >= 0) {
			broken[6]++
		}
		if past.Within(r.Past, s.Past) {
			broken[7]++
		}
	}
	var list []int
	for number := 1; number <= 8; number++ {
		if broken[number] > 0 {
			list = append(list, number)
		}
	}
	return list
}

// size is the chapter's word on a state in form.
func size(s api.Swot) api.Size {
	b, err := codec.PutSwot(s)
	if err != api.OK {
		panic("a state that isn't in form")
	}
	skus := ""
	for _, e := range s.Live {
		skus += e.Sku
	}
	return api.Size{Bytes: len(b), Live: len(s.Live), Skus: len(skus), Holes: len(s.Past.Cloud), Waits: len(s.Defer)}
}

// bound is the chapter's sum.
func bound(reps int, z api.Size) int {
	switch {
	case reps < 1:
		reps = 1
	case reps > 16:
		reps = 16
	}
	sum := 21 + 5*reps
	if z.Live > 0 {
		sum += 10 * z.Live
	}
	if z.Skus > 0 {
		sum += z.Skus
	}
	return sum
}

// anyStates: states in form and others, of parts that are each right, wrong in one thing, or thrown.
func anyStates(count int) []api.Swot {
	dice := newDice()
	all := slices.Concat(sample.Swots(dice.IntN, 300), sample.WrongSwots())
	entries := slices.Concat(sample.EntryLists(dice.IntN, 60), sample.WrongEntryLists())
	pasts := slices.Concat(sample.Pasts(dice.IntN, 40), sample.WrongPasts())
	records := slices.Concat(sample.RecordLists(dice.IntN, 60), sample.WrongRecordLists())
	for range 60 {
		entries = append(entries, sample.LooseEntries(dice.IntN, true))
		pasts = append(pasts, sample.LoosePast(dice.IntN))
		records = append(records, sample.LooseRecords(dice.IntN))
	}
	for range count {
		s := api.Swot{Live: entries[dice.IntN(len(entries))], Past: pasts[dice.IntN(len(pasts))], Defer: records[dice.IntN(len(records))]}
		all = append(all, s)
		switch dice.IntN(4) {
		case 0:
			s.Live = nil
		case 1:
			s.Defer = nil
		case 2:
			s.Past = past.Norm(s.Past)
		}
		all = append(all, s)
	}
	return all
}

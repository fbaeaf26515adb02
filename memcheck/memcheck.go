// Package memcheck is for tests of what calls do with memory (R7, and the layers' promises of it): nothing that is handed in is changed, and no answer shares memory with it or with another answer.
package memcheck

import (
	"bytes"
	"slices"

	"barrow/api"
)

// junk and junkByte are in no list that a test hands in, or that a call answers.
const (
	junk     = -77
	junkByte = 0xee
)

// A Region is the memory of a list, spare room included.
type Region struct {
	scribble  func()      // writes over all of it
	untouched func() bool // is it still what it was when the Region was made?
}

// Of: the memory of a list. The waste is written where nothing may be lost.
func Of[T any](list []T, waste T, equal func(x, y T) bool) Region {
	whole := list[:cap(list)]
	before := slices.Clone(whole)
	return Region{
		scribble: func() {
			for i := range whole {
				whole[i] = waste
			}
		},
		untouched: func() bool { return slices.EqualFunc(whole, before, equal) },
	}
}

func ofValues[T comparable](list []T, waste T) Region {
	return Of(list, waste, func(x, y T) bool { return x == y })
}

// Numbers: the memory of a list of numbers.
func Numbers(list []int) Region { return ofValues(list, junk) }

// Dots: the memory of a list of dots.
func Dots(list []api.Dot) Region { return ofValues(list, api.Dot{Rep: junk, Num: junk}) }

// Spans: the memory of a list of spans.
func Spans(list []api.Span) Region {
	return ofValues(list, api.Span{Rep: junk, Lo: junk, Hi: junk})
}

// Past: the memory of a past's lists.
func Past(p api.Past) []Region { return []Region{Numbers(p.Vec), Spans(p.Cloud)} }

// Bytes: the memory of a list of bytes.
func Bytes(list []byte) Region { return ofValues(list, junkByte) }

// Entries: the memory of a list of entries.
func Entries(list []api.Entry) Region {
	return ofValues(list, api.Entry{Dot: api.Dot{Rep: junk, Num: junk}, Sku: "junk", Qty: junk})
}

// Lines: the memory of a list of lines.
func Lines(list []api.Line) Region {
	return ofValues(list, api.Line{Sku: "junk", Qty: junk, Parts: junk})
}

// Records: the memory of a list of records, and of their pasts, those in the list's spare room too.
func Records(list []api.Record) []Region {
	var all []Region
	for _, r := range list[:cap(list)] {
		all = append(all, Past(r.Past)...)
	}
	waste := api.Record{Sku: "junk", Past: api.Past{Vec: []int{junk}}}
	// As with lists of lists, the list comes last.
	return append(all, Of(list, waste, sameRecord))
}

func sameRecord(x, y api.Record) bool {
	return x.Sku == y.Sku && samePast(x.Past, y.Past)
}

func samePast(x, y api.Past) bool {
	return slices.Equal(x.Vec, y.Vec) && slices.Equal(x.Cloud, y.Cloud)
}

// Facts: the memory of all lists of facts.
func Facts(f api.Facts) []Region {
	return slices.Concat([]Region{Entries(f.Adds)}, Past(f.Gone), Records(f.Recs))
}

// Swot: the memory of all lists of a compact state.
func Swot(s api.Swot) []Region {
	return slices.Concat([]Region{Entries(s.Live)}, Past(s.Past), Records(s.Defer))
}

// Digest: the memory of all lists of a digest.
func Digest(d api.Digest) []Region { return slices.Concat(Past(d.Heard), Past(d.Live)) }

// Fates: the memory of a list of fates.
func Fates(list []api.Fate) Region {
	return ofValues(list, api.Fate{Dot: api.Dot{Rep: junk, Num: junk}, Kind: junk, Recs: junk})
}

// Mail: the memory of a mail's parts, and of their bodies, those in the list's spare room too.
func Mail(m api.Mail) []Region {
	bodies := func(p api.Part) []Region { return []Region{Bytes(p.Body)} }
	return ofStates(m.Parts, api.Part{Cart: junk, Body: []byte{junkByte}}, bodies, samePart)
}

func samePart(x, y api.Part) bool { return x.Cart == y.Cart && bytes.Equal(x.Body, y.Body) }

// Lists: the memory of lists of numbers, and of the list that holds them.
func Lists(lists [][]int) []Region { return ofLists(lists, junk) }

// ByteLists: the memory of lists of bytes, and of the list that holds them.
func ByteLists(lists [][]byte) []Region { return ofLists(lists, junkByte) }

// LineLists: the memory of lists of lines, and of the list that holds them.
func LineLists(lists [][]api.Line) []Region {
	return ofLists(lists, api.Line{Sku: "junk", Qty: junk, Parts: junk})
}

// LineTables: the memory of lists of such lists, and of the list that holds them.
func LineTables(tables [][][]api.Line) []Region {
	same := func(x, y [][]api.Line) bool { return slices.EqualFunc(x, y, slices.Equal[[]api.Line]) }
	return ofStates(tables, [][]api.Line{{{Sku: "junk"}}}, LineLists, same)
}

// Ops: the memory of a list of ops.
func Ops(list []api.Op) Region { return ofValues(list, api.Op{Kind: junk, Rep: junk, Sku: "junk"}) }

// Answers: the memory of a list of answers, and of their lines, those in the list's spare room too.
func Answers(list []api.Answer) []Region {
	told := func(a api.Answer) []Region { return []Region{Lines(a.Lines)} }
	return ofStates(list, api.Answer{Status: junk, Lines: []api.Line{{Sku: "junk"}}}, told, sameAnswer)
}

func sameAnswer(x, y api.Answer) bool {
	return x.Status == y.Status && slices.Equal(x.Lines, y.Lines) && x.Token == y.Token && x.Msg == y.Msg
}

// SizeLists: the memory of lists of sizes, and of the list that holds them.
func SizeLists(lists [][]api.Size) []Region {
	return ofLists(lists, api.Size{Bytes: junk, Live: junk, Skus: junk, Holes: junk, Waits: junk})
}

// Texts: the memory of a list of texts.
func Texts(list []string) Region { return ofValues(list, "junk") }

// Pairs: the memory of a list of pairs.
func Pairs(list []api.Pair) Region { return ofValues(list, junkPair()) }

// PairLists: the memory of lists of pairs, and of the list that holds them.
func PairLists(lists [][]api.Pair) []Region { return ofLists(lists, junkPair()) }

func junkPair() api.Pair { return api.Pair{From: junk, To: junk} }

// FactsList: the memory of a list of facts, and of all their lists, those in the list's spare room too.
func FactsList(list []api.Facts) []Region {
	return ofStates(list, api.Facts{Adds: []api.Entry{{Qty: junk}}}, Facts, sameFacts)
}

// SwotList: the same of a list of compact states.
func SwotList(list []api.Swot) []Region {
	return ofStates(list, api.Swot{Live: []api.Entry{{Qty: junk}}}, Swot, sameSwot)
}

func ofStates[S any](list []S, waste S, lists func(s S) []Region, equal func(x, y S) bool) []Region {
	var all []Region
	for _, s := range list[:cap(list)] {
		all = append(all, lists(s)...)
	}
	return append(all, Of(list, waste, equal))
}

func sameFacts(x, y api.Facts) bool {
	return slices.Equal(x.Adds, y.Adds) && samePast(x.Gone, y.Gone) && slices.EqualFunc(x.Recs, y.Recs, sameRecord)
}

func sameSwot(x, y api.Swot) bool {
	return slices.Equal(x.Live, y.Live) && samePast(x.Past, y.Past) && slices.EqualFunc(x.Defer, y.Defer, sameRecord)
}

func ofLists[T comparable](lists [][]T, waste T) []Region {
	var all []Region
	for _, list := range lists {
		all = append(all, ofValues(list, waste))
	}
	// The list of lists comes last: once it is written over, what it held can't be reached through it.
	return append(all, Of(lists, []T{waste}, slices.Equal[[]T]))
}

// Changed: is something of given changed, by now or by writes into what was answered?
func Changed(given, answered []Region) bool {
	for _, r := range answered {
		r.scribble()
	}
	return slices.ContainsFunc(given, Region.isChanged)
}

// Shared: does a write into one of the regions change another of them?
func Shared(all []Region) bool {
	for i, r := range all {
		r.scribble()
		if slices.ContainsFunc(all[i+1:], Region.isChanged) {
			return true
		}
	}
	return false
}

func (r Region) isChanged() bool { return !r.untouched() }

package pack_test

import (
	"bytes"
	"math/rand/v2"
	"slices"
	"strings"

	"barrow/api"
	"barrow/keep"
	"barrow/lines"
	"barrow/pack"
	"barrow/past"
	"barrow/sample"
	"barrow/wire"
)

var (
	en = sample.Entry
	pa = sample.Past
	re = sample.Record
	sp = sample.Span
)

func es(list ...api.Entry) []api.Entry { return list }

func rs(list ...api.Record) []api.Record { return list }

// A kind is one of the three things that have bytes, with the chapter's definition of them.
type kind[T any] struct {
	name   string
	put    func(value T) ([]byte, api.Errno)
	get    func(b []byte) (T, api.Errno)
	pieces func(value T) [][]byte
	scan   func(s *scan) T
	check  func(value T) api.Errno
	same   func(a, b T) bool
	right  []T // in form
	wrong  []T // not in form
}

func thePasts() kind[api.Past] {
	return kind[api.Past]{"Past", pack.PutPast, pack.GetPast, pastPieces, (*scan).past, checkPast, sample.SamePast, rightPasts(), sample.WrongPasts()}
}

func theEntries() kind[[]api.Entry] {
	return kind[[]api.Entry]{"Entries", pack.PutEntries, pack.GetEntries, entryPieces, (*scan).entries, lines.Check, slices.Equal[[]api.Entry], rightEntries(), sample.WrongEntryLists()}
}

func theRecords() kind[[]api.Record] {
	return kind[[]api.Record]{"Records", pack.PutRecords, pack.GetRecords, recordPieces, (*scan).records, keep.Check, sample.SameRecords, rightRecords(), sample.WrongRecordLists()}
}

func checkPast(p api.Past) api.Errno {
	if !past.IsNorm(p) {
		return api.ErrForm
	}
	return api.OK
}

func num(n int) []byte {
	w := wire.NewWriter()
	w.Num(n)
	b, _ := w.Done()
	return b
}

func text(s string) []byte { return append(num(len(s)), s...) }

// pastPieces is the chapter's 'A past', word by word: each number by itself.
func pastPieces(p api.Past) [][]byte {
	all := [][]byte{num(len(p.Vec))}
	for _, n := range p.Vec {
		all = append(all, num(n))
	}
	all = append(all, num(len(p.Cloud)))
	for i, s := range p.Cloud {
		step, least := s.Rep, 2
		if s.Rep < len(p.Vec) {
			least = p.Vec[s.Rep] + 2
		}
		if i > 0 {
			before := p.Cloud[i-1]
			step = s.Rep - before.Rep
			if s.Rep == before.Rep {
				least = before.Hi + 2
			}
		}
		all = append(all, num(step), num(s.Lo-least), num(s.Hi-s.Lo))
	}
	return all
}

// entryPieces is the chapter's 'Entries', word by word.
func entryPieces(list []api.Entry) [][]byte {
	all := [][]byte{num(len(list))}
	for i, e := range list {
		step, least := e.Dot.Rep, 1
		if i > 0 {
			before := list[i-1].Dot
			step = e.Dot.Rep - before.Rep
			if e.Dot.Rep == before.Rep {
				least = before.Num + 1
			}
		}
		all = append(all, num(step), num(e.Dot.Num-least), text(e.Sku), num(e.Qty-1))
	}
	return all
}

// recordPieces is the chapter's 'Records', word by word.
func recordPieces(list []api.Record) [][]byte {
	all := [][]byte{num(len(list))}
	for _, r := range list {
		all = append(all, text(r.Sku))
		all = append(all, pastPieces(r.Past)...)
	}
	return all
}

// A scan goes through bytes by the chapter's words alone: it bounds nothing but the numbers themselves, and leaves all else to the form of what came out.
type scan struct {
	rest []byte
	bad  bool
}

// num: no number of a value in form, and no difference of two, is above MaxNum.
func (s *scan) num() int {
	n, behind, err := wire.Num(s.rest, 0)
	if s.bad || err != api.OK || n > api.MaxNum {
		s.bad = true
		return 0
	}
	s.rest = s.rest[behind:]
	return n
}

func (s *scan) text() string {
	n := s.num()
	if s.bad || n > len(s.rest) {
		s.bad = true
		return ""
	}
	text := string(s.rest[:n])
	s.rest = s.rest[n:]
	return text
}

func (s *scan) past() api.Past {
	var p api.Past
	for i := s.num(); i > 0 && !s.bad; i-- {
		p.Vec = append(p.Vec, s.num())
	}
	for i := s.num(); i > 0 && !s.bad; i-- {
		before := api.Span{Rep: 0, Hi: -1}
		if len(p.Cloud) > 0 {
			before = p.Cloud[len(p.Cloud)-1]
		}
		rep, least := before.Rep+s.num(), 2
		if rep < len(p.Vec) {
			least = p.Vec[rep] + 2
		}
		if len(p.Cloud) > 0 && rep == before.Rep {
			least = before.Hi + 2
		}
		lo := least + s.num()
		p.Cloud = append(p.Cloud, sp(rep, lo, lo+s.num()))
	}
	return p
}

func (s *scan) entries() []api.Entry {
	var list []api.Entry
	before := api.Dot{}
	for i := s.num(); i > 0 && !s.bad; i-- {
		rep, least := before.Rep+s.num(), 1
		if len(list) > 0 && rep == before.Rep {
			least = before.Num + 1
		}
		before = api.Dot{Rep: rep, Num: least + s.num()}
		sku := s.text()
		list = append(list, en(before.Rep, before.Num, sku, s.num()+1))
	}
	return list
}

func (s *scan) records() []api.Record {
	var list []api.Record
	for i := s.num(); i > 0 && !s.bad; i-- {
		sku := s.text()
		list = append(list, api.Record{Sku: sku, Past: s.past()})
	}
	return list
}

// wanted: what Get answers of b, by the chapter.
func (k kind[T]) wanted(b []byte) (T, api.Errno) {
	s := &scan{rest: b}
	value := k.scan(s)
	if s.bad || len(s.rest) > 0 || k.check(value) != api.OK {
		var none T
		return none, api.ErrBad
	}
	return value, api.OK
}

func (k kind[T]) encoding(value T) []byte { return bytes.Join(k.pieces(value), nil) }

// edgeNums: numbers of a vector at which an encoding grows by a byte, and the greatest.
func edgeNums() []int {
	return []int{1, 127, 128, 300, 1<<14 - 1, 1 << 14, 1<<21 - 1, 1 << 21, 1<<28 - 1, 1 << 28, api.MaxNum - 1, api.MaxNum}
}

func rightPasts() []api.Past {
	all := sample.Pasts(newDice().IntN, 150)
	everywhere := api.Past{}
	for rep := range api.MaxReps {
		everywhere.Cloud = append(everywhere.Cloud, sp(rep, 2, 3), sp(rep, 5, 300), sp(rep, api.MaxNum, api.MaxNum))
		all = append(all, pa(append(make([]int, rep), 1)), pa(nil, sp(rep, 2, 2)), pa(slices.Repeat([]int{api.MaxNum}, rep+1)))
	}
	for _, n := range edgeNums() {
		all = append(all, pa([]int{n}), pa([]int{0, n, 0, 1}), pa([]int{1}, sp(0, 3, max(3, n))), pa(nil, sp(1, max(2, n), max(2, n))))
	}
	return append(all, everywhere,
		pa([]int{4}, sp(0, 6, 12), sp(1, 2, 2)), pa([]int{300}, sp(2, 5, 5), sp(2, 9, 10)),
		pa([]int{api.MaxNum - 2}, sp(0, api.MaxNum, api.MaxNum)), pa([]int{0, 3}, sp(0, 2, 2), sp(1, 5, 5), sp(2, 2, 2)), pa([]int{0, 0, 7}, sp(2, 9, 9), sp(2, 11, 11), sp(5, 2, 2)))
}

func rightEntries() [][]api.Entry {
	all := sample.EntryLists(newDice().IntN, 200)
	var everywhere []api.Entry
	for rep := range api.MaxReps {
		everywhere = append(everywhere, en(rep, 1, "A", 1), en(rep, 2, "A-1", 128), en(rep, 130, "B", 129), en(rep, api.MaxNum, strings.Repeat("Z", rep+9), api.MaxQty))
	}
	for _, n := range edgeNums() {
		all = append(all, es(en(3, n, "A", min(n, api.MaxQty))))
	}
	return append(all, everywhere, es(en(0, 1, "A", 5), en(0, 3, "AB", 1), en(2, 1, "A", 7)))
}

func rightRecords() [][]api.Record {
	all := sample.RecordLists(newDice().IntN, 200)
	for _, p := range rightPasts() {
		if !past.Empty(p) {
			all = append(all, rs(api.Record{Past: p}), rs(re("", []int{1}), api.Record{Sku: "A", Past: p}))
		}
	}
	return append(all, rs(re("", []int{1}), re("A", []int{2})))
}

// wider: the number with one byte more than it needs.
func wider(number []byte) []byte {
	last := len(number) - 1
	return append(append(slices.Clone(number[:last]), number[last]+128), 0)
}

// shortBytes: all bytes up to this length that are made of few.
func shortBytes(length int) [][]byte {
	all := [][]byte{nil}
	from := 0
	for range length {
		till := len(all)
		for _, b := range all[from:till] {
			for _, c := range []byte{0, 1, 2, 15, 16, 'A', 128} {
				all = append(all, append(slices.Clone(b), c))
			}
		}
		from = till
	}
	return all
}

// nearBytes: encodings, and what is nearly one: a byte changed, left out or put in, a number in a longer form, two pieces changed about.
func (k kind[T]) nearBytes() [][]byte {
	dice := newDice()
	var all [][]byte
	for _, value := range k.right {
		b := k.encoding(value)
		all = append(all, b)
		for range 20 {
			at, c := dice.IntN(len(b)), []byte{0, 1, 2, 3, 16, 127, 128, 129, 255, 'A', 'a', '-'}[dice.IntN(12)]
			all = append(all, slices.Replace(slices.Clone(b), at, at+1, c), slices.Delete(slices.Clone(b), at, at+1), slices.Insert(slices.Clone(b), at, c))
		}
		pieces := k.pieces(value)
		for i := range pieces {
			changed := slices.Clone(pieces)
			j := dice.IntN(len(pieces))
			changed[i], changed[j] = changed[j], changed[i]
			all = append(all, bytes.Join(changed, nil))
			changed[i] = wider(changed[i])
			all = append(all, bytes.Join(changed, nil))
		}
	}
	return all
}

func newDice() *rand.Rand { return rand.New(rand.NewPCG(13, 14)) }

package codec_test

import (
	"math/rand/v2"
	"slices"
	"strings"

	"barrow/api"
	"barrow/codec"
	"barrow/pack"
	"barrow/past"
	"barrow/sample"
	"barrow/swot"
	"barrow/tomb"
	"barrow/wire"
)

var (
	en = sample.Entry
	pa = sample.Past
	re = sample.Record
	sp = sample.Span
)

func es(list ...api.Entry) []api.Entry { return list }

func rs(list ...api.Record) []api.Record { return list }

// A kind is one of the two things that have bytes, with the chapter's definition of them.
type kind[T any] struct {
	name  string
	put   func(value T) ([]byte, api.Errno)
	get   func(b []byte) (T, api.Errno)
	size  func(value T) (int, api.Errno)
	first byte // the number that the bytes begin with
	of    func(es []api.Entry, p api.Past, recs []api.Record) T
	parts func(value T) ([]api.Entry, api.Past, []api.Record)
	check func(value T) api.Errno
	same  func(a, b T) bool
	right []T // in form
	wrong []T // not in form
}

func theFacts() kind[api.Facts] {
	return kind[api.Facts]{
		"Facts", codec.PutFacts, codec.GetFacts, codec.SizeFacts, 1,
		func(es []api.Entry, p api.Past, recs []api.Record) api.Facts {
			return api.Facts{Adds: es, Gone: p, Recs: recs}
		},
		func(f api.Facts) ([]api.Entry, api.Past, []api.Record) { return f.Adds, f.Gone, f.Recs },
		tomb.Check, sample.SameFacts, append(sample.Facts(newDice().IntN, 200), wideFacts()...), sample.WrongFacts(),
	}
}

func theSwots() kind[api.Swot] {
	right := sample.Swots(newDice().IntN, 200)
	for _, f := range wideFacts() {
		right = append(right, sample.State(f))
	}
	return kind[api.Swot]{
		"Swot", codec.PutSwot, codec.GetSwot, codec.SizeSwot, 2,
		func(es []api.Entry, p api.Past, recs []api.Record) api.Swot {
			return api.Swot{Live: es, Past: p, Defer: recs}
		},
		func(s api.Swot) ([]api.Entry, api.Past, []api.Record) { return s.Live, s.Past, s.Defer },
		swot.Check, sample.SameSwot, right, sample.WrongSwots(),
	}
}

// wideFacts: facts whose lists are so many bytes that the frame's number has one, two, three.
func wideFacts() []api.Facts {
	var all []api.Facts
	for _, count := range []int{3, 4, 5, 18, 19, 20, 400, 3000} {
		var f api.Facts
		for i := range count {
			f.Adds = append(f.Adds, en(5, 2*i+1, strings.Repeat("Z", 1+i%24), 1+i))
			f.Gone.Cloud = append(f.Gone.Cloud, sp(5, 4*i+2, 4*i+2))
			f.Recs = append(f.Recs, re("A", []int{i + 1}))
		}
		all = append(all, f, api.Facts{Adds: f.Adds}, api.Facts{Gone: f.Gone}, api.Facts{Recs: f.Recs}, api.Facts{Gone: pa(slices.Repeat([]int{api.MaxNum}, min(count, 16)))})
	}
	return all
}

func num(n int) []byte {
	w := wire.NewWriter()
	w.Num(n)
	b, _ := w.Done()
	return b
}

func frame(b []byte) []byte { return append(num(len(b)), b...) }

// bodies: what the three frames of a value in form hold.
func (k kind[T]) bodies(value T) [3][]byte {
	es, p, recs := k.parts(value)
	entries, _ := pack.PutEntries(es)
	heard, _ := pack.PutPast(p)
	records, _ := pack.PutRecords(recs)
	return [3][]byte{entries, heard, records}
}

func (k kind[T]) framed(bodies [3][]byte) []byte {
	return slices.Concat([]byte{k.first}, frame(bodies[0]), frame(bodies[1]), frame(bodies[2]))
}

// encoding is the chapter's 'The bytes', word by word.
func (k kind[T]) encoding(value T) []byte { return k.framed(k.bodies(value)) }

// wanted: what Get answers of b, by the chapter: the first number, three frames and no more, each what layer 9 reads, and all in form together.
func (k kind[T]) wanted(b []byte) (T, api.Errno) {
	var none T
	first, behind, err := wire.Num(b, 0)
	if err != api.OK || first != int(k.first) {
		return none, api.ErrBad
	}
	frames, err := wire.Split(b[behind:])
	if err != api.OK || len(frames) != 3 {
		return none, api.ErrBad
	}
	es, err1 := pack.GetEntries(frames[0])
	p, err2 := pack.GetPast(frames[1])
	recs, err3 := pack.GetRecords(frames[2])
	value := k.of(es, p, recs)
	if err1 != api.OK || err2 != api.OK || err3 != api.OK || k.check(value) != api.OK {
		return none, api.ErrBad
	}
	return value, api.OK
}

// short: the values in form whose bytes are few enough for each of them to be looked at.
func (k kind[T]) short() []T {
	return sample.Those(k.right, func(value T) bool { return len(k.encoding(value)) <= 600 })
}

// nearBytes: encodings, and what is nearly one: a byte changed, left out or put in, anywhere or in a frame whose number tells it, and the frames of another value.
func (k kind[T]) nearBytes() [][]byte {
	dice := newDice()
	change := func(b []byte) []byte {
		at, c := dice.IntN(len(b)), []byte{0, 1, 2, 3, 16, 127, 128, 129, 255, 'A', 'a', '-'}[dice.IntN(12)]
		switch dice.IntN(3) {
		case 0:
			return slices.Replace(slices.Clone(b), at, at+1, c)
		case 1:
			return slices.Delete(slices.Clone(b), at, at+1)
		}
		return slices.Insert(slices.Clone(b), at, c)
	}
	var all [][]byte
	for _, value := range k.short() {
		b := k.encoding(value)
		all = append(all, b)
		for range 25 {
			one, other := k.bodies(value), k.bodies(k.right[dice.IntN(len(k.right))])
			i := dice.IntN(3)
			one[i] = change(one[i])
			all = append(all, change(b), k.framed(one))
			one[i] = other[i]
			all = append(all, k.framed(one))
		}
	}
	return all
}

// shortBytes: all bytes up to this length that begin with a small number and are made of few.
func shortBytes(length int) [][]byte {
	all := [][]byte{nil, {0}, {1}, {2}, {3}}
	from := 1
	for range length - 1 {
		till := len(all)
		for _, b := range all[from:till] {
			for _, c := range []byte{0, 1, 2, 128} {
				all = append(all, append(slices.Clone(b), c))
			}
		}
		from = till
	}
	return all
}

// smallSwots: states without a cloud and without records, at the bounds of what P12.4 speaks of.
func smallSwots() []api.Swot {
	var all []api.Swot
	for _, s := range theSwots().right {
		all = append(all, api.Swot{Live: s.Live, Past: filled(s.Past)})
	}
	for _, count := range []int{1, 2, 15, 16} {
		for _, live := range []int{0, 1, 3, 4, 127, 128, 400} {
			s := api.Swot{Past: pa(slices.Repeat([]int{api.MaxNum}, count))}
			for i := range live {
				s.Live = append(s.Live, en(count-1, api.MaxNum/500*(i+1), strings.Repeat("Z", 24), api.MaxQty))
			}
			all = append(all, s)
		}
	}
	return all
}

// filled: the past with all that lies below a dot of it.
func filled(p api.Past) api.Past {
	var vec []int
	for rep := range api.MaxReps {
		vec = append(vec, past.Last(p, rep))
	}
	return past.Norm(pa(vec))
}

func newDice() *rand.Rand { return rand.New(rand.NewPCG(19, 20)) }

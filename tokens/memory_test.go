package tokens_test

import (
	"runtime"
	"slices"
	"testing"

	"barrow/api"
	"barrow/memcheck"
	"barrow/sample"
	"barrow/tokens"
)

type region = memcheck.Region

// given is what the calls of tokens are handed.
type given struct {
	t api.Token
	b []byte
}

func (g given) roomy() given {
	return given{api.Token{Cart: g.t.Cart, Past: sample.RoomyPast(g.t.Past)}, sample.RoomyBytes(g.b)}
}

func (g given) memory() []region { return append(memcheck.Past(g.t.Past), memcheck.Bytes(g.b)) }

// A caller makes a call of tokens and tells the memory of all that it answers.
type caller struct {
	name string
	call func(g given) []region
}

func callers() []caller {
	told := func(t api.Token, _ api.Errno) []region { return memcheck.Past(t.Past) }
	return []caller{
		{"Check", func(g given) []region { tokens.Check(g.t); return nil }},
		{"Put", func(g given) []region { b, _ := tokens.Put(g.t); return []region{memcheck.Bytes(b)} }},
		{"Get", func(g given) []region { return told(tokens.Get(g.b)) }},
		{"Text", func(g given) []region { tokens.Text(g.t); return nil }},
		{"Parse", func(g given) []region { return told(tokens.Parse(textOf(g.b))) }},
		{"Give and Find", func(g given) []region {
			r, _ := tokens.New(1)
			n, _ := r.Give(g.t)
			return slices.Concat(told(r.Find(n)), told(r.Find(n)))
		}},
	}
}

// manyGiven: tokens in form and not, each beside bytes that are taken or nearly.
func manyGiven() []given {
	values, encodings := slices.Concat(right(200), wrong()), nearBytes()[:1000]
	all := []given{{}}
	for i := range max(len(values), len(encodings)) {
		all = append(all, given{values[i%len(values)], encodings[i%len(encodings)]})
	}
	return all
}

func TestNothingHandedInIsChanged(t *testing.T) { // R7
	all := manyGiven()
	for _, c := range callers() {
		for _, g := range all {
			mine := g.roomy()
			before := mine.memory()
			if memcheck.Changed(before, c.call(mine)) {
				t.Errorf("%s of %v: the call, or a write into its answer, changes what was handed in", c.name, g)
			}
		}
	}
}

func TestNoTwoAnswersShareMemory(t *testing.T) { // R7
	all := manyGiven()
	for _, c := range callers() {
		for _, g := range all {
			mine := g.roomy()
			if memcheck.Shared(slices.Concat(c.call(mine), c.call(mine))) {
				t.Errorf("%s of %v: a write into one answer changes another", c.name, g)
			}
		}
	}
}

// The ring keeps nothing of what it was handed, and hands out nothing of what it keeps.
func TestTheRingsTokensAreItsOwn(t *testing.T) { // P23.1, R7
	for _, keep := range []int{1, 2, 5, 40} {
		p := newPair(t, keep)
		for _, x := range right(50) {
			mine := given{t: x}.roomy()
			p.s.all = append(p.s.all, x)
			n, _ := p.r.Give(mine.t)
			memcheck.Changed(nil, mine.memory())
			for _, number := range []int{n, n - 1, n - keep + 1} {
				found, _ := p.r.Find(number)
				memcheck.Changed(nil, memcheck.Past(found.Past))
			}
		}
		p.check()
	}
}

func TestAnswersStay(t *testing.T) { // R7
	p := newPair(t, 3)
	var found []region
	for _, x := range right(50) {
		p.give(x)
		last, _ := p.r.Find(p.r.Given())
		found = append(found, memcheck.Past(last.Past)...)
	}
	if memcheck.Changed(found, nil) {
		t.Error("later calls change what was answered")
	}
}

// heap: how many bytes are in use once what nobody reaches is given back.
func heap() int {
	var m runtime.MemStats
	runtime.GC()
	runtime.ReadMemStats(&m)
	return int(m.HeapAlloc)
}

// What is kept from call to call is no more than the promises need: here two of twenty thousand tokens, each of some thousand bytes.
func TestWhatIsLetGoIsNotKept(t *testing.T) { // P23.1
	r, _ := tokens.New(2)
	x := tk(0, slices.Repeat([]int{1}, 16))
	for i := range 50 {
		x.Past.Cloud = append(x.Past.Cloud, sp(0, 3+2*i, 3+2*i))
	}
	before := heap()
	for range 20000 {
		r.Give(x)
	}
	if more := heap() - before; more > 1<<20 {
		t.Errorf("a ring of 2 keeps %d bytes", more)
	}
	if r.Given() != 20000 {
		t.Errorf("Given = %d", r.Given())
	}
}

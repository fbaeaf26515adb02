package save_test

import (
	"slices"
	"testing"

	"barrow/api"
	"barrow/memcheck"
	"barrow/node"
	"barrow/sample"
	"barrow/save"
)

type region = memcheck.Region

// A probe looks at the memory of a kind's calls.
type probe[S any] struct {
	name     string
	of       func(s S) []region
	roomy    func(s S) S
	put      func(d node.Durable[S]) ([]byte, api.Errno)
	get      func(b []byte) (node.Durable[S], api.Errno)
	durables []node.Durable[S] // in form and not
	images   [][]byte          // taken and not
}

func (k kind[S, E]) probe(of func(s S) []region) probe[S] {
	small := func(d node.Durable[S]) bool { return len(k.image(d)) < 1000 }
	list := sample.Those(k.durables(), small)
	images := allSealed(k.nearBodies()[:500])
	for _, d := range list {
		images = append(images, k.image(d), k.image(d)[4:])
	}
	return probe[S]{k.name, of, k.roomy, k.put, k.get, slices.Concat(list, k.wrongDurables()[:80]), images}
}

// memory: that of a list of carts and of their states, those in its spare room too.
func (p probe[S]) memory(d node.Durable[S]) []region {
	var all []region
	for _, c := range d.Carts[:cap(d.Carts)] {
		all = append(all, p.of(c.State)...)
	}
	same := func(x, y node.Held[S]) bool { return x.Cart == y.Cart }
	return append(all, memcheck.Of(d.Carts, node.Held[S]{Cart: -77}, same))
}

// roomyDurable: in new memory, with spare room in which there is something to lose.
func (p probe[S]) roomyDurable(d node.Durable[S]) node.Durable[S] {
	room := slices.Concat(d.Carts, []node.Held[S]{{Cart: 70}, {Cart: 71}})
	for i, c := range room {
		room[i].State = p.roomy(c.State)
	}
	d.Carts = room[:len(d.Carts)]
	return d
}

func (p probe[S]) checkPut(t *testing.T) {
	t.Helper()
	for _, d := range p.durables {
		mine := p.roomyDurable(d)
		before := p.memory(mine)
		one, _ := p.put(mine)
		two, _ := p.put(mine)
		want := slices.Clone(one)
		if memcheck.Shared([]region{memcheck.Bytes(one), memcheck.Bytes(two)}) {
			t.Errorf("%s: two answers of Put(%v) share memory", p.name, d)
		}
		if memcheck.Changed(before, nil) {
			t.Errorf("%s: Put(%v), or a write into its answer, changes it", p.name, d)
		}
		three, _ := p.put(mine)
		memcheck.Changed(nil, before)
		if !slices.Equal(three, want) {
			t.Errorf("%s: a write into %v changes the bytes that Put answered", p.name, d)
		}
	}
}

func (p probe[S]) checkGet(t *testing.T) {
	t.Helper()
	for _, b := range p.images {
		mine := sample.RoomyBytes(b)
		before := memcheck.Bytes(mine)
		one, err := p.get(mine)
		two, _ := p.get(mine)
		if memcheck.Shared(slices.Concat(p.memory(one), p.memory(two))) {
			t.Errorf("%s: lists of the answers of Get(%x) share memory", p.name, b)
		}
		if memcheck.Changed([]region{before}, nil) {
			t.Errorf("%s: Get(%x), or a write into its answer, changes it", p.name, b)
		}
		three, _ := p.get(mine)
		memcheck.Changed(nil, []region{before})
		if back, _ := p.put(three); err == api.OK && !slices.Equal(back, b) {
			t.Errorf("%s: a write into the bytes changes what Get(%x) answered", p.name, b)
		}
	}
}

func TestMemory(t *testing.T) { // P21.5, R7
	f, s := tombs().probe(memcheck.Facts), swots().probe(memcheck.Swot)
	f.checkPut(t)
	s.checkPut(t)
	f.checkGet(t)
	s.checkGet(t)
}

func TestSumsChangeNothing(t *testing.T) { // P21.5, R7
	for length := range 50 {
		mine := sample.RoomyBytes(slices.Repeat([]byte{byte(length)}, length))
		before := memcheck.Bytes(mine)
		save.Sums(mine)
		if memcheck.Changed([]region{before}, nil) {
			t.Errorf("Sums of %d bytes changes them", length)
		}
	}
}

// checkApart: later acts change nothing of what either replica answered, and what is written into the answers of one is lost on both.
func (k kind[S, E]) checkApart(t *testing.T, p probe[S]) {
	t.Helper()
	h := api.Header{Reps: 3, Carts: 4, Lines: 5, Count: 100, Log: 3}
	for _, n := range crowd[S, E](newDice(), h, 120) {
		m := right(save.Restart[S, E](h, n))
		old, back := p.memory(n.Durable()), p.memory(m.Durable())
		for range 3 {
			n.Act(0, api.Act{Kind: api.ActSet, Sku: "N", Qty: 5})
			m.Act(1, api.Act{Kind: api.ActClear})
		}
		if memcheck.Changed(slices.Concat(old, back), nil) {
			t.Errorf("%s: later acts change what was answered", k.name)
		}
		ofOld, ofBack := tells(n), tells(m)
		if memcheck.Shared(slices.Concat(old, back, p.memory(n.Durable()), p.memory(m.Durable()))) {
			t.Errorf("%s: the answers of the two share memory", k.name)
		}
		if tells(n) != ofOld || tells(m) != ofBack {
			t.Errorf("%s: a write into an answer changes a replica", k.name)
		}
	}
}

func TestRestartSharesNothing(t *testing.T) { // P21.5, R7
	tombs().checkApart(t, tombs().probe(memcheck.Facts))
	swots().checkApart(t, swots().probe(memcheck.Swot))
}

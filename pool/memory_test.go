package pool_test

import (
	"slices"
	"testing"

	"barrow/api"
	"barrow/memcheck"
	"barrow/pool"
	"barrow/sample"
)

type region = memcheck.Region

// A caller makes a call on a pool and tells the memory of all that it answers.
type caller struct {
	name string
	call func(p *pool.Pool, n int) []region
}

func callers() []caller {
	letter := func(l api.Letter, _ api.Errno) []region { return []region{memcheck.Bytes(l.Bytes)} }
	return []caller{
		{"Look", func(p *pool.Pool, n int) []region { return letter(p.Look(n)) }},
		{"Take", func(p *pool.Pool, n int) []region { return letter(p.Take(n)) }},
		{"Waiting", func(p *pool.Pool, n int) []region { return []region{memcheck.Numbers(p.Waiting())} }},
	}
}

// filled: a pair with messages of several lengths, copies of them, and some of each cut.
func filled(t *testing.T) pair {
	p := newPair(t)
	for _, text := range texts() {
		p.put(0, 1, text)
	}
	for n := range len(texts()) {
		p.copy(n + 1)
		p.copy(n + 1)
		p.trim(n+1, n%3+1)
	}
	return p
}

func TestWhatWasHandedInIsNotKept(t *testing.T) { // P19.2, R7
	for _, text := range texts() {
		p := pool.New()
		mine := sample.RoomyBytes([]byte(text))
		before := memcheck.Bytes(mine)
		p.Put(api.Letter{Bytes: mine})
		if memcheck.Changed([]region{before}, nil) {
			t.Errorf("Put of %q changes it", text)
		}
		p.Copy(1)
		p.Trim(2, 1)
		l, _ := p.Look(1)
		m, _ := p.Take(2)
		if memcheck.Changed([]region{before}, []region{memcheck.Bytes(l.Bytes), memcheck.Bytes(m.Bytes)}) {
			t.Errorf("what comes of Put of %q shares its memory", text)
		}
		// The caller does to his bytes what he likes.
		memcheck.Changed(nil, []region{before})
		if l, _ := p.Look(1); string(l.Bytes) != text {
			t.Errorf("behind a write into what was put, %q reads %q", text, l.Bytes)
		}
	}
}

func TestWritesIntoAnswersAreLostOnThePool(t *testing.T) { // P19.2, R7
	for _, c := range callers() {
		p := filled(t)
		for n := 1; n <= p.s.made(); n++ {
			memcheck.Changed(nil, c.call(p.p, n))
			if c.name == "Take" {
				p.s.take(n)
			}
			p.check()
		}
	}
}

func TestNoTwoAnswersShareMemory(t *testing.T) { // P19.2, R7
	p := filled(t)
	var all []region
	for range 2 {
		for n := range p.s.made() + 2 {
			all = append(all, callers()[0].call(p.p, n)...)
			all = append(all, callers()[2].call(p.p, n)...)
		}
	}
	for n := range p.s.made() + 2 {
		all = append(all, callers()[1].call(p.p, n)...)
	}
	if memcheck.Shared(all) {
		t.Error("a write into one answer changes another")
	}
}

func TestAnsweredListsStay(t *testing.T) { // P19.2, R7
	p := filled(t)
	var all []region
	for n := range p.s.made() + 1 {
		all = append(all, callers()[0].call(p.p, n)...)
	}
	all = append(all, memcheck.Numbers(p.p.Waiting()))
	for n := range p.s.made() + 1 {
		p.trim(n, 1)
		p.put(9, 9, "another one")
		p.take(n)
	}
	if memcheck.Changed(all, nil) {
		t.Error("later calls change what was answered")
	}
}

// What is put behind an answer's bytes, or behind those of a cut message, touches no other message.
func TestLongerAnswersTouchNothing(t *testing.T) { // P19.2, R7
	p := filled(t)
	for n := range p.s.made() {
		l, _ := p.p.Look(n + 1)
		l.Bytes = append(l.Bytes, "more than there was"...)
		waiting := append(p.p.Waiting(), -1, -2)
		slices.Reverse(waiting)
		p.check()
	}
}

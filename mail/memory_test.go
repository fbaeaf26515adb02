package mail_test

import (
	"bytes"
	"slices"
	"testing"

	"barrow/api"
	"barrow/mail"
	"barrow/memcheck"
	"barrow/sample"
)

type region = memcheck.Region

// given is what the calls of mail are handed.
type given struct {
	m api.Mail
	b []byte
}

func (g given) roomy() given { return given{sample.RoomyMail(g.m), sample.RoomyBytes(g.b)} }

func (g given) memory() []region { return append(memcheck.Mail(g.m), memcheck.Bytes(g.b)) }

// A caller makes a call of mail and tells the memory of all that it answers.
type caller struct {
	name string
	call func(g given) []region
}

func callers() []caller {
	told := func(m api.Mail, _ api.Errno) []region { return memcheck.Mail(m) }
	return []caller{
		{"Check", func(g given) []region { mail.Check(g.m); return nil }},
		{"Put", func(g given) []region { b, _ := mail.Put(g.m); return []region{memcheck.Bytes(b)} }},
		{"Get", func(g given) []region { return told(mail.Get(g.b)) }},
		{"Size", func(g given) []region { mail.Size(g.m); return nil }},
		{"Ack", func(g given) []region { return told(mail.Ack(g.m)) }},
		{"Carts", func(g given) []region { return []region{memcheck.Numbers(mail.Carts(g.m))} }},
		{"Body", bodies},
	}
}

// bodies: those of all carts, the same cart twice too.
func bodies(g given) []region {
	var all []region
	for _, p := range g.m.Parts {
		for range 2 {
			body, _ := mail.Body(g.m, p.Cart)
			all = append(all, memcheck.Bytes(body))
		}
	}
	return all
}

// manyGiven: mails in form and not, each beside bytes that are taken or nearly.
func manyGiven() []given {
	encodings := nearBytes()[:500]
	for _, m := range mails(200) {
		encodings = append(encodings, encoding(m))
	}
	values := slices.Concat(anyMails(), mails(200))
	all := []given{{}}
	for i := range max(len(encodings), len(values)) {
		all = append(all, given{values[i%len(values)], encodings[i%len(encodings)]})
	}
	return all
}

func TestNothingHandedInIsChanged(t *testing.T) { // P18.3, R7
	all := manyGiven()
	for _, c := range callers() {
		for _, g := range all {
			mine := g.roomy()
			before := mine.memory()
			if memcheck.Changed(before, c.call(mine)) {
				t.Errorf("%s of %v: the call, or a write into its answer, changes what was handed in", c.name, g)
			}
		}
	}
}

func TestNoTwoAnswersShareMemory(t *testing.T) { // P18.3, R7
	all := manyGiven()
	for _, c := range callers() {
		for _, g := range all {
			mine := g.roomy()
			if memcheck.Shared(slices.Concat(c.call(mine), c.call(mine))) {
				t.Errorf("%s of %v: a write into one answer changes another", c.name, g)
			}
		}
	}
}

// What is done to an answer's bodies and to what was handed in shows in neither the other nor in a later answer.
func TestBodiesAreTheirOwn(t *testing.T) { // P18.3, R7
	m := api.Mail{Kind: 2, To: 1, Parts: ps(pt(0, 1, 2, 3), pt(1), pt(2, 4), pt(63, bytes.Repeat([]byte{5}, 300)...))}
	b, _ := mail.Put(m)
	got, _ := mail.Get(b)
	clear(b[:cap(b)])
	if !same(got, m) {
		t.Errorf("the bytes were written over: %v", got)
	}
	for i := range got.Parts {
		// A longer body must not run into the next one.
		got.Parts[i].Body = append(got.Parts[i].Body, 9, 9, 9)
	}
	for i, p := range m.Parts {
		if want := slices.Concat(p.Body, []byte{9, 9, 9}); !bytes.Equal(got.Parts[i].Body, want) {
			t.Errorf("behind longer bodies, that of %d is %x, want %x", p.Cart, got.Parts[i].Body, want)
		}
	}
	body, _ := mail.Body(m, 0)
	clear(body[:cap(body)])
	if again, _ := mail.Body(m, 0); !bytes.Equal(again, []byte{1, 2, 3}) {
		t.Errorf("behind a write into Body's answer it is %x", again)
	}
}

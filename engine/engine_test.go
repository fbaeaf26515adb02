package engine_test

import (
	"slices"
	"testing"

	"barrow/act"
	"barrow/api"
	"barrow/codec"
	"barrow/digest"
	"barrow/engine"
	"barrow/sample"
	"barrow/swot"
	"barrow/tomb"
)

// Both are engines of their states.
var (
	_ engine.Engine[api.Facts] = engine.Tomb{}
	_ engine.Engine[api.Swot]  = engine.Swot{}
)

// A layer is the calls below that an engine's methods are held against.
type layer[S any] struct {
	name   string
	check  func(s S) api.Errno
	event  func(f api.Facts) (S, api.Errno)
	join   func(a, b S) (S, api.Errno)
	live   func(s S) ([]api.Entry, api.Errno)
	past   func(s S) (api.Past, api.Errno)
	digest func(s S) (api.Digest, api.Errno)
	lack   func(s S, d api.Digest) (S, api.Errno)
	pack   func(s S) ([]byte, api.Errno)
	unpack func(b []byte) (S, api.Errno)
	same   func(a, b S) bool
}

func tombLayer() layer[api.Facts] {
	event := func(f api.Facts) (api.Facts, api.Errno) {
		if err := act.Event(f); err != api.OK {
			return api.Facts{}, err
		}
		return f, api.OK
	}
	return layer[api.Facts]{"Tomb", tomb.Check, event, tomb.Join, tomb.Live, tomb.Past, digest.OfFacts, digest.LackFacts, codec.PutFacts, codec.GetFacts, sample.SameFacts}
}

func swotLayer() layer[api.Swot] {
	return layer[api.Swot]{"Swot", swot.Check, swot.Event, swot.Join, swot.Live, swot.Past, digest.OfSwot, digest.LackSwot, codec.PutSwot, codec.GetSwot, sample.SameSwot}
}

// manyEvents: facts that one act can make, that no act can, and that are out of form.
func manyEvents() []api.Facts {
	return slices.Concat(sample.Events(newDice().IntN, 300), sample.UnfitEvents(), sample.WrongFacts(), sample.Facts(newDice().IntN, 50))
}

func manyDigests() []api.Digest {
	return append(sample.Digests(newDice().IntN, 30), sample.WrongDigests()[:15]...)
}

// checkTwo holds the methods that answer of one state, or of two, against the calls below.
func checkTwo[S any, E engine.Engine[S]](t *testing.T, low layer[S], a, b S) {
	t.Helper()
	var e E
	if got, want := e.Check(a), low.check(a); got != want {
		t.Errorf("%s: Check(%v) = %d, want %d", low.name, a, got, want)
	}
	got, err := e.Join(a, b)
	if want, wantErr := low.join(a, b); !low.same(got, want) || err != wantErr {
		t.Errorf("%s: Join(%v, %v) = %v, %d, want %v, %d", low.name, a, b, got, err, want, wantErr)
	}
	live, err := e.Live(a)
	if want, wantErr := low.live(a); !slices.Equal(live, want) || err != wantErr {
		t.Errorf("%s: Live(%v) = %v, %d, want %v, %d", low.name, a, live, err, want, wantErr)
	}
	heard, err := e.Past(a)
	if want, wantErr := low.past(a); !sample.SamePast(heard, want) || err != wantErr {
		t.Errorf("%s: Past(%v) = %v, %d, want %v, %d", low.name, a, heard, err, want, wantErr)
	}
	d, err := e.Digest(a)
	if want, wantErr := low.digest(a); !sample.SameDigest(d, want) || err != wantErr {
		t.Errorf("%s: Digest(%v) = %v, %d, want %v, %d", low.name, a, d, err, want, wantErr)
	}
	bytes, err := e.Pack(a)
	if want, wantErr := low.pack(a); !slices.Equal(bytes, want) || err != wantErr {
		t.Errorf("%s: Pack(%v) = %v, %d, want %v, %d", low.name, a, bytes, err, want, wantErr)
	}
}

func checkMethods[S any, E engine.Engine[S]](t *testing.T, low layer[S], states []S) {
	t.Helper()
	var e E
	var none S
	if got := e.Empty(); !low.same(got, none) || e.Check(got) != api.OK {
		t.Errorf("%s: Empty() = %v", low.name, got)
	}
	dice := newDice()
	for i, a := range states {
		for range 4 {
			checkTwo[S, E](t, low, a, states[dice.IntN(len(states))])
		}
		d := manyDigests()[i%len(manyDigests())]
		got, err := e.Lack(a, d)
		if want, wantErr := low.lack(a, d); !low.same(got, want) || err != wantErr {
			t.Errorf("%s: Lack(%v, %v) = %v, %d, want %v, %d", low.name, a, d, got, err, want, wantErr)
		}
	}
	for _, f := range manyEvents() {
		got, err := e.Event(f)
		if want, wantErr := low.event(f); !low.same(got, want) || err != wantErr {
			t.Errorf("%s: Event(%v) = %v, %d, want %v, %d", low.name, f, got, err, want, wantErr)
		}
	}
}

// checkUnpack: bytes of both kinds of states, and what is nearly one.
func checkUnpack[S any, E engine.Engine[S]](t *testing.T, low layer[S]) {
	t.Helper()
	var e E
	taken := 0
	for _, b := range manyBytes() {
		got, err := e.Unpack(b)
		if want, wantErr := low.unpack(b); !low.same(got, want) || err != wantErr {
			t.Errorf("%s: Unpack(%v) = %v, %d, want %v, %d", low.name, b, got, err, want, wantErr)
		}
		if err == api.OK {
			taken++
		}
	}
	if taken < 50 || taken > len(manyBytes())*2/3 {
		t.Errorf("%s: of %d bytes %d are taken", low.name, len(manyBytes()), taken)
	}
}

func manyBytes() [][]byte {
	dice := newDice()
	all := [][]byte{nil, {}, {1}, {2}, {3}}
	add := func(b []byte, _ api.Errno) {
		at := dice.IntN(len(b))
		all = append(all, b, b[:at], append(slices.Clone(b), 0), slices.Replace(slices.Clone(b), at, at+1, byte(dice.IntN(4))))
	}
	for i := range 60 {
		add(codec.PutFacts(sample.Facts(dice.IntN, 60)[i]))
		add(codec.PutSwot(sample.Swots(dice.IntN, 60)[i]))
	}
	return all
}

func TestMethodsOfTomb(t *testing.T) { // P15.1
	checkMethods[api.Facts, engine.Tomb](t, tombLayer(), append(sample.Facts(newDice().IntN, 300), sample.WrongFacts()...))
	checkUnpack[api.Facts, engine.Tomb](t, tombLayer())
}

func TestMethodsOfSwot(t *testing.T) { // P15.1
	checkMethods[api.Swot, engine.Swot](t, swotLayer(), append(sample.Swots(newDice().IntN, 300), sample.WrongSwots()...))
	checkUnpack[api.Swot, engine.Swot](t, swotLayer())
}

func TestEventsExamples(t *testing.T) { // P15.1
	f := added(en(0, 1, "A", 5))
	if got, err := (engine.Tomb{}).Event(f); !sample.SameFacts(got, f) || err != api.OK {
		t.Errorf("Tomb: Event(%v) = %v, %d", f, got, err)
	}
	want := api.Swot{Live: es(en(0, 1, "A", 5)), Past: pa([]int{1})}
	if got, err := (engine.Swot{}).Event(f); !sample.SameSwot(got, want) || err != api.OK {
		t.Errorf("Swot: Event(%v) = %v, %d", f, got, err)
	}
	for _, c := range []struct {
		f   api.Facts
		err api.Errno
	}{
		{api.Facts{Adds: es(en(0, 1, "A", 5), en(0, 2, "B", 1))}, api.ErrArg}, {api.Facts{Adds: es(en(0, 1, "A", 5)), Recs: rs(re("A", []int{1}))}, api.ErrArg}, {api.Facts{Adds: es(en(0, 4, "A", 1)), Gone: pa(nil, sp(0, 5, 5))}, api.ErrArg},
		{api.Facts{Adds: es(en(0, 1, "A", 0))}, api.ErrForm}, {gone(0), api.ErrForm}, {api.Facts{Recs: rs(re("A", nil))}, api.ErrForm}, {api.Facts{}, api.OK},
	} {
		if got, err := (engine.Tomb{}).Event(c.f); !sample.SameFacts(got, api.Facts{}) || err != c.err {
			t.Errorf("Tomb: Event(%v) = %v, %d, want %d", c.f, got, err, c.err)
		}
		if got, err := (engine.Swot{}).Event(c.f); !sample.SameSwot(got, api.Swot{}) || err != c.err {
			t.Errorf("Swot: Event(%v) = %v, %d, want %d", c.f, got, err, c.err)
		}
	}
}

// checkLaws: joining is commutative, associative and idempotent.
func checkLaws[S any, E engine.Engine[S]](t *testing.T, w world[S]) {
	t.Helper()
	var e E
	join := func(a, b S) S {
		both, err := e.Join(a, b)
		if err != api.OK {
			t.Errorf("%s: Join(%v, %v) = %v, %d", w.name, a, b, both, err)
		}
		return both
	}
	dice := newDice()
	all := append(w.alike(dice.IntN, 60), e.Empty())
	for range 1000 {
		a, b, c := all[dice.IntN(len(all))], all[dice.IntN(len(all))], all[dice.IntN(len(all))]
		if !w.same(join(a, b), join(b, a)) || !w.same(join(join(a, b), c), join(a, join(b, c))) || !w.same(join(a, a), a) || !w.same(join(a, e.Empty()), a) {
			t.Errorf("%s: a law of joining doesn't hold of %v, %v, %v", w.name, a, b, c)
		}
	}
}

func TestLawsOfJoining(t *testing.T) { // P12
	checkLaws[api.Facts, engine.Tomb](t, tombs())
	checkLaws[api.Swot, engine.Swot](t, swots())
}

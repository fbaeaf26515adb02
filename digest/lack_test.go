package digest_test

import (
	"testing"

	"barrow/api"
	"barrow/digest"
	"barrow/sample"
	"barrow/swot"
	"barrow/tomb"
)

func TestLackFacts(t *testing.T) { // P14.1
	adds, gone := 0, 0
	all := digests(60)
	for _, f := range mixed(80) {
		for _, d := range all {
			got := lackFacts(t, f, d)
			if !isLackOfFacts(got, f, d) || tomb.Check(got) != api.OK {
				t.Errorf("LackFacts(%v, %v) = %v", f, d, got)
			}
			if n := len(got.Adds); 0 < n && n < len(sample.State(f).Live) {
				adds++
			}
			if n := len(got.Gone.Vec) + len(got.Gone.Cloud); n > 0 {
				gone++
			}
		}
	}
	if adds < 300 || gone < 1000 {
		t.Errorf("only %d lack some of what is live, %d something that is gone", adds, gone)
	}
}

func TestLackSwot(t *testing.T) { // P14.1
	all := digests(60)
	for _, s := range mixedStates(80) {
		for _, d := range all {
			got := lackSwot(t, s, d)
			if !isLackOfSwot(got, s, d) || swot.Check(got) != api.OK {
				t.Errorf("LackSwot(%v, %v) = %v", s, d, got)
			}
		}
	}
}

func TestLackOutOfForm(t *testing.T) { // P14.1
	facts := func(f api.Facts, d api.Digest) {
		t.Helper()
		if got, err := digest.LackFacts(f, d); !sameFacts(got, api.Facts{}) || err != api.ErrForm {
			t.Errorf("LackFacts(%v, %v) = %v, %d", f, d, got, err)
		}
	}
	states := func(s api.Swot, d api.Digest) {
		t.Helper()
		if got, err := digest.LackSwot(s, d); !sameSwot(got, api.Swot{}) || err != api.ErrForm {
			t.Errorf("LackSwot(%v, %v) = %v, %d", s, d, got, err)
		}
	}
	for _, d := range sample.WrongDigests() {
		facts(api.Facts{}, d)
		facts(f(), d)
		facts(sample.WrongFacts()[0], d)
		states(api.Swot{}, d)
		states(s(), d)
		states(sample.WrongSwots()[0], d)
	}
	for _, d := range []api.Digest{{}, ofFacts(t, f())} {
		for _, wrong := range sample.WrongFacts() {
			facts(wrong, d)
		}
		for _, wrong := range sample.WrongSwots() {
			states(wrong, d)
		}
	}
}

func TestLackFactsExamples(t *testing.T) { // P14.1
	six := es(en(0, 2, "A", 6))
	recs := rs(re("", []int{0, 0, 1}), re("A", []int{2}))
	both := api.Facts{Adds: f().Adds, Gone: f().Gone, Recs: recs}
	for _, c := range []struct {
		f    api.Facts
		d    api.Digest
		want api.Facts
	}{
		{f(), api.Digest{}, api.Facts{Adds: six, Gone: pa([]int{1, 1})}}, {f(), di(pa([]int{1}), pa([]int{1})), api.Facts{Adds: six, Gone: pa([]int{1, 1})}}, {f(), di(pa([]int{1}), pa(nil)), api.Facts{Adds: six, Gone: pa([]int{0, 1})}}, {f(), di(pa([]int{2, 1}), pa(nil, sp(0, 2, 2))), api.Facts{}}, {f(), di(pa([]int{3, 1}), pa([]int{2})), api.Facts{Gone: pa([]int{1})}},
		// What the other heard of and has no longer isn't sent, live or not.
		{f(), di(pa([]int{2, 1}), pa(nil)), api.Facts{}}, {f(), di(pa([]int{2}), pa(nil)), api.Facts{Gone: pa([]int{0, 1})}},
		// A record that ended its waiting isn't sent, and what it covers is gone; one that waits is always sent.
		{both, api.Digest{}, api.Facts{Gone: pa([]int{2, 1}), Recs: recs[:1]}}, {both, di(pa([]int{2, 1}), pa(nil, sp(0, 2, 2))), api.Facts{Gone: pa(nil, sp(0, 2, 2)), Recs: recs[:1]}}, {both, di(pa([]int{2, 1, 1}), pa(nil)), api.Facts{Recs: recs[:1]}},
		{api.Facts{}, di(pa([]int{5}), pa([]int{5})), api.Facts{}}, {api.Facts{}, api.Digest{}, api.Facts{}},
	} {
		if got := lackFacts(t, c.f, c.d); !sameFacts(got, c.want) {
			t.Errorf("LackFacts(%v, %v) = %v, want %v", c.f, c.d, got, c.want)
		}
	}
}

func TestLackSwotExamples(t *testing.T) { // P14.1
	six, waits := s().Live, s().Defer
	for _, c := range []struct {
		s    api.Swot
		d    api.Digest
		want api.Swot
	}{
		{s(), api.Digest{}, s()}, {s(), di(pa([]int{2}), pa([]int{2})), api.Swot{Past: pa([]int{1, 1}), Defer: waits}},
		{s(), di(pa([]int{1}), pa(nil)), api.Swot{Live: six, Past: pa([]int{0, 1}, sp(0, 2, 2)), Defer: waits}}, {s(), di(pa([]int{2, 1}), pa(nil)), api.Swot{Defer: waits}}, {s(), di(pa([]int{2, 1}), pa([]int{2, 1})), api.Swot{Past: pa([]int{1, 1}), Defer: waits}}, {s(), di(pa([]int{9, 9}), pa(nil, sp(0, 2, 2))), api.Swot{Defer: waits}},
		{api.Swot{}, di(pa([]int{5}), pa([]int{5})), api.Swot{}}, {api.Swot{}, api.Digest{}, api.Swot{}},
	} {
		if got := lackSwot(t, c.s, c.d); !sameSwot(got, c.want) {
			t.Errorf("LackSwot(%v, %v) = %v, want %v", c.s, c.d, got, c.want)
		}
	}
}

func TestWhatIsLackingOfBothMeansTheSame(t *testing.T) { // P14.2
	all := digests(60)
	for _, f := range mixed(100) {
		state := sample.State(f)
		for _, d := range all {
			one, two := sample.State(lackFacts(t, f, d)), lackSwot(t, state, d)
			if !sameSwot(one, two) {
				t.Errorf("of %v for %v: the state of what is lacking is %v, what is lacking of the state %v", f, d, one, two)
			}
		}
	}
}

// checkStates: does o with what it lacks of s come to o with s?
func checkStates(t *testing.T, o, s api.Swot) {
	t.Helper()
	lack := lackSwot(t, s, ofSwot(t, o))
	one, err1 := swot.Join(o, lack)
	two, err2 := swot.Join(o, s)
	if !sameSwot(one, two) || err1 != api.OK || err2 != api.OK {
		t.Errorf("%v lacks %v of %v: with it %v, %d, with all %v, %d", o, lack, s, one, err1, two, err2)
	}
}

func TestAStateWithWhatItLacks(t *testing.T) { // P14.3
	held := 0
	for _, all := range [][]api.Swot{mixedStates(30), sample.AlikeSwots(newDice().IntN, 60)} {
		for _, o := range all {
			for _, s := range all {
				if !clash(o.Live, s.Live) {
					checkStates(t, o, s)
					held++
				}
			}
		}
	}
	if held < 6000 {
		t.Errorf("only %d pairs don't clash", held)
	}
}

func TestFactsWithWhatTheyLack(t *testing.T) { // P14.3
	held := 0
	for _, all := range [][]api.Facts{mixed(40), sample.AlikeFacts(newDice().IntN, 60)} {
		for _, o := range all {
			d := ofFacts(t, o)
			for _, f := range all {
				if clash(o.Adds, f.Adds) {
					continue
				}
				held++
				lack := lackFacts(t, f, d)
				one, err1 := tomb.Join(o, lack)
				two, err2 := tomb.Join(o, f)
				if !sameSwot(sample.State(one), sample.State(two)) || err1 != api.OK || err2 != api.OK {
					t.Errorf("%v lacks %v of %v: with it %v, %d, with all %v, %d", o, lack, f, one, err1, two, err2)
				}
			}
		}
	}
	if held < 6000 {
		t.Errorf("only %d pairs don't clash", held)
	}
}

func TestWhatLacksNothing(t *testing.T) { // P14.4
	waits := 0
	for _, s := range mixedStates(500) {
		want := api.Swot{Defer: s.Defer}
		if got := lackSwot(t, s, ofSwot(t, s)); !sameSwot(got, want) {
			t.Errorf("LackSwot(%v) for itself = %v", s, got)
		}
		waits += min(1, len(s.Defer))
	}
	for _, f := range mixed(500) {
		want := api.Facts{Recs: sample.State(f).Defer}
		if got := lackFacts(t, f, ofFacts(t, f)); !sameFacts(got, want) {
			t.Errorf("LackFacts(%v) for itself = %v", f, got)
		}
	}
	if waits < 100 {
		t.Errorf("only in %d states something waits", waits)
	}
}

func TestTheLackOfVeryMany(t *testing.T) { // P14.1
	const count = 60000
	var s api.Swot
	var d api.Digest
	for i := range count {
		// Two dots of each six were heard of, and the first is live; the other has heard of one or the other, or of none.
		first, second := 6*i+2, 6*i+3
		s.Live = append(s.Live, en(3, first, "A", 1))
		s.Past.Cloud = append(s.Past.Cloud, sp(3, first, second))
		switch i % 3 {
		case 0:
			d.Heard.Cloud = append(d.Heard.Cloud, sp(3, first, first))
			d.Live.Cloud = append(d.Live.Cloud, sp(3, first, first))
		case 1:
			d.Heard.Cloud = append(d.Heard.Cloud, sp(3, second, second))
		}
	}
	got := lackSwot(t, s, d)
	facts := lackFacts(t, api.Facts{Adds: s.Live, Gone: goneOf(s)}, d)
	for i := range count / 3 {
		behind := 18 * i
		news := es(en(3, behind+8, "A", 1), en(3, behind+14, "A", 1))
		spans := []api.Span{sp(3, behind+3, behind+3), sp(3, behind+8, behind+8), sp(3, behind+14, behind+15)}
		if got.Live[2*i] != news[0] || got.Live[2*i+1] != news[1] || got.Past.Cloud[3*i] != spans[0] || got.Past.Cloud[3*i+1] != spans[1] || got.Past.Cloud[3*i+2] != spans[2] {
			t.Fatalf("%v, %v of the six dots behind %d", got.Live[2*i:2*i+2], got.Past.Cloud[3*i:3*i+3], behind)
		}
	}
	if len(got.Live) != count*2/3 || len(got.Past.Cloud) != count || !sameSwot(sample.State(facts), got) {
		t.Errorf("%d are lacking, %d spans", len(got.Live), len(got.Past.Cloud))
	}
}

// goneOf: what the state of TestTheLackOfVeryMany has heard of and isn't live.
func goneOf(s api.Swot) api.Past {
	var gone api.Past
	for _, span := range s.Past.Cloud {
		gone.Cloud = append(gone.Cloud, sp(span.Rep, span.Hi, span.Hi))
	}
	return gone
}

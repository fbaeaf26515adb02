package digest_test

import (
	"math/rand/v2"
	"slices"
	"testing"

	"barrow/api"
	"barrow/digest"
	"barrow/pack"
	"barrow/past"
	"barrow/sample"
	"barrow/wire"
)

var (
	en = sample.Entry
	pa = sample.Past
	re = sample.Record
	sp = sample.Span
)

func es(list ...api.Entry) []api.Entry { return list }

func rs(list ...api.Record) []api.Record { return list }

// f and s are those of the chapter's examples.
func f() api.Facts {
	return api.Facts{Adds: es(en(0, 1, "A", 5), en(0, 2, "A", 6)), Gone: pa([]int{1, 1})}
}

func s() api.Swot {
	return api.Swot{Live: es(en(0, 2, "A", 6)), Past: pa([]int{2, 1}), Defer: rs(re("B", []int{0, 2}))}
}

func di(heard, live api.Past) api.Digest { return api.Digest{Heard: heard, Live: live} }

func same(a, b api.Digest) bool { return sample.SameDigest(a, b) }

func sameFacts(a, b api.Facts) bool { return sample.SameFacts(a, b) }

func sameSwot(a, b api.Swot) bool { return sample.SameSwot(a, b) }

// inForm is the chapter's definition; what is within what is asked dot by dot.
func inForm(d api.Digest) bool {
	return past.IsNorm(d.Heard) && past.IsNorm(d.Live) && !slices.ContainsFunc(sample.Dots(), func(x api.Dot) bool {
		return sample.Has(d.Live, x) && !sample.Has(d.Heard, x)
	})
}

func hasDot(list []api.Entry, d api.Dot) bool {
	return slices.ContainsFunc(list, func(e api.Entry) bool { return e.Dot == d })
}

// holdsJust: is p canonical, and does it have just those of the dots that are wanted?
func holdsJust(p api.Past, want func(d api.Dot) bool) bool {
	return past.IsNorm(p) && !slices.ContainsFunc(sample.Dots(), func(d api.Dot) bool { return sample.Has(p, d) != want(d) })
}

// isDigestOf: does d tell of the state s, as the chapter says?
func isDigestOf(d api.Digest, s api.Swot) bool {
	return sample.SamePast(d.Heard, s.Past) && holdsJust(d.Live, func(x api.Dot) bool { return hasDot(s.Live, x) })
}

// isLacked: of a dot that was heard of and isn't live, does one with the digest lack that it is gone?
func isLacked(d api.Digest, x api.Dot) bool { return !sample.Has(d.Heard, x) || sample.Has(d.Live, x) }

// isLackOfFacts is the chapter's definition of LackFacts, word by word.
func isLackOfFacts(got, f api.Facts, d api.Digest) bool {
	state := sample.State(f)
	adds := sample.Those(state.Live, func(e api.Entry) bool { return !sample.Has(d.Heard, e.Dot) })
	gone := func(x api.Dot) bool {
		return sample.Has(state.Past, x) && !hasDot(state.Live, x) && isLacked(d, x)
	}
	return slices.Equal(got.Adds, adds) && holdsJust(got.Gone, gone) && sample.SameRecords(got.Recs, state.Defer)
}

// isLackOfSwot is the chapter's definition of LackSwot, word by word.
func isLackOfSwot(got, s api.Swot, d api.Digest) bool {
	live := sample.Those(s.Live, func(e api.Entry) bool { return !sample.Has(d.Heard, e.Dot) })
	heard := func(x api.Dot) bool {
		return hasDot(live, x) || sample.Has(s.Past, x) && !hasDot(s.Live, x) && isLacked(d, x)
	}
	return slices.Equal(got.Live, live) && holdsJust(got.Past, heard) && sample.SameRecords(got.Defer, s.Defer)
}

// encoding is the chapter's definition of Put.
func encoding(d api.Digest) []byte {
	heard, _ := pack.PutPast(d.Heard)
	live, _ := pack.PutPast(d.Live)
	return wire.Join([][]byte{heard, live})
}

// wanted: what Get answers of b, by the chapter: two frames and no more, each what layer 9 reads, and both in form together.
func wanted(b []byte) (api.Digest, api.Errno) {
	frames, err := wire.Split(b)
	if err != api.OK || len(frames) != 2 {
		return api.Digest{}, api.ErrBad
	}
	heard, err1 := pack.GetPast(frames[0])
	live, err2 := pack.GetPast(frames[1])
	if err1 != api.OK || err2 != api.OK || !past.Within(live, heard) {
		return api.Digest{}, api.ErrBad
	}
	return di(heard, live), api.OK
}

// digests: in form, edges and thrown ones.
func digests(count int) []api.Digest { return sample.Digests(newDice().IntN, count) }

// wideDigests: digests whose pasts are so many bytes that the frame's number has one, two, three.
func wideDigests() []api.Digest {
	var all []api.Digest
	for _, count := range []int{3, 40, 41, 42, 43, 44, 400, 6000} {
		var heard, live api.Past
		for i := range count {
			heard.Cloud = append(heard.Cloud, sp(5, 4*i+2, 4*i+3))
			live.Cloud = append(live.Cloud, sp(5, 4*i+3, 4*i+3))
		}
		all = append(all, di(heard, live), di(heard, pa(nil)), di(heard, heard))
	}
	return all
}

// nearBytes: encodings, and what is nearly one: a byte changed, left out or put in, anywhere or in a frame whose number tells it, and the pasts of two digests together, the pasts changed about.
func nearBytes() [][]byte {
	dice := newDice()
	change := func(b []byte) []byte {
		at, c := dice.IntN(len(b)), []byte{0, 1, 2, 3, 16, 127, 128, 129, 255}[dice.IntN(9)]
		switch dice.IntN(3) {
		case 0:
			return slices.Replace(slices.Clone(b), at, at+1, c)
		case 1:
			return slices.Delete(slices.Clone(b), at, at+1)
		}
		return slices.Insert(slices.Clone(b), at, c)
	}
	all, right := [][]byte{}, digests(200)
	for _, d := range right {
		b := encoding(d)
		all = append(all, b, encoding(di(d.Live, d.Heard)))
		for range 25 {
			heard, _ := pack.PutPast(d.Heard)
			live, _ := pack.PutPast(d.Live)
			all = append(all, change(b), wire.Join([][]byte{change(heard), live}), wire.Join([][]byte{heard, change(live)}), encoding(di(d.Heard, right[dice.IntN(len(right))].Live)))
		}
	}
	return all
}

// shortBytes: all bytes up to this length that are made of few.
func shortBytes(length int) [][]byte {
	all := [][]byte{nil}
	from := 0
	for range length {
		till := len(all)
		for _, b := range all[from:till] {
			for _, c := range []byte{0, 1, 2, 3, 128} {
				all = append(all, append(slices.Clone(b), c))
			}
		}
		from = till
	}
	return all
}

// mixed: facts in form; some of them clash.
func mixed(count int) []api.Facts { return append(sample.Facts(newDice().IntN, count), f()) }

// mixedStates: compact states in form; some of them clash.
func mixedStates(count int) []api.Swot { return append(sample.Swots(newDice().IntN, count), s()) }

// clash: is one dot in both lists with unlike contents?
func clash(a, b []api.Entry) bool {
	return slices.ContainsFunc(a, func(x api.Entry) bool {
		return slices.ContainsFunc(b, func(y api.Entry) bool { return x.Dot == y.Dot && (x.Sku != y.Sku || x.Qty != y.Qty) })
	})
}

// ofFacts, ofSwot: the digest, which must be there.
func ofFacts(t *testing.T, f api.Facts) api.Digest {
	t.Helper()
	d, err := digest.OfFacts(f)
	if err != api.OK {
		t.Errorf("OfFacts(%v) = %v, %d", f, d, err)
	}
	return d
}

func ofSwot(t *testing.T, s api.Swot) api.Digest {
	t.Helper()
	d, err := digest.OfSwot(s)
	if err != api.OK {
		t.Errorf("OfSwot(%v) = %v, %d", s, d, err)
	}
	return d
}

// lackFacts, lackSwot: what is lacking, which must be there.
func lackFacts(t *testing.T, f api.Facts, d api.Digest) api.Facts {
	t.Helper()
	got, err := digest.LackFacts(f, d)
	if err != api.OK {
		t.Errorf("LackFacts(%v, %v) = %v, %d", f, d, got, err)
	}
	return got
}

func lackSwot(t *testing.T, s api.Swot, d api.Digest) api.Swot {
	t.Helper()
	got, err := digest.LackSwot(s, d)
	if err != api.OK {
		t.Errorf("LackSwot(%v, %v) = %v, %d", s, d, got, err)
	}
	return got
}

func newDice() *rand.Rand { return rand.New(rand.NewPCG(23, 24)) }

package digest_test

import (
	"slices"
	"testing"

	"barrow/api"
	"barrow/digest"
	"barrow/sample"
)

func TestCheck(t *testing.T) { // P14.1
	for _, d := range slices.Concat(digests(500), wideDigests()) {
		if got := digest.Check(d); got != api.OK {
			t.Errorf("Check(%v) = %d", d, got)
		}
	}
	for _, d := range sample.WrongDigests() {
		if got := digest.Check(d); got != api.ErrForm {
			t.Errorf("Check(%v) = %d", d, got)
		}
	}
}

func TestCheckOfAnyTwoPasts(t *testing.T) { // P14.1
	right := 0
	all := append(sample.Pasts(newDice().IntN, 60), sample.WrongPasts()...)
	for _, heard := range all {
		for _, live := range all {
			want := api.ErrForm
			if inForm(di(heard, live)) {
				want = api.OK
				right++
			}
			if got := digest.Check(di(heard, live)); got != want {
				t.Errorf("Check(%v, %v) = %d, want %d", heard, live, got, want)
			}
		}
	}
	if right < 200 || right > len(all)*len(all)/2 {
		t.Errorf("of %d digests %d are in form", len(all)*len(all), right)
	}
}

func TestChecksExamples(t *testing.T) { // P14.1
	for _, c := range []struct {
		d    api.Digest
		want api.Errno
	}{
		{api.Digest{}, api.OK}, {di(pa([]int{1}), pa([]int{2})), api.ErrForm}, {di(pa([]int{2}), pa([]int{1})), api.OK}, {di(pa([]int{2}), pa([]int{2})), api.OK}, {di(pa([]int{2, 1}), pa(nil, sp(0, 2, 2))), api.OK},
		{di(pa([]int{0}), pa(nil)), api.ErrForm}, {di(pa(nil), pa([]int{0})), api.ErrForm}, {di(pa([]int{2}), pa(nil, sp(0, 1, 1))), api.ErrForm}, {di(pa([]int{2}), pa([]int{1}, sp(0, 2, 2))), api.ErrForm}, {di(pa([]int{2}), pa(nil, sp(1, 2, 2))), api.ErrForm},
	} {
		if got := digest.Check(c.d); got != c.want {
			t.Errorf("Check(%v) = %d, want %d", c.d, got, c.want)
		}
	}
}

func TestOfFacts(t *testing.T) { // P14.1
	for _, f := range mixed(500) {
		got, err := digest.OfFacts(f)
		if !isDigestOf(got, sample.State(f)) || err != api.OK || digest.Check(got) != api.OK {
			t.Errorf("OfFacts(%v) = %v, %d", f, got, err)
		}
	}
	for _, f := range sample.WrongFacts() {
		if got, err := digest.OfFacts(f); !same(got, api.Digest{}) || err != api.ErrForm {
			t.Errorf("OfFacts(%v) = %v, %d", f, got, err)
		}
	}
	want := di(pa([]int{2, 1}), pa(nil, sp(0, 2, 2)))
	if got := ofFacts(t, f()); !same(got, want) {
		t.Errorf("OfFacts(%v) = %v, want %v", f(), got, want)
	}
	if got := ofFacts(t, api.Facts{}); !same(got, api.Digest{}) {
		t.Errorf("OfFacts of nothing = %v", got)
	}
}

func TestOfSwot(t *testing.T) { // P14.1
	for _, s := range mixedStates(500) {
		got, err := digest.OfSwot(s)
		if !isDigestOf(got, s) || err != api.OK || digest.Check(got) != api.OK {
			t.Errorf("OfSwot(%v) = %v, %d", s, got, err)
		}
	}
	for _, s := range sample.WrongSwots() {
		if got, err := digest.OfSwot(s); !same(got, api.Digest{}) || err != api.ErrForm {
			t.Errorf("OfSwot(%v) = %v, %d", s, got, err)
		}
	}
	want := di(pa([]int{2, 1}), pa(nil, sp(0, 2, 2)))
	if got := ofSwot(t, s()); !same(got, want) {
		t.Errorf("OfSwot(%v) = %v, want %v", s(), got, want)
	}
	if got := ofSwot(t, api.Swot{}); !same(got, api.Digest{}) {
		t.Errorf("OfSwot of nothing = %v", got)
	}
}

func TestTheDigestsOfBothAreTheSame(t *testing.T) { // P14.2
	for _, f := range mixed(1000) {
		if one, two := ofFacts(t, f), ofSwot(t, sample.State(f)); !same(one, two) {
			t.Errorf("OfFacts(%v) = %v, OfSwot of its state = %v", f, one, two)
		}
	}
}

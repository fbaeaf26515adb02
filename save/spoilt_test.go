package save_test

import (
	"slices"
	"testing"

	"barrow/api"
)

func (k kind[S, E]) checkOneByte(t *testing.T) {
	t.Helper()
	for _, d := range k.short() {
		b := right(k.put(d))
		for at := range b {
			for c := 1; c < 256; c++ {
				spoilt := slices.Clone(b)
				spoilt[at] ^= byte(c)
				k.refused(t, spoilt)
			}
		}
	}
	dice := newDice()
	for _, d := range k.durables() {
		b := right(k.put(d))
		for range 5 {
			spoilt := slices.Clone(b)
			spoilt[dice.IntN(len(b))] ^= byte(1 + dice.IntN(255))
			k.refused(t, spoilt)
		}
	}
}

func TestNoImageWithOneOtherByteIsTaken(t *testing.T) { // P21.3
	tombs().checkOneByte(t)
	swots().checkOneByte(t)
}

// sameArea: do both places lie in the body, or both in one sum?
func sameArea(length, x, y int) bool {
	area := func(at int) int { return max(0, at-(length-8)+4) / 4 }
	return area(x) == area(y)
}

func (k kind[S, E]) checkNeighbours(t *testing.T) {
	t.Helper()
	swapped := 0
	for _, d := range k.durables() {
		b := right(k.put(d))
		if len(b) > 5000 {
			continue
		}
		for at := range len(b) - 1 {
			if b[at] == b[at+1] || !sameArea(len(b), at, at+1) {
				continue
			}
			spoilt := slices.Clone(b)
			spoilt[at], spoilt[at+1] = b[at+1], b[at]
			k.refused(t, spoilt)
			swapped++
		}
	}
	if swapped < 1000 {
		t.Errorf("%s: %d neighbours changed places", k.name, swapped)
	}
}

func TestNoImageWithNeighboursChangedAboutIsTaken(t *testing.T) { // P21.3
	tombs().checkNeighbours(t)
	swots().checkNeighbours(t)
}

// Some bodies with two neighbours changed about are bodies too: their sums alone tell them apart.
func TestTheSecondSumIsNeeded(t *testing.T) { // P21.3
	one, two := sealed([]byte{3, 1, 2, 0}), sealed([]byte{3, 2, 1, 0})
	for _, b := range [][]byte{one, two} {
		if _, err := tombs().get(b); err != api.OK {
			t.Errorf("Get(%x): %d", b, err)
		}
	}
	if !slices.Equal(one[4:8], two[4:8]) {
		t.Error("the first sums are unlike")
	}
	tombs().refused(t, slices.Concat(one[:4], two[4:]))
	swots().refused(t, slices.Concat(two[:4], one[4:]))
}

func TestNoBytesAreTakenByBothEngines(t *testing.T) { // P21.3
	f, s := tombs(), swots()
	both := 0
	for _, b := range slices.Concat(allSealed(f.nearBodies()), allSealed(s.nearBodies())) {
		one, err := f.get(b)
		other, otherErr := s.get(b)
		if err != api.OK || otherErr != api.OK {
			continue
		}
		both++
		if len(one.Carts) > 0 || len(other.Carts) > 0 || one.Self != other.Self || one.Next != other.Next {
			t.Errorf("%x: %v and %v", b, one, other)
		}
	}
	if both < 100 {
		t.Errorf("%d images without a cart", both)
	}
	for _, d := range f.durables() {
		if _, err := s.get(f.image(d)); (err == api.OK) != (len(d.Carts) == 0) {
			t.Errorf("Get by Swot of the image of %v: %d", d, err)
		}
	}
	for _, d := range s.durables() {
		if _, err := f.get(s.image(d)); (err == api.OK) != (len(d.Carts) == 0) {
			t.Errorf("Get by Tomb of the image of %v: %d", d, err)
		}
	}
}

package save_test

import (
	"bytes"
	"slices"
	"testing"

	"barrow/api"
	"barrow/node"
)

func (k kind[S, E]) refused(t *testing.T, b []byte) {
	t.Helper()
	if got, err := k.get(b); !k.sameDurable(got, node.Durable[S]{}) || err != api.ErrBad {
		t.Errorf("%s: Get(%x) = %v, %d", k.name, b, got, err)
	}
}

// checkGet: how many of the bytes are taken?
func (k kind[S, E]) checkGet(t *testing.T, all [][]byte) int {
	t.Helper()
	taken := 0
	for _, b := range all {
		want, wantErr := k.wanted(b)
		got, err := k.get(b)
		if !k.sameDurable(got, want) || err != wantErr {
			t.Errorf("%s: Get(%x) = %v, %d, want %v, %d", k.name, b, got, err, want, wantErr)
		}
		if err == api.OK {
			taken++
		}
	}
	return taken
}

// wider: the number with one byte more than it needs.
func wider(number []byte) []byte {
	last := len(number) - 1
	return append(append(slices.Clone(number[:last]), number[last]+128), 0)
}

// nearBodies: bodies, and what is nearly one: a byte changed, left out or put in, a number in a longer form, two pieces changed about, a state of another Durable.
func (k kind[S, E]) nearBodies() [][]byte {
	dice := newDice()
	list := k.short()
	var all [][]byte
	for _, d := range list {
		whole := k.pieces(d)
		b := bytes.Join(whole, nil)
		all = append(all, b)
		for range 20 {
			at, c := dice.IntN(len(b)), []byte{0, 1, 2, 3, 4, 5, 15, 16, 63, 64, 65, 127, 128, 129, 255}[dice.IntN(15)]
			all = append(all, slices.Replace(slices.Clone(b), at, at+1, c), slices.Delete(slices.Clone(b), at, at+1), slices.Insert(slices.Clone(b), at, c))
		}
		other := k.pieces(list[dice.IntN(len(list))])
		for i, piece := range whole {
			changed, mixed, longer := slices.Clone(whole), slices.Clone(whole), slices.Clone(whole)
			j := dice.IntN(len(whole))
			changed[i], changed[j] = changed[j], changed[i]
			mixed[i] = other[i%len(other)]
			longer[i] = wider(piece)
			all = append(all, bytes.Join(changed, nil), bytes.Join(mixed, nil), bytes.Join(longer, nil))
		}
	}
	return all
}

// shortBodies: all bytes up to this length that are made of few.
func shortBodies(length int) [][]byte {
	all := [][]byte{nil}
	from := 0
	for range length {
		till := len(all)
		for _, b := range all[from:till] {
			for _, c := range []byte{0, 1, 2, 3, 4, 15, 16, 128} {
				all = append(all, append(slices.Clone(b), c))
			}
		}
		from = till
	}
	return all
}

func allSealed(bodies [][]byte) [][]byte {
	var all [][]byte
	for _, b := range bodies {
		all = append(all, sealed(b))
	}
	return all
}

func (k kind[S, E]) checkGets(t *testing.T) {
	t.Helper()
	// Of the short bodies those are one that are: 3, six numbers for Self, seven for Next or, of two bytes, 128 and then one of six, no carts.
	if taken := k.checkGet(t, allSealed(shortBodies(5))); taken != 6*(7+6) {
		t.Errorf("%s: Get takes %d of the short ones", k.name, taken)
	}
	near := allSealed(k.nearBodies())
	if taken := k.checkGet(t, near); taken < len(near)/20 || taken > len(near)/2 {
		t.Errorf("%s: Get takes %d of %d that are or nearly are images", k.name, taken, len(near))
	}
	if taken := k.checkGet(t, k.nearBodies()); taken != 0 {
		t.Errorf("%s: Get takes %d bodies without sums", k.name, taken)
	}
	if taken := k.checkGet(t, shortBodies(5)); taken != 0 {
		t.Errorf("%s: Get takes %d of fewer than eight bytes", k.name, taken)
	}
}

func TestGet(t *testing.T) { // P21.2
	tombs().checkGets(t)
	swots().checkGets(t)
}

func (k kind[S, E]) checkThereAndBack(t *testing.T) {
	t.Helper()
	values := map[string]node.Durable[S]{}
	for _, d := range k.durables() {
		b, _ := k.put(d)
		if got, err := k.get(b); !k.sameDurable(got, d) || err != api.OK {
			t.Errorf("%s: Get of Put of %v = %v, %d", k.name, d, got, err)
		}
		if other, found := values[string(b)]; found && !k.sameDurable(d, other) {
			t.Errorf("%s: Put of %v and of %v are both %x", k.name, d, other, b)
		}
		values[string(b)] = d
	}
	for _, b := range allSealed(k.nearBodies()) {
		d, err := k.get(b)
		if err != api.OK {
			continue
		}
		if back, err := k.put(d); !bytes.Equal(back, b) || err != api.OK {
			t.Errorf("%s: Get(%x) = %v, whose Put is %x, %d", k.name, b, d, back, err)
		}
	}
}

func TestThereAndBack(t *testing.T) { // P21.2, P7
	tombs().checkThereAndBack(t)
	swots().checkThereAndBack(t)
}

func (k kind[S, E]) checkEnds(t *testing.T) {
	t.Helper()
	for _, d := range k.short() {
		b, _ := k.put(d)
		body := b[:len(b)-8]
		for length := range len(b) {
			k.refused(t, b[:length])
		}
		for length := range len(body) {
			// The body ends too early, and its sums are right.
			k.refused(t, sealed(body[:length]))
		}
		for c := range 256 {
			k.refused(t, append(slices.Clone(b), byte(c)))
			k.refused(t, sealed(append(slices.Clone(body), byte(c))))
		}
		k.refused(t, slices.Concat(b, b))
		k.refused(t, sealed(slices.Concat(body, body)))
		k.refused(t, sealed(b))
	}
	for _, d := range k.durables() {
		b, _ := k.put(d)
		k.refused(t, b[:len(b)-1])
		k.refused(t, b[:len(b)-8])
		k.refused(t, b[:len(b)/2])
		k.refused(t, append(b, 0))
	}
}

func TestNothingShorterAndNothingLongerIsTaken(t *testing.T) { // P21.2, P7
	tombs().checkEnds(t)
	swots().checkEnds(t)
}

// checkNone: bodies whose sums are right and that say nothing in form; STATE stands for the bytes of the empty state, with their number ahead of them.
func (k kind[S, E]) checkNone(t *testing.T, state string) {
	t.Helper()
	const greatest = "ff ff ff ff ff ff ff ff 7f" // the wire's greatest number
	for _, digits := range []string{
		"", "00", "03", "03 01", "03 01 02", "00 01 02 00", "01 01 02 00", "02 01 02 00", "04 01 02 00", greatest + "01 02 00",
		// A number that isn't in its form, each in turn.
		"83 00 01 02 00", "03 81 00 02 00", "03 01 82 00 00", "03 01 02 80 00", "03 01 02 01 85 00" + state, "03 01 80 80 80 80 80 80 80 80 80 01 00",
		// A number out of its bounds, each in turn.
		"03 10 02 00", "03" + greatest + "02 00", "03 01 81 80 80 80 80 80 80 80 40 00", "03 01" + greatest + "00", "03 01 02 01 40" + state, "03 01 02 01" + greatest + state, "03 01 02" + greatest, "03 01 02" + greatest + "05" + state,
		// Other carts than it tells of: too few, too many, in a wrong order.
		"03 01 02 01", "03 01 02 02 05" + state, "03 01 02 00 05" + state, "03 01 02 01 05" + state + "06" + state, "03 01 02 02 05" + state + "05" + state, "03 01 02 02 05" + state + "04" + state, "03 01 02 03 01" + state + "04" + state + "03" + state,
		// A frame that ends too early, or too late, or is no state's bytes.
		"03 01 02 01 05", "03 01 02 01 05 01", "03 01 02 01 05 00", "03 01 02 01 05 01 00", "03 01 02 01 05" + greatest, "03 01 02 01 05 02 01 00", state,
	} {
		k.refused(t, sealed(unhex(t, digits)))
	}
	overfull := append(unhex(t, "03 01 02"), 65)
	for cart := range 65 {
		overfull = slices.Concat(overfull, []byte{byte(cart)}, unhex(t, state))
	}
	k.refused(t, sealed(overfull))
	full := append(slices.Clone(overfull[:3]), 64)
	full = append(full, overfull[4:len(overfull)-len(overfull[4:])/65]...)
	if d, err := k.get(sealed(full)); len(d.Carts) != 64 || err != api.OK {
		t.Errorf("%s: of 64 carts: %d, %d", k.name, len(d.Carts), err)
	}
	k.refused(t, make([]byte, 1<<20))
	k.refused(t, bytes.Repeat([]byte{0xff}, 1<<20))
	k.refused(t, sealed(append(unhex(t, "03 01 02"), append(num(1<<20), make([]byte, 1<<21)...)...)))
}

func TestBytesThatAreNone(t *testing.T) { // P21.2
	tombs().checkNone(t, "08 01 01 00 02 00 00 01 00")
	swots().checkNone(t, "08 02 01 00 02 00 00 01 00")
	// A state's parts that are each in form, and not together.
	swots().refused(t, sealed(unhex(t, "03 00 00 01 05 0d 02 06 01 00 00 01 41 04 02 00 00 01 00")))
	swots().refused(t, sealed(unhex(t, "03 00 00 01 05 0e 02 01 00 03 01 02 00 06 01 01 41 01 02 00")))
}

// checkWrongSums: a body that is right, and sums that aren't.
func (k kind[S, E]) checkWrongSums(t *testing.T) {
	t.Helper()
	for _, d := range k.short() {
		b := k.image(d)
		body := b[:len(b)-8]
		first, second := sums(body)
		for _, off := range []int{1, 2, 255, 256, 65536, 16777216, 1<<32 - 256, 1<<32 - 1} {
			other, another := four((first+off)%(1<<32)), four((second+off)%(1<<32))
			k.refused(t, slices.Concat(body, other, four(second)))
			k.refused(t, slices.Concat(body, four(first), another))
			k.refused(t, slices.Concat(body, other, another))
		}
		k.refused(t, slices.Concat(body, make([]byte, 8)))
		k.refused(t, slices.Concat(body, four(second), four(first)))
		low := func(n int) []byte { return []byte{byte(n), byte(n >> 8), byte(n >> 16), byte(n >> 24)} }
		k.refused(t, slices.Concat(body, low(first), low(second)))
		k.refused(t, slices.Concat(four(first), four(second), body))
	}
}

func TestWrongSums(t *testing.T) { // P21.2
	tombs().checkWrongSums(t)
	swots().checkWrongSums(t)
}

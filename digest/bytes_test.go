package digest_test

import (
	"bytes"
	"encoding/hex"
	"slices"
	"strings"
	"testing"

	"barrow/api"
	"barrow/digest"
	"barrow/sample"
)

func TestPut(t *testing.T) { // P14.1
	for _, d := range slices.Concat(digests(500), wideDigests()) {
		want := encoding(d)
		if got, err := digest.Put(d); !bytes.Equal(got, want) || err != api.OK {
			t.Errorf("Put(%v) = %x, %d, want %x", d, got, err, want)
		}
	}
	for _, d := range sample.WrongDigests() {
		if got, err := digest.Put(d); len(got) != 0 || err != api.ErrForm {
			t.Errorf("Put(%v) = %x, %d", d, got, err)
		}
	}
}

// checkGet: how many of the bytes are taken?
func checkGet(t *testing.T, all [][]byte) int {
	t.Helper()
	taken := 0
	for _, b := range all {
		want, wantErr := wanted(b)
		got, err := digest.Get(b)
		if !same(got, want) || err != wantErr {
			t.Errorf("Get(%x) = %v, %d, want %v, %d", b, got, err, want, wantErr)
		}
		if err == api.OK {
			taken++
		}
	}
	return taken
}

func TestGet(t *testing.T) { // P14.1
	// Six bytes are the least: nothing heard of. With a seventh there are the vectors of one place, 1 to 3, with nothing live.
	if taken := checkGet(t, shortBytes(7)); taken != 4 {
		t.Errorf("Get takes %d of the short ones", taken)
	}
	near := nearBytes()
	if taken := checkGet(t, near); taken < len(near)/20 || taken > len(near)/2 {
		t.Errorf("Get takes %d of %d that are or nearly are encodings", taken, len(near))
	}
}

func TestThereAndBack(t *testing.T) { // P14.5
	values := map[string]api.Digest{}
	for _, d := range slices.Concat(digests(500), wideDigests()) {
		b, _ := digest.Put(d)
		if got, err := digest.Get(b); !same(got, d) || err != api.OK {
			t.Errorf("Get of Put of %v = %v, %d", d, got, err)
		}
		if other, found := values[string(b)]; found && !same(d, other) {
			t.Errorf("Put of %v and of %v are both %x", d, other, b)
		}
		values[string(b)] = d
	}
	for _, b := range nearBytes() {
		d, err := digest.Get(b)
		if err != api.OK {
			continue
		}
		if back, err := digest.Put(d); !bytes.Equal(back, b) || err != api.OK {
			t.Errorf("Get(%x) = %v, whose Put is %x, %d", b, d, back, err)
		}
	}
}

func refused(t *testing.T, b []byte) {
	t.Helper()
	if got, err := digest.Get(b); !same(got, api.Digest{}) || err != api.ErrBad {
		t.Errorf("Get(%x) = %v, %d", b, got, err)
	}
}

func TestNothingShorterAndNothingLongerIsTaken(t *testing.T) { // P14.5
	for _, d := range slices.Concat(digests(200), wideDigests()[:6]) {
		b, _ := digest.Put(d)
		for length := range len(b) {
			refused(t, b[:length])
		}
		for c := range 256 {
			refused(t, append(slices.Clone(b), byte(c)))
		}
		refused(t, slices.Concat(b, b))
		refused(t, slices.Concat(b, []byte{2, 0, 0}))
	}
}

func unhex(t *testing.T, digits string) []byte {
	t.Helper()
	b, err := hex.DecodeString(strings.ReplaceAll(digits, " ", ""))
	if err != nil {
		t.Fatal(err)
	}
	return b
}

func TestBytesExamples(t *testing.T) { // P14.1, P14.5
	for digits, d := range map[string]api.Digest{
		"02 00 00 02 00 00":                         {},
		"04 02 02 01 00 05 00 01 00 00 00":          ofFacts(t, f()),
		"03 01 01 00 02 00 00":                      di(pa([]int{1}), pa(nil)),
		"03 01 01 00 03 01 01 00":                   di(pa([]int{1}), pa([]int{1})),
		"07 01 80 94 eb dc 03 00 02 00 00":          di(pa([]int{api.MaxNum}), pa(nil)),
		"03 01 02 00 03 01 01 00":                   di(pa([]int{2}), pa([]int{1})),
		"07 01 80 94 eb dc 03 00 05 00 01 00 00 00": di(pa([]int{api.MaxNum}), pa(nil, sp(0, 2, 2))),
	} {
		b := unhex(t, digits)
		if got, err := digest.Put(d); !bytes.Equal(got, b) || err != api.OK {
			t.Errorf("Put(%v) = % x, %d, want %s", d, got, err, digits)
		}
		if got, err := digest.Get(b); !same(got, d) || err != api.OK {
			t.Errorf("Get(%s) = %v, %d, want %v", digits, got, err, d)
		}
	}
}

func TestBytesThatAreNone(t *testing.T) { // P14.1, P14.5
	const greatest = "ff ff ff ff ff ff ff ff 7f" // the wire's greatest number
	for _, digits := range []string{
		"", "00", "02", "02 00", "02 00 00", "02 00 00 02", "02 00 00 02 00", "02 00 00 02 00 00 00", "02 00 00 02 00 00 02 00 00", "00 00", "00 02 00 00", "02 00 00 00", "02 00 00 00 02 00 00", "00 02 00 00 02 00 00",
		// A number that isn't in its form, or that is more than there is.
		"82 00 00 00 02 00 00", "02 00 00 82 00 00 00", "03 80 00 00 02 00 00", greatest, greatest + "00 00 02 00 00", "02 00 00" + greatest + "00 00", "ff ff ff ff ff ff ff ff ff 01", "03 00 00 02 00 00", "01 00 00 02 00 00", "02 00 00 01 00 00", "02 00 00 03 00 00",
		// Pasts that aren't in form.
		"03 01 00 00 02 00 00", "04 02 01 00 00 02 00 00", "02 00 00 03 01 00 00", "07 01 81 94 eb dc 03 00 02 00 00", "03 00 00 00 02 00 00",
		// What is live wasn't heard of: the two changed about, and more.
		"02 00 00 03 01 01 00", "03 01 01 00 03 01 02 00", "05 00 01 00 00 00 04 02 02 01 00", "03 01 01 00 05 00 01 00 00 00", "05 00 01 00 00 00 03 01 01 00",
	} {
		refused(t, unhex(t, digits))
	}
	// Very many frames are no more taken than three.
	refused(t, make([]byte, 1<<22))
	refused(t, bytes.Repeat([]byte{2, 0, 0}, 1<<20))
}

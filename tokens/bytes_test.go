package tokens_test

import (
	"bytes"
	"encoding/hex"
	"slices"
	"strings"
	"testing"

	"barrow/api"
	"barrow/tokens"
)

func TestCheck(t *testing.T) { // P23.1, P23.2
	for _, x := range right(500) {
		if err := tokens.Check(x); err != api.OK {
			t.Errorf("Check(%v) = %d", x, err)
		}
	}
	for _, x := range wrong() {
		if err := tokens.Check(x); err != api.ErrForm {
			t.Errorf("Check(%v) = %d", x, err)
		}
	}
	for cart := -70; cart <= 140; cart++ {
		want := api.OK
		if cart < 0 || cart > 63 {
			want = api.ErrForm
		}
		if err := tokens.Check(tk(cart, []int{1})); err != want {
			t.Errorf("Check of cart %d = %d", cart, err)
		}
	}
}

func TestPut(t *testing.T) { // P23.2
	for _, x := range right(500) {
		if got, err := tokens.Put(x); !bytes.Equal(got, encoding(x)) || err != api.OK {
			t.Errorf("Put(%v) = %x, %d, want %x", x, got, err, encoding(x))
		}
	}
	for _, x := range wrong() {
		if got, err := tokens.Put(x); len(got) != 0 || err != api.ErrForm {
			t.Errorf("Put(%v) = %x, %d", x, got, err)
		}
	}
}

// shortBytes: all bytes up to this length that are made of few.
func shortBytes(length int) [][]byte {
	all := [][]byte{nil}
	from := 0
	for range length {
		till := len(all)
		for _, b := range all[from:till] {
			for _, c := range []byte{0, 1, 2, 3, 16, 63, 64, 128} {
				all = append(all, append(slices.Clone(b), c))
			}
		}
		from = till
	}
	return all
}

// nearBytes: encodings, and what is nearly one: a byte changed, left out or put in, the cart in a longer form, the pieces of two tokens.
func nearBytes() [][]byte {
	dice := newDice()
	list := right(200)
	var all [][]byte
	for _, x := range list {
		b, other := pieces(x), pieces(list[dice.IntN(len(list))])
		whole := slices.Concat(b...)
		all = append(all, whole, slices.Concat(b[0], other[1]), slices.Concat(b[1], b[0]), slices.Concat(b[0], b[0], b[1]), slices.Concat([]byte{b[0][0] + 128, 0}, b[1]), slices.Concat([]byte{b[0][0] + 64}, b[1]))
		for range 20 {
			at, c := dice.IntN(len(whole)), []byte{0, 1, 2, 3, 15, 16, 17, 63, 64, 65, 127, 128, 129, 255}[dice.IntN(14)]
			all = append(all, slices.Replace(slices.Clone(whole), at, at+1, c), slices.Delete(slices.Clone(whole), at, at+1), slices.Insert(slices.Clone(whole), at, c))
		}
	}
	return all
}

// checkGet: how many of the bytes are taken?
func checkGet(t *testing.T, all [][]byte) int {
	t.Helper()
	taken := 0
	for _, b := range all {
		want, wantErr := scanned(b)
		got, err := tokens.Get(b)
		if !same(got, want) || err != wantErr {
			t.Errorf("Get(%x) = %v, %d, want %v, %d", b, got, err, want, wantErr)
		}
		if err != api.OK {
			continue
		}
		taken++
		if back, err := tokens.Put(got); !bytes.Equal(back, b) || err != api.OK {
			t.Errorf("Get(%x) = %v, whose Put is %x, %d", b, got, back, err)
		}
	}
	return taken
}

func TestGet(t *testing.T) { // P23.2, P7
	// Of up to four bytes, those are taken that are: one of six carts, no place and no span; or one place of one of six numbers, and no span.
	if taken := checkGet(t, shortBytes(4)); taken != 6*(1+6) {
		t.Errorf("Get takes %d of the short ones", taken)
	}
	near := nearBytes()
	if taken := checkGet(t, near); taken < len(near)/20 || taken > len(near)/2 {
		t.Errorf("Get takes %d of %d that are or nearly are encodings", taken, len(near))
	}
}

func TestBytesThereAndBack(t *testing.T) { // P23.2, P7
	values := map[string]api.Token{}
	for _, x := range right(500) {
		b, _ := tokens.Put(x)
		if got, err := tokens.Get(b); !same(got, x) || err != api.OK {
			t.Errorf("Get of Put of %v = %v, %d", x, got, err)
		}
		if other, found := values[string(b)]; found && !same(x, other) {
			t.Errorf("Put of %v and of %v are both %x", x, other, b)
		}
		values[string(b)] = x
	}
}

func refused(t *testing.T, b []byte) {
	t.Helper()
	if got, err := tokens.Get(b); !same(got, api.Token{}) || err != api.ErrBad {
		t.Errorf("Get(%x) = %v, %d", b, got, err)
	}
}

func TestNoBytesShorterOrLongerAreTaken(t *testing.T) { // P23.4, P23.2, P7
	for _, x := range right(200) {
		b, _ := tokens.Put(x)
		for length := range len(b) {
			refused(t, b[:length])
		}
		for c := range 256 {
			refused(t, append(slices.Clone(b), byte(c)))
		}
		refused(t, slices.Concat(b, b))
	}
}

func unhex(t *testing.T, digits string) []byte {
	t.Helper()
	b, err := hex.DecodeString(strings.ReplaceAll(digits, " ", ""))
	if err != nil {
		t.Fatal(err)
	}
	return b
}

func TestBytesExamples(t *testing.T) { // P23.2
	for digits, x := range map[string]api.Token{
		"05 03 03 00 07 00":             tk(5, []int{3, 0, 7}),
		"00 00 00":                      {},
		"3f 01 04 02 00 00 06 01 00 00": tk(63, []int{4}, sp(0, 6, 12), sp(1, 2, 2)),
		"01 00 01 0f 00 00":             tk(1, nil, sp(15, 2, 2)),
	} {
		b := unhex(t, digits)
		if got, err := tokens.Put(x); !bytes.Equal(got, b) || err != api.OK {
			t.Errorf("Put(%v) = % x, %d, want %s", x, got, err, digits)
		}
		if got, err := tokens.Get(b); !same(got, x) || err != api.OK {
			t.Errorf("Get(%s) = %v, %d, want %v", digits, got, err, x)
		}
	}
}

func TestBytesThatAreNone(t *testing.T) { // P23.2
	const greatest = "ff ff ff ff ff ff ff ff 7f" // the wire's greatest number
	for _, digits := range []string{
		// The chapter's: no cart 64, a byte too many, no byte.
		"40 00 00", "00 00 00 00", "",
		// A cart out of its bounds or its form, or with nothing behind it.
		"41 00 00", "7f 00 00", "80 01 00 00", "80 00 00 00", "85 00 00 00", greatest + "00 00", "ff ff ff ff ff ff ff ff ff 01 00 00", "80", "00", "05", "00 00",
		// A past that is none.
		"00 01 00 00", "00 11 00 00", "00 01 80 00 00", "00 01 81 94 eb dc 03 00", "00 00 01 10 00 00", "00 00 01 00 00", "00 01" + greatest + "00", "00" + greatest, "00 00" + greatest,
	} {
		refused(t, unhex(t, digits))
	}
	refused(t, make([]byte, 1<<20))
	refused(t, bytes.Repeat([]byte{0xff}, 1<<20))
}

package mail_test

import (
	"bytes"
	"encoding/hex"
	"slices"
	"strings"
	"testing"

	"barrow/api"
	"barrow/mail"
	"barrow/sample"
)

func TestPutAndSize(t *testing.T) { // P18.2
	for _, m := range mails(500) {
		want := encoding(m)
		if got, err := mail.Put(m); !bytes.Equal(got, want) || err != api.OK {
			t.Errorf("Put(%v) = %x, %d, want %x", m, got, err, want)
		}
		if got, err := mail.Size(m); got != len(want) || err != api.OK {
			t.Errorf("Size(%v) = %d, %d, want %d", m, got, err, len(want))
		}
	}
	for _, m := range sample.WrongMails() {
		if got, err := mail.Put(m); len(got) != 0 || err != api.ErrForm {
			t.Errorf("Put(%v) = %x, %d", m, got, err)
		}
		if got, err := mail.Size(m); got != 0 || err != api.ErrForm {
			t.Errorf("Size(%v) = %d, %d", m, got, err)
		}
	}
}

// checkGet: how many of the bytes are taken?
func checkGet(t *testing.T, all [][]byte) int {
	t.Helper()
	taken := 0
	for _, b := range all {
		want, wantErr := wanted(b)
		got, err := mail.Get(b)
		if !same(got, want) || err != wantErr {
			t.Errorf("Get(%x) = %v, %d, want %v, %d", b, got, err, want, wantErr)
		}
		if err == api.OK {
			taken++
		}
	}
	return taken
}

func TestGet(t *testing.T) { // P18.2
	// Of six bytes, which are a mail without parts: eight numbers for From and seven for To; of a delta 36 pairs of Lo and Hi, of a full mail and of an ack eight, of an ask and of a reply one, of a push seven.
	if taken := checkGet(t, shortBytes(6)); taken != 8*7*(36+8+8+1+1+7) {
		t.Errorf("Get takes %d of the short ones", taken)
	}
	near := nearBytes()
	if taken := checkGet(t, near); taken < len(near)/20 || taken > len(near)/2 {
		t.Errorf("Get takes %d of %d that are or nearly are encodings", taken, len(near))
	}
	if taken := checkGet(t, wrongBytes()); taken != 0 {
		t.Errorf("Get takes the bytes of %d mails that aren't in form", taken)
	}
}

func TestThereAndBack(t *testing.T) { // P18.2, P7
	values := map[string]api.Mail{}
	for _, m := range mails(500) {
		b, _ := mail.Put(m)
		if got, err := mail.Get(b); !same(got, m) || err != api.OK {
			t.Errorf("Get of Put of %v = %v, %d", m, got, err)
		}
		if other, found := values[string(b)]; found && !same(m, other) {
			t.Errorf("Put of %v and of %v are both %x", m, other, b)
		}
		values[string(b)] = m
	}
	for _, b := range nearBytes() {
		m, err := mail.Get(b)
		if err != api.OK {
			continue
		}
		if back, err := mail.Put(m); !bytes.Equal(back, b) || err != api.OK {
			t.Errorf("Get(%x) = %v, whose Put is %x, %d", b, m, back, err)
		}
		if size, err := mail.Size(m); size != len(b) || err != api.OK {
			t.Errorf("Get(%x) = %v, whose Size is %d, %d", b, m, size, err)
		}
	}
}

func refused(t *testing.T, b []byte) {
	t.Helper()
	if got, err := mail.Get(b); !same(got, api.Mail{}) || err != api.ErrBad {
		t.Errorf("Get(%x) = %v, %d", b, got, err)
	}
}

func TestNothingShorterAndNothingLongerIsTaken(t *testing.T) { // P18.2, P7
	for _, m := range short(200) {
		b, _ := mail.Put(m)
		for length := range len(b) {
			refused(t, b[:length])
		}
		for c := range 256 {
			refused(t, append(slices.Clone(b), byte(c)))
		}
		refused(t, slices.Concat(b, b))
	}
	for _, m := range mails(0) {
		b, _ := mail.Put(m)
		refused(t, b[:len(b)-1])
		refused(t, b[:len(b)/2])
		refused(t, append(b, 0))
	}
}

func unhex(t *testing.T, digits string) []byte {
	t.Helper()
	b, err := hex.DecodeString(strings.ReplaceAll(digits, " ", ""))
	if err != nil {
		t.Fatal(err)
	}
	return b
}

func TestBytesExamples(t *testing.T) { // P18.2
	for digits, m := range map[string]api.Mail{
		"03 02 00 00 05 00":                         {Kind: 3, From: 2, To: 0, Hi: 5},
		"01 00 01 02 03 01 04 02 ff 00":             {Kind: 1, From: 0, To: 1, Lo: 2, Hi: 3, Parts: ps(pt(4, 0xff, 0))},
		"02 0f 00 00 ac 02 02 00 00 3f 01 07":       {Kind: 2, From: 15, To: 0, Hi: 300, Parts: ps(pt(0), pt(63, 7))},
		"06 00 01 00 01 00":                         {Kind: 6, From: 0, To: 1, Lo: 0, Hi: 1},
		"04 00 01 00 00 01 05 00":                   {Kind: 4, From: 0, To: 1, Parts: ps(pt(5))},
		"05 01 00 00 00 00":                         {Kind: 5, From: 1, To: 0},
		"03 00 01 00 80 80 80 80 80 80 80 80 40 00": {Kind: 3, From: 0, To: 1, Hi: 4611686018427387904},
	} {
		b := unhex(t, digits)
		if got, err := mail.Put(m); !bytes.Equal(got, b) || err != api.OK {
			t.Errorf("Put(%v) = % x, %d, want %s", m, got, err, digits)
		}
		if got, err := mail.Size(m); got != len(b) || err != api.OK {
			t.Errorf("Size(%v) = %d, %d, want %d", m, got, err, len(b))
		}
		if got, err := mail.Get(b); !same(got, m) || err != api.OK {
			t.Errorf("Get(%s) = %v, %d, want %v", digits, got, err, m)
		}
	}
}

func TestBytesThatAreNone(t *testing.T) { // P18.2
	const greatest = "ff ff ff ff ff ff ff ff 7f" // the wire's greatest number
	for _, digits := range []string{
		// The chapter's.
		"", "03 02 00 00 05", "03 02 00 00 05 00 00", "03 02 02 00 05 00", "03 02 00 01 05 00", "07 02 00 00 00 00",
		// A number that isn't in its form, each in turn.
		"83 00 02 00 00 05 00", "03 82 00 00 00 05 00", "03 02 80 00 00 05 00", "03 02 00 80 00 05 00", "03 02 00 00 85 00 00", "03 02 00 00 05 80 00", "02 00 01 00 00 01 80 00 00", "02 00 01 00 00 01 00 80 00", "03 00 01 00 80 80 80 80 80 80 80 80 80 01 00",
		// A number out of its bounds, each in turn.
		"00 02 00 00 00 00", greatest + "02 00 00 00 00", "03 10 00 00 05 00", "03" + greatest + "00 00 05 00", "03 02 10 00 05 00", "03 02" + greatest + "00 05 00", "01 02 00 06 05 00", "01 02 00" + greatest + greatest + "00", "03 02 00 00 81 80 80 80 80 80 80 80 40 00", "03 02 00 00" + greatest + "00", "06 02 00 80 80 80 80 80 80 80 80 40 81 80 80 80 80 80 80 80 40 00", "02 00 01 00 00 01 40 00", "02 00 01 00 00 01" + greatest + "00",
		// Other parts than the mail tells of: too few, too many, in a wrong order, and in an ack.
		"02 00 01 00 00 01", "02 00 01 00 00 02 00 00", "02 00 01 00 00 01 00 00 01 00", "02 00 01 00 00 00 00 00", "02 00 01 00 00 02 01 00 01 00", "02 00 01 00 00 02 01 00 00 00", "03 02 00 00 05 01 00 00", "02 00 01 00 00" + greatest + "00 00",
		// A body that ends too early.
		"02 00 01 00 00 01 00 01", "02 00 01 00 00 01 00 03 01 02", "02 00 01 00 00 01 00" + greatest, "02 00 01 00 00 01 00" + greatest + "01 02",
	} {
		refused(t, unhex(t, digits))
	}
	// Very many parts, which are all there but for more carts than there can be.
	many := append(unhex(t, "02 00 01 00 00"), num(1<<20)...)
	refused(t, append(many, make([]byte, 1<<21)...))
	refused(t, make([]byte, 1<<20))
	refused(t, bytes.Repeat([]byte{0xff}, 1<<20))
	overfull := unhex(t, "02 00 01 00 00 41")
	for cart := range 65 {
		overfull = append(overfull, byte(cart), 0)
	}
	refused(t, overfull)
}

func TestALongBody(t *testing.T) { // P18.2
	m := api.Mail{Kind: 2, To: 1, Parts: ps(pt(0, bytes.Repeat([]byte{3}, 1<<21)...), pt(1, 9))}
	b, err := mail.Put(m)
	if size, sizeErr := mail.Size(m); size != 6+1+4+1<<21+3 || len(b) != size || err != api.OK || sizeErr != api.OK {
		t.Errorf("Size = %d, %d, and Put has %d bytes, %d", size, sizeErr, len(b), err)
	}
	if got, err := mail.Get(b); !same(got, m) || err != api.OK {
		t.Errorf("Get of Put: %d", err)
	}
}

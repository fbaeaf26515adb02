package wire_test

import (
	"bytes"
	"slices"
	"testing"

	"barrow/api"
	"barrow/wire"
)

func sameFrames(a, b [][]byte) bool { return slices.EqualFunc(a, b, bytes.Equal) }

func frames(texts ...string) [][]byte {
	var list [][]byte
	for _, text := range texts {
		list = append(list, []byte(text))
	}
	return list
}

// splitting is the chapter's definition of Split, word by word.
func splitting(b []byte) ([][]byte, api.Errno) {
	var list [][]byte
	for len(b) > 0 {
		length, taken, err := decoded(b)
		if err != api.OK {
			return nil, err
		}
		b = b[taken:]
		if length > len(b) {
			return nil, api.ErrShort
		}
		list = append(list, b[:length])
		b = b[length:]
	}
	return list, api.OK
}

func checkSplit(t *testing.T, b []byte) {
	t.Helper()
	got, err := wire.Split(b)
	want, wantErr := splitting(b)
	if !sameFrames(got, want) || err != wantErr {
		t.Errorf("Split(%x) = %x, %d, want %x, %d", b, got, err, want, wantErr)
	}
	if err == api.OK && !bytes.Equal(wire.Join(got), b) {
		t.Errorf("Split(%x) = %x, and their Join %x", b, got, wire.Join(got))
	}
}

func TestSplit(t *testing.T) { // P5.5
	checkSplit(t, nil)
	for x := range 256 {
		checkSplit(t, []byte{byte(x)})
		for y := range 256 {
			checkSplit(t, []byte{byte(x), byte(y)})
			checkSplit(t, []byte{1, byte(x), byte(y)})
		}
	}
	dice := newDice()
	for range 20000 {
		checkSplit(t, anyBytes(dice))
	}
	for _, text := range []string{"\xff\xff\xff\xff\xff\xff\xff\xff\x7f", "\xff\xff\xff\xff\xff\xff\xff\xff\x7fAB", "\x80\x80\x80\x80\x80\x80\x80\x80\x80", "\x80\x80\x80\x80\x80\x80\x80\x80", "\x01A\x80\x00\x09", "\x01A\x09\x80\x00"} {
		checkSplit(t, []byte(text))
	}
}

func TestFramesExamples(t *testing.T) { // P5.5
	joined := []byte("\x01A\x00\x02BC")
	if got := wire.Join(frames("A", "", "BC")); !bytes.Equal(got, joined) {
		t.Errorf("Join = %x", got)
	}
	if got := wire.Join([][]byte{[]byte("A"), nil, []byte("BC")}); !bytes.Equal(got, joined) {
		t.Errorf("Join with a nil one = %x", got)
	}
	for _, list := range [][][]byte{nil, {}} {
		if got := wire.Join(list); len(got) != 0 {
			t.Errorf("Join of none = %x", got)
		}
	}
	for text, want := range map[string]api.Errno{"\x01A\x00\x02B": api.ErrShort, "\x80\x00": api.ErrWide, "\x80": api.ErrShort, "": api.OK} {
		if got, err := wire.Split([]byte(text)); len(got) != 0 || err != want {
			t.Errorf("Split(%x) = %x, %d, want %d", text, got, err, want)
		}
	}
}

func TestSplitOfJoin(t *testing.T) { // P5.5
	dice := newDice()
	for range 300 {
		var list [][]byte
		var joined []byte
		count := map[int]int{0: 0} // at which place how many frames end
		for range dice.IntN(5) {
			text := anyText(dice)
			list = append(list, []byte(text))
			joined = append(joined, framed(text)...)
			count[len(joined)] = len(list)
		}
		if got := wire.Join(list); !bytes.Equal(got, joined) {
			t.Fatalf("Join(%x) = %x", list, got)
		}
		for end := range len(joined) + 1 {
			got, err := wire.Split(joined[:end])
			n, ends := count[end]
			if ends && (err != api.OK || !sameFrames(got, list[:n])) || !ends && (err != api.ErrShort || len(got) != 0) {
				t.Errorf("Split of the first %d bytes of %x = %x, %d", end, joined, got, err)
			}
		}
	}
}

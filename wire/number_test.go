package wire_test

import (
	"bytes"
	"slices"
	"testing"

	"barrow/api"
	"barrow/wire"
)

func written(t *testing.T, puts ...func(w *wire.Writer)) []byte {
	t.Helper()
	w := wire.NewWriter()
	for _, put := range puts {
		put(w)
	}
	b, err := w.Done()
	if err != api.OK {
		t.Fatalf("Done = %d", err)
	}
	return b
}

func TestSize(t *testing.T) { // P5.4
	dice := newDice()
	nums := edgeNums()
	for range 2000 {
		nums = append(nums, anyNum(dice))
	}
	for _, n := range nums {
		b := written(t, func(w *wire.Writer) { w.Num(n) })
		if got := wire.Size(n); got != len(b) || got != len(encoded(n)) {
			t.Errorf("Size(%d) = %d, its bytes are %x", n, got, b)
		}
	}
	for n, want := range map[int]int{0: 1, 127: 1, 128: 2, 16383: 2, 16384: 3, 1<<56 - 1: 8, 1 << 56: 9, greatInt: 9, -1: 0, -128: 0, leastInt: 0} {
		if got := wire.Size(n); got != want {
			t.Errorf("Size(%d) = %d, want %d", n, got, want)
		}
	}
}

// checkNum holds Num at every place of b, and beyond, against the chapter's definition.
func checkNum(t *testing.T, b []byte) {
	t.Helper()
	for at := range len(b) + 1 {
		n, taken, err := decoded(b[at:])
		next := at + taken
		if err != api.OK {
			next = 0
		}
		if gotN, gotNext, gotErr := wire.Num(b, at); gotN != n || gotNext != next || gotErr != err {
			t.Errorf("Num(%x, %d) = %d, %d, %d, want %d, %d, %d", b, at, gotN, gotNext, gotErr, n, next, err)
		}
	}
	for _, at := range []int{leastInt, -1, len(b) + 1, greatInt} {
		if n, next, err := wire.Num(b, at); n != 0 || next != 0 || err != api.ErrArg {
			t.Errorf("Num(%x, %d) = %d, %d, %d", b, at, n, next, err)
		}
	}
}

func TestNum(t *testing.T) { // P5.4
	checkNum(t, nil)
	checkNum(t, []byte{0xac, 2})
	for x := range 256 {
		checkNum(t, []byte{byte(x)})
		for y := range 256 {
			checkNum(t, []byte{byte(x), byte(y)})
		}
	}
	for length := range 12 {
		for _, last := range []byte{0, 1, 0x7f, 0x80, 0xff} {
			for _, ahead := range []byte{0x80, 0x81, 0xff} {
				checkNum(t, append(bytes.Repeat([]byte{ahead}, length), last))
			}
		}
	}
	dice := newDice()
	for range 3000 {
		checkNum(t, anyBytes(dice))
		checkNum(t, slices.Concat(encoded(anyNum(dice)), anyBytes(dice)))
	}
}

func TestNumsExamples(t *testing.T) { // P5.4
	for _, c := range []struct {
		at, n, next int
		err         api.Errno
	}{
		{0, 300, 2, api.OK}, {1, 2, 2, api.OK}, {2, 0, 0, api.ErrShort}, {3, 0, 0, api.ErrArg}, {-1, 0, 0, api.ErrArg},
	} {
		if n, next, err := wire.Num([]byte{0xac, 2}, c.at); n != c.n || next != c.next || err != c.err {
			t.Errorf("Num(ac 02, %d) = %d, %d, %d", c.at, n, next, err)
		}
	}
	for _, c := range []struct {
		b   []byte
		err api.Errno
	}{
		{bytes.Repeat([]byte{0x80}, 8), api.ErrShort}, {bytes.Repeat([]byte{0x80}, 9), api.ErrWide}, {bytes.Repeat([]byte{0x80}, 10), api.ErrWide}, {[]byte{0x80, 0}, api.ErrWide}, {[]byte{0x80}, api.ErrShort}, {nil, api.ErrShort},
	} {
		if n, next, err := wire.Num(c.b, 0); n != 0 || next != 0 || err != c.err {
			t.Errorf("Num(%x, 0) = %d, %d, %d, want %d", c.b, n, next, err, c.err)
		}
	}
}

func TestANumberHasOneEncoding(t *testing.T) { // P5.4
	dice := newDice()
	for range 20000 {
		b := anyBytes(dice)
		if n, next, err := wire.Num(b, 0); err == api.OK && !bytes.Equal(written(t, func(w *wire.Writer) { w.Num(n) }), b[:next]) {
			t.Errorf("%x is read as %d", b[:next], n)
		}
	}
}

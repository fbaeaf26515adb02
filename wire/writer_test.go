package wire_test

import (
	"bytes"
	"fmt"
	"math/rand/v2"
	"slices"
	"testing"

	"barrow/api"
	"barrow/wire"
)

// A put is something that goes into a writer and comes out of a reader.
type put struct {
	name  string
	bytes []byte
	write func(w *wire.Writer)
	read  func(r *wire.Reader) bool // was it read back?
}

// The bounds at reading are the least that let the thing through.
func numPut(n int) put {
	return put{fmt.Sprintf("Num(%d)", n), encoded(n), func(w *wire.Writer) { w.Num(n) }, func(r *wire.Reader) bool { return r.Num(n) == n }}
}

func flagPut(yes bool) put {
	b := []byte{0}
	if yes {
		b = []byte{1}
	}
	return put{fmt.Sprintf("Flag(%v)", yes), b, func(w *wire.Writer) { w.Flag(yes) }, func(r *wire.Reader) bool { return r.Flag() == yes }}
}

func textPut(s string) put {
	return put{fmt.Sprintf("Text(%.20q)", s), framed(s), func(w *wire.Writer) { w.Text(s) }, func(r *wire.Reader) bool { return r.Text(len(s)) == s }}
}

func framePut(s string) put {
	return put{fmt.Sprintf("Frame(%.20q)", s), framed(s), func(w *wire.Writer) { w.Frame([]byte(s)) }, func(r *wire.Reader) bool { return string(r.Frame(len(s))) == s }}
}

func anyPut(dice *rand.Rand) put {
	switch dice.IntN(4) {
	case 0:
		return numPut(anyNum(dice))
	case 1:
		return flagPut(dice.IntN(2) == 1)
	case 2:
		return textPut(anyText(dice))
	}
	return framePut(anyText(dice))
}

func anyPuts(dice *rand.Rand) []put {
	var puts []put
	for range 1 + dice.IntN(6) {
		puts = append(puts, anyPut(dice))
	}
	return puts
}

func names(puts []put) []string {
	var all []string
	for _, p := range puts {
		all = append(all, p.name)
	}
	return all
}

func doneIs(t *testing.T, w *wire.Writer, want []byte, what any) {
	t.Helper()
	if b, err := w.Done(); err != api.OK || !bytes.Equal(b, want) {
		t.Errorf("%v: Done = %x, %d, want %x", what, b, err, want)
	}
}

func TestWhatEachPutWrites(t *testing.T) { // P5.1
	puts := []put{flagPut(false), flagPut(true)}
	for _, n := range edgeNums() {
		puts = append(puts, numPut(n))
	}
	for _, length := range []int{0, 1, 24, 127, 128, 129, 16383, 16384} {
		text := string(bytes.Repeat([]byte{0xff}, length))
		puts = append(puts, textPut(text), framePut(text))
	}
	puts = append(puts, textPut("AB"), textPut("é\x00\xff\xfe"), framePut("\x00\x80\xff"))
	for _, p := range puts {
		doneIs(t, wire.NewWriter(), nil, "a new writer")
		w := wire.NewWriter()
		p.write(w)
		doneIs(t, w, p.bytes, p.name)
	}
	w := wire.NewWriter()
	w.Frame(nil)
	doneIs(t, w, []byte{0}, "Frame(nil)")
}

func TestWritersExamples(t *testing.T) { // P5.1
	for n, want := range map[int]string{0: "\x00", 127: "\x7f", 128: "\x80\x01", 300: "\xac\x02", 1000000000: "\x80\x94\xeb\xdc\x03", greatInt: "\xff\xff\xff\xff\xff\xff\xff\xff\x7f"} {
		w := wire.NewWriter()
		w.Num(n)
		doneIs(t, w, []byte(want), n)
	}
	w := wire.NewWriter()
	w.Flag(true)
	w.Text("AB")
	w.Num(5)
	doneIs(t, w, []byte("\x01\x02AB\x05"), "Flag, Text, Num")
}

func TestPutsStandInTheirOrder(t *testing.T) { // P5.1
	dice := newDice()
	for range 500 {
		w, other := wire.NewWriter(), wire.NewWriter()
		var want []byte
		puts := anyPuts(dice)
		for i, p := range puts {
			p.write(w)
			want = append(want, p.bytes...)
			doneIs(t, w, want, names(puts[:i+1]))
			doneIs(t, w, want, "Done for the second time")
		}
		doneIs(t, other, nil, "another writer")
	}
}

func TestASpoiltWriterStaysSo(t *testing.T) { // P5.1
	dice := newDice()
	for _, n := range []int{-1, -2, -128, leastInt} {
		for range 50 {
			puts := anyPuts(dice)
			at := dice.IntN(len(puts) + 1)
			puts = slices.Insert(puts, at, put{name: fmt.Sprintf("Num(%d)", n), write: func(w *wire.Writer) { w.Num(n) }})
			w := wire.NewWriter()
			for i, p := range puts {
				p.write(w)
				b, err := w.Done()
				if i >= at && (len(b) != 0 || err != api.ErrArg) {
					t.Errorf("%v: Done = %x, %d", names(puts[:i+1]), b, err)
				}
				if i < at && err != api.OK {
					t.Errorf("%v: Done = %x, %d", names(puts[:i+1]), b, err)
				}
			}
		}
	}
}

func TestWhatWasPutIsReadBack(t *testing.T) { // P5.3
	dice := newDice()
	for range 300 {
		puts := anyPuts(dice)
		w := wire.NewWriter()
		for _, p := range puts {
			p.write(w)
		}
		whole, _ := w.Done()
		var back []bool
		read := func(r *wire.Reader) {
			back = nil
			for _, p := range puts {
				back = append(back, p.read(r))
			}
		}
		if err := wire.Read(whole, read); err != api.OK || len(back) != len(puts) || slices.Contains(back, false) {
			t.Errorf("%v: read back %v, %d", names(puts), back, err)
		}
		for end := range whole {
			if err := wire.Read(whole[:end], read); err != api.ErrShort {
				t.Errorf("%v: the first %d bytes: %d", names(puts), end, err)
			}
		}
		for _, more := range []byte{0, 1, 0x7f, 0x80, 0xff} {
			if err := wire.Read(append(slices.Clone(whole), more), read); err != api.ErrRest || slices.Contains(back, false) {
				t.Errorf("%v: with the byte %x behind: %v, %d", names(puts), more, back, err)
			}
		}
	}
}

func TestWhatWasPutIsReadBackUnderGreaterBounds(t *testing.T) { // P5.3
	text := string(bytes.Repeat([]byte("x"), 200))
	w := wire.NewWriter()
	w.Num(300)
	w.Text(text)
	w.Frame([]byte(text))
	b, _ := w.Done()
	for _, more := range []int{0, 1, greatInt - 300} {
		err := wire.Read(b, func(r *wire.Reader) {
			if n, s, f := r.Num(300+more), r.Text(200+more), r.Frame(200+more); n != 300 || s != text || string(f) != text {
				t.Errorf("read back %d, %q, %q", n, s, f)
			}
		})
		if err != api.OK {
			t.Errorf("bounds greater by %d: %d", more, err)
		}
	}
}

package wire_test

import (
	"bytes"
	"slices"
	"testing"

	"barrow/api"
	"barrow/memcheck"
	"barrow/sample"
	"barrow/wire"
)

type region = memcheck.Region

func roomy(b []byte) []byte { return sample.RoomyBytes(b) }

// A caller makes a call of wire and tells the memory of all that it answers.
type caller struct {
	name string
	call func(b []byte, list [][]byte) []region
}

func reading(f func(r *wire.Reader) []byte) func(b []byte, list [][]byte) []region {
	return func(b []byte, list [][]byte) []region {
		var all []region
		wire.Read(b, func(r *wire.Reader) {
			for {
				all = append(all, memcheck.Bytes(f(r)))
			}
		})
		return all
	}
}

func callers() []caller {
	split := func(b []byte) []region { got, _ := wire.Split(b); return memcheck.ByteLists(got) }
	return []caller{
		{"Join", func(b []byte, list [][]byte) []region { return []region{memcheck.Bytes(wire.Join(list))} }},
		{"Join of one", func(b []byte, list [][]byte) []region { return []region{memcheck.Bytes(wire.Join([][]byte{b}))} }},
		{"Split", func(b []byte, list [][]byte) []region { return split(b) }},
		{"Num", func(b []byte, list [][]byte) []region { wire.Num(b, 0); return nil }},
		{"Frame", reading(func(r *wire.Reader) []byte { return r.Frame(99) })},
		{"Text", reading(func(r *wire.Reader) []byte { return []byte(r.Text(99)) })},
		{"Num of a reader", reading(func(r *wire.Reader) []byte { r.Num(99); return nil })},
		{"Count and Flag", reading(func(r *wire.Reader) []byte { r.Count(1); r.Flag(); return nil })},
		{"a writer", func(b []byte, list [][]byte) []region { return writing(b, list) }},
	}
}

func writing(b []byte, list [][]byte) []region {
	w := wire.NewWriter()
	var all []region
	done := func() { got, _ := w.Done(); all = append(all, memcheck.Bytes(got)) }
	done()
	w.Frame(b)
	done()
	done()
	for _, frame := range list {
		w.Frame(frame)
		w.Text("AB")
		done()
	}
	return all
}

func memoryBytes() [][]byte {
	return [][]byte{nil, {}, {0}, {0, 0, 0}, {1}, {2, 'A', 'B'}, {1, 'A', 0, 2, 'B', 'C'}, {1, 'A', 0, 2, 'B'}, {0x80, 0}, {3, 0, 0, 0, 0, 0}, {1, 1, 1, 0}, append([]byte{0x80, 1}, bytes.Repeat([]byte{3}, 128)...)}
}

func memoryList() [][]byte {
	var list [][]byte
	for _, b := range memoryBytes() {
		list = append(list, roomy(b))
	}
	return append(list, []byte{60})[:len(list)]
}

func TestNothingHandedInIsChanged(t *testing.T) { // R7
	for _, c := range callers() {
		for _, x := range memoryBytes() {
			b, list := roomy(x), memoryList()
			given := append(memcheck.ByteLists(list), memcheck.Bytes(b))
			if memcheck.Changed(given, c.call(b, list)) {
				t.Errorf("%s of %x: the call, or a write into its answer, changes what was handed in", c.name, x)
			}
		}
	}
}

func TestNoTwoAnswersShareMemory(t *testing.T) { // R7
	for _, c := range callers() {
		for _, x := range memoryBytes() {
			b, list := roomy(x), memoryList()
			if memcheck.Shared(slices.Concat(c.call(b, list), c.call(b, list))) {
				t.Errorf("%s of %x: a write into one answer changes another", c.name, x)
			}
		}
	}
}

func TestAWriterKeepsNoFrame(t *testing.T) { // R7
	for _, length := range []int{1, 3, 200} {
		frame := bytes.Repeat([]byte{1}, length)
		w := wire.NewWriter()
		w.Frame(frame)
		want, _ := w.Done()
		clear(frame)
		doneIs(t, w, want, "the frame was written over")
	}
}

func TestAWritersAnswersAreItsCallers(t *testing.T) { // R7
	w := wire.NewWriter()
	w.Text("ABC")
	first, _ := w.Done()
	clear(first[:cap(first)])
	doneIs(t, w, []byte("\x03ABC"), "the answer was written over")
	w.Num(5)
	clear(first[:cap(first)])
	doneIs(t, w, []byte("\x03ABC\x05"), "the first answer was written over behind a put")
}

func TestATextIsNotTheBytes(t *testing.T) { // R7
	b := []byte("\x03ABC\x03DEF")
	var text string
	var frame []byte
	err := wire.Read(b, func(r *wire.Reader) { text, frame = r.Text(3), r.Frame(3) })
	clear(b)
	if err != api.OK || text != "ABC" || string(frame) != "DEF" {
		t.Errorf("the bytes were written over: %q, %q, %d", text, frame, err)
	}
}

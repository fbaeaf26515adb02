package wire_test

import (
	"bytes"
	"slices"
	"testing"

	"barrow/api"
	"barrow/wire"
)

// checkSteps holds the calls and Read against the model: once where f ends with the first giving up, and once where f catches each one and goes on.
func checkSteps(t *testing.T, b []byte, steps []step) {
	t.Helper()
	for _, hold := range []bool{false, true} {
		m := &model{left: b}
		var got, want []string
		for _, s := range steps {
			answer := m.do(s)
			if answer == gaveUp && !hold {
				break
			}
			want = append(want, answer)
		}
		ask := call
		if hold {
			ask = do
		}
		err := wire.Read(b, func(r *wire.Reader) {
			for _, s := range steps {
				got = append(got, ask(r, s))
			}
		})
		if !slices.Equal(got, want) || err != m.answer() {
			t.Errorf("%x, %v, going on %v: %q, %d, want %q, %d", b, steps, hold, got, err, want, m.answer())
		}
	}
}

func TestReadersCalls(t *testing.T) { // P5.2
	dice := newDice()
	for range 60000 {
		checkSteps(t, anyBytes(dice), anySteps(dice))
	}
}

func TestReadersCallsAtEveryByte(t *testing.T) { // P5.2
	calls := []step{{"Num", leastInt}, {"Num", -1}, {"Num", 0}, {"Num", 1}, {"Num", 127}, {"Num", 128}, {"Num", greatInt}, {"Flag", 0}, {"Count", 0}, {"Count", 1}, {"Count", 2}, {"Text", 1}, {"Frame", 1}, {"Text", greatInt}, {"Frame", greatInt}}
	for _, s := range calls {
		steps := []step{s, {"Left", 0}}
		checkSteps(t, nil, steps)
		for x := range 256 {
			checkSteps(t, []byte{byte(x)}, steps)
			for _, y := range []byte{0, 1, 2, 0x7f, 0x80, 0xff} {
				checkSteps(t, []byte{byte(x), y}, steps)
			}
		}
		for length := range 12 {
			for _, last := range []byte{0, 1, 0x7f, 0x80} {
				checkSteps(t, append(bytes.Repeat([]byte{0x80}, length), last), steps)
				checkSteps(t, append(bytes.Repeat([]byte{0xff}, length), last), steps)
			}
		}
	}
}

func TestReadsExamples(t *testing.T) { // P5.2
	example := []byte("\x01\x02AB\x05")
	for _, c := range []struct {
		b     []byte
		steps []step
		want  api.Errno
	}{
		{[]byte{0x80}, []step{{"Num", greatInt}}, api.ErrShort},
		{[]byte{0x80, 0}, []step{{"Num", greatInt}}, api.ErrWide},
		{bytes.Repeat([]byte{0x80}, 9), []step{{"Num", greatInt}}, api.ErrWide},
		{bytes.Repeat([]byte{0x80}, 8), []step{{"Num", greatInt}}, api.ErrShort},
		{[]byte{0xac, 2}, []step{{"Num", 299}}, api.ErrWide},
		{[]byte{0xac, 2}, []step{{"Num", 300}}, api.OK},
		{example, []step{{"Flag", 0}, {"Text", 2}}, api.ErrRest},
		{example, []step{{"Flag", 0}, {"Text", 1}}, api.ErrWide},
		{example, []step{{"Flag", 0}, {"Text", 2}, {"Num", 4}}, api.ErrWide},
		{example, []step{{"Flag", 0}, {"Text", 2}, {"Num", 5}}, api.OK},
		{example, []step{{"Flag", 0}, {"Text", 2}, {"Num", 5}, {"Flag", 0}}, api.ErrShort},
		{example, []step{{"Fail", 0}}, api.ErrBad},
		{[]byte{3, 0, 0, 0, 0, 0}, []step{{"Count", 2}}, api.ErrShort},
		{[]byte{3, 0, 0, 0, 0, 0}, []step{{"Count", 1}}, api.ErrRest},
		{[]byte{3, 0, 0, 0, 0, 0}, []step{{"Count", 0}}, api.ErrRest},
		{[]byte{2, 0, 0, 0, 0, 0}, []step{{"Count", 2}}, api.ErrRest},
		{[]byte{2, 'A', 'B'}, []step{{"Frame", 1}}, api.ErrWide},
		{[]byte{9, 'A', 'B'}, []step{{"Frame", 8}}, api.ErrWide},
		{[]byte{9, 'A', 'B'}, []step{{"Frame", 9}}, api.ErrShort},
		{[]byte{2}, []step{{"Flag", 0}}, api.ErrWide},
	} {
		err := wire.Read(c.b, func(r *wire.Reader) {
			for _, s := range c.steps {
				call(r, s)
			}
		})
		if err != c.want {
			t.Errorf("%x, %v: %d, want %d", c.b, c.steps, err, c.want)
		}
		checkSteps(t, c.b, c.steps)
	}
}

func TestFailsNumbers(t *testing.T) { // P5.2
	for _, e := range []api.Errno{leastInt, -1, 0, 1, 8, 9, 50, 51, 52, 99, greatInt} {
		want := e
		if e == api.OK {
			want = api.ErrBad
		}
		for _, b := range [][]byte{nil, {1, 2}} {
			if got := wire.Read(b, func(r *wire.Reader) { r.Fail(e) }); got != want {
				t.Errorf("Fail(%d): %d", e, got)
			}
		}
	}
}

func TestReadWithoutF(t *testing.T) { // P5.2
	for _, b := range [][]byte{nil, {}} {
		if err := wire.Read(b, nil); err != api.OK {
			t.Errorf("no bytes: %d", err)
		}
	}
	if err := wire.Read([]byte{0}, nil); err != api.ErrRest {
		t.Errorf("one byte: %d", err)
	}
}

func TestReadCallsOnce(t *testing.T) { // P5.2
	for _, b := range [][]byte{nil, {1}, {1, 2, 3}} {
		times, left := 0, 0
		wire.Read(b, func(r *wire.Reader) { times, left = times+1, r.Left() })
		if times != 1 || left != len(b) {
			t.Errorf("%x: called %d times, %d bytes left", b, times, left)
		}
	}
}

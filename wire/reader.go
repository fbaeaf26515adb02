package wire

import (
	"bytes"
	"cmp"
	"math"

	"barrow/api"
)

// Reader goes through bytes; Read alone makes one. Its methods give up by panic, which Read catches.
type Reader struct {
	rest []byte    // what lies behind the place; nothing once it gave up or is over
	gave api.Errno // by which error it gave up; OK: it didn't
	over bool
}

// A givingUp is thrown where a reader gives up. It names the reader, so that each Read knows its own.
type givingUp struct{ reader *Reader }

// Read: f goes through b with a reader; the error by which it gave up.
func Read(b []byte, f func(r *Reader)) (err api.Errno) {
	r := &Reader{rest: b}
	defer func() { err = r.end(recover()) }()
	if f != nil {
		f(r)
	}
	return api.OK
}

// end: the reader is over; what Read answers, where this was thrown (nil: nothing).
func (r *Reader) end(thrown any) api.Errno {
	left := len(r.rest)
	r.rest, r.over = nil, true
	// A reader that isn't over is one whose Read still runs: one further out, where this goes on to.
	if up, ok := thrown.(givingUp); ok && !up.reader.over {
		panic(up)
	}
	switch {
	case r.gave != api.OK:
		return r.gave
	case thrown != nil:
		return api.ErrBad
	case left > 0:
		return api.ErrRest
	}
	return api.OK
}

func (r *Reader) giveUp(e api.Errno) {
	r.rest, r.gave = nil, e
	panic(givingUp{r})
}

// mayRead: no, once it is over; a reader that gave up does so again.
func (r *Reader) mayRead() bool {
	if !r.over && r.gave != api.OK {
		r.giveUp(r.gave)
	}
	return !r.over
}

// Num: the next number, at most most.
func (r *Reader) Num(most int) int {
	if !r.mayRead() {
		return 0
	}
	n, size, err := firstNum(r.rest)
	if err != api.OK {
		r.giveUp(err)
	}
	if n > most {
		r.giveUp(api.ErrWide)
	}
	r.rest = r.rest[size:]
	return n
}

// Flag: the next yes or no.
func (r *Reader) Flag() bool {
	if !r.mayRead() {
		return false
	}
	if len(r.rest) == 0 {
		r.giveUp(api.ErrShort)
	}
	bit := r.rest[0]
	if bit > 1 {
		r.giveUp(api.ErrWide)
	}
	r.rest = r.rest[1:]
	return bit == 1
}

// Count: the next number, a count of things of at least each bytes that must still be there.
func (r *Reader) Count(each int) int {
	n := r.Num(math.MaxInt)
	if n > len(r.rest)/max(each, 1) {
		r.giveUp(api.ErrShort)
	}
	return n
}

// Text: the next text, of at most most bytes.
func (r *Reader) Text(most int) string { return string(r.piece(most)) }

// Frame: the next frame, of at most most bytes.
func (r *Reader) Frame(most int) []byte { return bytes.Clone(r.piece(most)) }

// piece is a part of what is read, and must be copied ahead of being answered.
func (r *Reader) piece(most int) []byte {
	n := r.Num(most)
	if n > len(r.rest) {
		r.giveUp(api.ErrShort)
	}
	piece := r.rest[:n]
	r.rest = r.rest[n:]
	return piece
}

// Left: how many bytes are left.
func (r *Reader) Left() int { return len(r.rest) }

// Fail: gives up.
func (r *Reader) Fail(e api.Errno) {
	if r.mayRead() {
		r.giveUp(cmp.Or(e, api.ErrBad))
	}
}

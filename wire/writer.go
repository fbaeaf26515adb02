package wire

import (
	"bytes"

	"barrow/api"
)

// Writer puts things one behind the other.
type Writer struct {
	put    []byte
	spoilt bool
}

// NewWriter: a writer with nothing written.
func NewWriter() *Writer { return &Writer{} }

// Num: a number.
func (w *Writer) Num(n int) {
	if n < 0 {
		w.put, w.spoilt = nil, true
		return
	}
	w.hold(appendNum(w.put, n))
}

// Flag: a yes or no.
func (w *Writer) Flag(b bool) {
	bit := byte(0)
	if b {
		bit = 1
	}
	w.hold(append(w.put, bit))
}

// Text: a text, its length ahead of it.
func (w *Writer) Text(s string) { w.hold(appendFrame(w.put, s)) }

// Frame: bytes, their length ahead of them.
func (w *Writer) Frame(b []byte) { w.hold(appendFrame(w.put, b)) }

// hold: a spoilt writer has no use for what is put into it.
func (w *Writer) hold(put []byte) {
	if !w.spoilt {
		w.put = put
	}
}

// Done: what was written.
func (w *Writer) Done() ([]byte, api.Errno) {
	if w.spoilt {
		return nil, api.ErrArg
	}
	return bytes.Clone(w.put), api.OK
}

// Package goods is layer 2: SKUs and quantities. See shared/doc/02-goods.md.
package goods

import (
	"unicode/utf8"

	"barrow/api"
)

// maxTyped is how many bytes of what a person typed Clean takes.
const maxTyped = 96

// Check: is sku a SKU? The place of the first byte that can't stand there, and the error.
func Check(sku string) (int, api.Errno) {
	if sku == "" {
		return 0, api.ErrEmpty
	}
	if len(sku) > api.MaxSku {
		return 0, api.ErrLong
	}
	for place := range len(sku) {
		if !canStand(sku, place) {
			return place, api.ErrByte
		}
	}
	return 0, api.OK
}

func canStand(sku string, place int) bool {
	if isMark(sku[place]) {
		return place > 0 && place < len(sku)-1 && !isMark(sku[place-1])
	}
	return isLetter(sku[place]) || isDigit(sku[place])
}

func isLetter(b byte) bool { return 'A' <= b && b <= 'Z' }

func isDigit(b byte) bool { return '0' <= b && b <= '9' }

func isMark(b byte) bool { return b == '-' || b == '.' }

func allDigits(text string) bool {
	for i := range len(text) {
		if !isDigit(text[i]) {
			return false
		}
	}
	return true
}

// Good: is sku a SKU?
func Good(sku string) bool {
	_, err := Check(sku)
	return err == api.OK
}

// Clean: what a person typed, as a SKU.
func Clean(text string) (string, api.Errno) {
	if len(text) > maxTyped {
		return "", api.ErrLong
	}
	var out []byte
	waiting := byte(0)
	for _, r := range text {
		// Bytes that are no UTF-8 come as a rune above this bound too.
		if r >= utf8.RuneSelf {
			return "", api.ErrByte
		}
		if mark := markOf(r); mark != 0 {
			waiting = joinMarks(waiting, mark)
			continue
		}
		// A mark is written with what comes behind it: so one at the end falls away, and one at the beginning by the test.
		if waiting != 0 && len(out) > 0 {
			out = append(out, waiting)
		}
		waiting = 0
		out = append(out, capital(r))
	}
	if _, err := Check(string(out)); err != api.OK {
		return "", err
	}
	return string(out), api.OK
}

// markOf: the mark that a typed character stands for; 0: it is none.
func markOf(r rune) byte {
	switch r {
	case ' ', '\t', '_', '/', '-':
		return '-'
	case '.':
		return '.'
	}
	return 0
}

// joinMarks: one dot makes the whole run a dot.
func joinMarks(waiting, next byte) byte {
	if waiting == '.' {
		return waiting
	}
	return next
}

// capital is for runes of one byte alone.
func capital(r rune) byte {
	if 'a' <= r && r <= 'z' {
		r -= 'a' - 'A'
	}
	return byte(r)
}

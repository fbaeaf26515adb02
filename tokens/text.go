package tokens

import (
	"strings"

	"barrow/api"
)

const (
	letters    = "0123456789ABCDEFGHJKMNPQRSTVWXYZ"
	letterBits = 5
	byteBits   = 8

	// The remainder by a prime above 32 changes with each letter, and where two unlike neighbours change about.
	checks    = letters + "*~$=U"
	remainder = len(checks)
)

// Text: the token as a text.
func Text(t api.Token) (string, api.Errno) {
	b, err := Put(t)
	if err != api.OK {
		return "", err
	}
	body := spell(b)
	return string(append(body, checkLetter(body))), api.OK
}

// spell: the letters of the bytes.
func spell(b []byte) []byte {
	var out []byte
	// bits holds the last count bits of the row that no letter says yet.
	bits, count := 0, 0
	for _, c := range b {
		bits = bits<<byteBits + int(c)
		count += byteBits
		for count >= letterBits {
			count -= letterBits
			out = append(out, letters[bits>>count])
			bits %= 1 << count
		}
	}
	if count > 0 {
		out = append(out, letters[bits<<(letterBits-count)])
	}
	return out
}

// checkLetter: the letter that belongs behind these.
func checkLetter(body []byte) byte {
	rest := 0
	for _, c := range body {
		rest = (rest<<letterBits + valueOf(c)) % remainder
	}
	return checks[rest]
}

// valueOf: below 0, if it is none of the letters.
func valueOf(letter byte) int { return strings.IndexByte(letters, letter) }

// Parse: the token of a text.
func Parse(s string) (api.Token, api.Errno) {
	b, ok := unspell(s[:max(len(s)-1, 0)])
	if !ok {
		return api.Token{}, api.ErrText
	}
	t, err := Get(b)
	if err != api.OK {
		return api.Token{}, api.ErrText
	}
	// So the check letter, the bits that fill the last group up and a letter too many are looked at.
	if text, _ := Text(t); text != s {
		return api.Token{}, api.ErrText
	}
	return t, api.OK
}

// unspell: the bytes that the letters say, without the bits at the end that make no byte; false, if a byte is none of the letters.
func unspell(body string) ([]byte, bool) {
	var out []byte
	bits, count := 0, 0
	for i := range len(body) {
		value := valueOf(body[i])
		if value < 0 {
			return nil, false
		}
		bits = bits<<letterBits + value
		count += letterBits
		if count >= byteBits {
			count -= byteBits
			out = append(out, byte(bits>>count))
			bits %= 1 << count
		}
	}
	return out, true
}

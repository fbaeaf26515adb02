package script

import (
	"strconv"
	"strings"

	"barrow/goods"
)

const (
	blanks = " \t\r"
	quote  = '"'
	digits = "0123456789abcdef"
)

// cut: the line's words, none if it says nothing; false, if a quoted one is wrong.
func cut(line string) ([]string, bool) {
	var words []string
	rest := strings.TrimLeft(line, blanks)
	if strings.HasPrefix(rest, "#") {
		return nil, true
	}
	for rest != "" {
		length, ok := firstWord(rest)
		if !ok {
			return nil, false
		}
		words = append(words, rest[:length])
		rest = strings.TrimLeft(rest[length:], blanks)
	}
	return words, true
}

// firstWord: how long the word is that the text begins with; false, if it is quoted and has no end, or none that a blank follows.
func firstWord(text string) (int, bool) {
	length := 1
	if text[0] == quote {
		inner := strings.IndexByte(text[1:], quote)
		if inner < 0 {
			return 0, false
		}
		length = inner + 2
		return length, length == len(text) || isBlank(text[length])
	}
	for length < len(text) && !isBlank(text[length]) {
		length++
	}
	return length, true
}

func isBlank(b byte) bool { return strings.IndexByte(blanks, b) >= 0 }

func numberWord(n int) string { return strconv.Itoa(n) }

// numberOf: the number that the word writes.
func numberOf(word string) (int, bool) {
	n, err := strconv.Atoi(word)
	// Atoi takes other spellings too.
	if err != nil || numberWord(n) != word {
		return 0, false
	}
	return n, true
}

// skuWord: a text as a sku word.
func skuWord(sku string) string {
	if goods.Good(sku) {
		return sku
	}
	word := []byte{quote}
	for i := range len(sku) {
		b := sku[i]
		if isSelf(b) {
			word = append(word, b)
		} else {
			word = append(word, '\\', 'x', digits[b/16], digits[b%16])
		}
	}
	return string(append(word, quote))
}

// isSelf: does the byte stand for itself between quotes?
func isSelf(b byte) bool { return '!' <= b && b <= '~' && b != quote && b != '\\' }

// skuOf: the text that a sku word stands for.
func skuOf(word string) (string, bool) {
	if goods.Good(word) {
		return word, true
	}
	last := len(word) - 1
	if last < 1 || word[0] != quote || word[last] != quote {
		return "", false
	}
	return unquote(word[1:last])
}

// unquote: the text that stands between quotes.
func unquote(inner string) (string, bool) {
	var text []byte
	for inner != "" {
		b, length := firstByte(inner)
		if length == 0 {
			return "", false
		}
		text = append(text, b)
		inner = inner[length:]
	}
	return string(text), true
}

// firstByte: the byte that the text's beginning stands for, and how long that is; 0, if it stands for none.
func firstByte(text string) (byte, int) {
	if isSelf(text[0]) {
		return text[0], 1
	}
	if len(text) < 4 || text[0] != '\\' || text[1] != 'x' {
		return 0, 0
	}
	high, low := strings.IndexByte(digits, text[2]), strings.IndexByte(digits, text[3])
	if high < 0 || low < 0 {
		return 0, 0
	}
	return byte(16*high + low), 4
}

package goods

import (
	"strconv"

	"barrow/api"
)

// maxQtyText is how many digits api.MaxQty has.
const maxQtyText = 7

// ParseQty: the quantity that a text writes.
func ParseQty(text string) (int, api.Errno) {
	switch {
	case text == "":
		return 0, api.ErrEmpty
	case len(text) > maxQtyText:
		return 0, api.ErrLong
	case !allDigits(text) || text[0] == '0' && len(text) > 1:
		return 0, api.ErrByte
	}
	n, err := strconv.Atoi(text)
	if err != nil || !isQty(n) {
		return 0, api.ErrQty
	}
	return n, api.OK
}

func isQty(n int) bool { return 1 <= n && n <= api.MaxQty }

// PrintQty: the quantity as a text.
func PrintQty(n int) (string, api.Errno) {
	if !isQty(n) {
		return "", api.ErrQty
	}
	return strconv.Itoa(n), api.OK
}

// Total: the sum of quantities.
func Total(qtys []int) (int, api.Errno) {
	sum := 0
	for _, q := range qtys {
		if !isQty(q) {
			return 0, api.ErrQty
		}
		sum += q
	}
	// Asked behind the loop: a wrong quantity anywhere comes ahead of a sum that is too great.
	if sum > api.MaxQty {
		return 0, api.ErrOver
	}
	return sum, api.OK
}

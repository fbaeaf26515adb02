package goods

import (
	"slices"
	"strings"

	"barrow/api"
)

// maxGtin is the longest article number, and the one that Widen makes.
const maxGtin = 14

// Digit: the check digit behind 7, 11, 12 or 13 digits.
func Digit(text string) (int, api.Errno) {
	if err := numberFault(text, [4]int{7, 11, 12, 13}); err != api.OK {
		return 0, err
	}
	return checkDigit(text), api.OK
}

// Gtin: 8, 12, 13 or 14, where the SKU is a GTIN of so many digits.
func Gtin(sku string) (int, api.Errno) {
	if err := numberFault(sku, [4]int{8, 12, 13, maxGtin}); err != api.OK {
		return 0, err
	}
	last := len(sku) - 1
	if checkDigit(sku[:last]) != int(sku[last]-'0') {
		return 0, api.ErrDigit
	}
	return len(sku), api.OK
}

// Widen: the GTIN in its 14 digits.
func Widen(sku string) (string, api.Errno) {
	n, err := Gtin(sku)
	if err != api.OK {
		return "", err
	}
	return strings.Repeat("0", maxGtin-n) + sku, api.OK
}

// numberFault: what keeps the text from being a number text of one of the lengths, which rise.
func numberFault(text string, lengths [4]int) api.Errno {
	switch {
	case text == "":
		return api.ErrEmpty
	case len(text) > lengths[len(lengths)-1]:
		return api.ErrLong
	case !slices.Contains(lengths[:], len(text)):
		return api.ErrArg
	case !allDigits(text):
		return api.ErrByte
	}
	return api.OK
}

// checkDigit is for number texts of at most 13 digits.
func checkDigit(digits string) int {
	// Counted from the last digit to the left, so that numbers of every length share them.
	weights := [maxGtin - 1]int{3, 1, 3, 1, 3, 1, 3, 1, 3, 1, 3, 1, 3}
	last := len(digits) - 1
	sum := 0
	for i := range len(digits) {
		sum += weights[i] * int(digits[last-i]-'0')
	}
	return (10 - sum%10) % 10
}

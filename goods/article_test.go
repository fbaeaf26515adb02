package goods_test

import (
	"math/rand/v2"
	"strconv"
	"strings"
	"testing"

	"barrow/api"
	"barrow/goods"
)

// numbers: number texts of that length, the same at every run of the tests.
func numbers(length int) []string {
	dice := rand.New(rand.NewPCG(2, uint64(length)))
	all := []string{strings.Repeat("0", length), strings.Repeat("9", length)}
	for i := range length {
		all = append(all, strings.Repeat("0", i)+"1"+strings.Repeat("0", length-1-i))
	}
	for range 40 {
		text := ""
		for range length {
			text += strconv.Itoa(dice.IntN(10))
		}
		all = append(all, text)
	}
	return all
}

// wantDigit finds the check digit by trying all ten.
func wantDigit(text string) int {
	sum, weight := 0, 3
	for i := len(text) - 1; i >= 0; i-- {
		sum += weight * int(text[i]-'0')
		weight = 4 - weight
	}
	for digit := range 10 {
		if (sum+digit)%10 == 0 {
			return digit
		}
	}
	return -1
}

func TestDigit(t *testing.T) { // P2.3
	for _, length := range []int{7, 11, 12, 13} {
		for _, text := range numbers(length) {
			if got, err := goods.Digit(text); got != wantDigit(text) || err != api.OK {
				t.Errorf("Digit(%q) = %d, %d, want %d", text, got, err, wantDigit(text))
			}
		}
	}
	for _, c := range []struct {
		text string
		want int
		err  api.Errno
	}{
		{"7351353", 7, api.OK}, {"00000000000", 0, api.OK}, {"0000001", 7, api.OK}, {"000001", 0, api.ErrArg}, {"12345678901234", 0, api.ErrLong}, {"123456A", 0, api.ErrByte},
		{"", 0, api.ErrEmpty}, {"A", 0, api.ErrArg}, {strings.Repeat("A", 13), 0, api.ErrByte}, {strings.Repeat("A", 14), 0, api.ErrLong}, {"-123456", 0, api.ErrByte},
		{"123456/", 0, api.ErrByte}, {":123456", 0, api.ErrByte}, {"12345 7", 0, api.ErrByte}, {"\xff\xff\xff\xff\xff\xff\xff", 0, api.ErrByte},
	} {
		if got, err := goods.Digit(c.text); got != c.want || err != c.err {
			t.Errorf("Digit(%q) = %d, %d, want %d, %d", c.text, got, err, c.want, c.err)
		}
	}
}

func TestDigitAndGtinTakeTheirLengthsAlone(t *testing.T) { // P2.3
	for n := range 20 {
		text := strings.Repeat("0", n)
		wantDigit, wantGtin := api.ErrArg, api.ErrArg
		switch n {
		case 7, 11, 12, 13:
			wantDigit = api.OK
		}
		switch n {
		case 8, 12, 13, 14:
			wantGtin = api.OK
		}
		if n == 0 {
			wantDigit, wantGtin = api.ErrEmpty, api.ErrEmpty
		}
		if n > 13 {
			wantDigit = api.ErrLong
		}
		if n > 14 {
			wantGtin = api.ErrLong
		}
		if _, err := goods.Digit(text); err != wantDigit {
			t.Errorf("Digit of %d digits: %d, want %d", n, err, wantDigit)
		}
		if _, err := goods.Gtin(text); err != wantGtin {
			t.Errorf("Gtin of %d digits: %d, want %d", n, err, wantGtin)
		}
	}
}

func TestGtinTakesTheCheckDigitAlone(t *testing.T) { // P2.3
	for _, length := range []int{7, 11, 12, 13} {
		for _, text := range numbers(length) {
			right := wantDigit(text)
			for digit := range 10 {
				sku := text + strconv.Itoa(digit)
				n, err := goods.Gtin(sku)
				if digit == right && (n != length+1 || err != api.OK) || digit != right && (n != 0 || err != api.ErrDigit) {
					t.Errorf("Gtin(%q) = %d, %d, where the digit is %d", sku, n, err, right)
				}
			}
		}
	}
}

func TestGtinFindsEveryChangedDigit(t *testing.T) { // P2.3
	for _, length := range []int{7, 11, 12, 13} {
		for _, text := range numbers(length) {
			sku := text + strconv.Itoa(wantDigit(text))
			for i := range length {
				for digit := range 10 {
					changed := sku[:i] + strconv.Itoa(digit) + sku[i+1:]
					if n, err := goods.Gtin(changed); changed != sku && (n != 0 || err != api.ErrDigit) {
						t.Errorf("Gtin(%q), made of %q = %d, %d", changed, sku, n, err)
					}
				}
			}
		}
	}
}

func TestWiden(t *testing.T) { // P2.3
	for _, length := range []int{7, 11, 12, 13} {
		for _, text := range numbers(length) {
			sku := text + strconv.Itoa(wantDigit(text))
			wide, err := goods.Widen(sku)
			if err != api.OK || len(wide) != 14 || strings.Repeat("0", 13-length)+sku != wide {
				t.Errorf("Widen(%q) = %q, %d", sku, wide, err)
			}
			if n, err := goods.Gtin(wide); n != 14 || err != api.OK {
				t.Errorf("Gtin(%q), widened, = %d, %d", wide, n, err)
			}
		}
	}
}

func TestGtinAndWidenRefuseAlike(t *testing.T) { // P2.3
	for _, c := range []struct {
		sku  string
		n    int
		wide string
		err  api.Errno
	}{
		{"73513537", 8, "00000073513537", api.OK}, {"73513536", 0, "", api.ErrDigit}, {"", 0, "", api.ErrEmpty}, {"7351353", 0, "", api.ErrArg}, {"735135370", 0, "", api.ErrArg},
		{"000000735135370", 0, "", api.ErrLong}, {strings.Repeat("A", 15), 0, "", api.ErrLong}, {"ABC", 0, "", api.ErrArg}, {"7351353A", 0, "", api.ErrByte}, {"A3513537", 0, "", api.ErrByte},
		{"7351353\xb7", 0, "", api.ErrByte}, {"73.13537", 0, "", api.ErrByte}, {"0000000A", 0, "", api.ErrByte}, {"0000000:", 0, "", api.ErrByte},
	} {
		if n, err := goods.Gtin(c.sku); n != c.n || err != c.err {
			t.Errorf("Gtin(%q) = %d, %d, want %d, %d", c.sku, n, err, c.n, c.err)
		}
		if wide, err := goods.Widen(c.sku); wide != c.wide || err != c.err {
			t.Errorf("Widen(%q) = %q, %d, want %q, %d", c.sku, wide, err, c.wide, c.err)
		}
	}
}

package goods_test

import (
	"math"
	"slices"
	"strconv"
	"strings"
	"testing"

	"barrow/api"
	"barrow/goods"
)

func TestQuantitiesAsTexts(t *testing.T) { // P2.6
	for n := 1; n <= api.MaxQty; n++ {
		text, err := goods.PrintQty(n)
		if err != api.OK || text != strconv.Itoa(n) {
			t.Fatalf("PrintQty(%d) = %q, %d", n, text, err)
		}
		if got, err := goods.ParseQty(text); got != n || err != api.OK {
			t.Fatalf("ParseQty(%q) = %d, %d", text, got, err)
		}
	}
	for _, n := range []int{math.MinInt, -1000000, -1, 0, api.MaxQty + 1, math.MaxInt} {
		if text, err := goods.PrintQty(n); text != "" || err != api.ErrQty {
			t.Errorf("PrintQty(%d) = %q, %d", n, text, err)
		}
	}
}

func TestParseQtyExamples(t *testing.T) { // P2.6
	for _, c := range []struct {
		text string
		want int
		err  api.Errno
	}{
		{"1000000", 1000000, api.OK}, {"0", 0, api.ErrQty}, {"01", 0, api.ErrByte}, {"9999999", 0, api.ErrQty}, {"12345678", 0, api.ErrLong}, {"+1", 0, api.ErrByte},
		{"", 0, api.ErrEmpty}, {"00", 0, api.ErrByte}, {"1000001", 0, api.ErrQty}, {"-1", 0, api.ErrByte}, {" 1", 0, api.ErrByte}, {"1 ", 0, api.ErrByte}, {"1_0", 0, api.ErrByte},
		{"0000000", 0, api.ErrByte}, {"00000000", 0, api.ErrLong}, {"abcdefgh", 0, api.ErrLong}, {"abcdefg", 0, api.ErrByte}, {"/", 0, api.ErrByte}, {":", 0, api.ErrByte}, {"1\x00", 0, api.ErrByte},
		{"0x1", 0, api.ErrByte}, {"\xff", 0, api.ErrByte}, {strings.Repeat("9", 400), 0, api.ErrLong}, {"999999", 999999, api.OK}, {"1", 1, api.OK},
	} {
		if got, err := goods.ParseQty(c.text); got != c.want || err != c.err {
			t.Errorf("ParseQty(%q) = %d, %d, want %d, %d", c.text, got, err, c.want, c.err)
		}
	}
}

func TestPrintOfParseIsTheText(t *testing.T) { // P2.6
	taken := 0
	for _, text := range texts(5, "0", "1", "9", "+", "a", " ") {
		n, err := goods.ParseQty(text)
		if err != api.OK {
			continue
		}
		taken++
		if got, err := goods.PrintQty(n); got != text || err != api.OK {
			t.Errorf("PrintQty(ParseQty(%q)) = %q, %d", text, got, err)
		}
	}
	if taken == 0 {
		t.Errorf("no text was taken")
	}
}

func TestTotal(t *testing.T) { // P2.6
	for _, c := range []struct {
		list []int
		want int
		err  api.Errno
	}{
		{nil, 0, api.OK}, {[]int{}, 0, api.OK}, {[]int{1}, 1, api.OK}, {[]int{2, 3, 5}, 10, api.OK}, {[]int{400000, 600000}, 1000000, api.OK}, {[]int{400000, 600000, 1}, 0, api.ErrOver},
		{[]int{1000000, 1000000, 0}, 0, api.ErrQty}, {[]int{1000000}, 1000000, api.OK}, {[]int{1000001}, 0, api.ErrQty}, {[]int{0}, 0, api.ErrQty}, {[]int{-1, 5}, 0, api.ErrQty},
		{[]int{math.MaxInt, math.MaxInt}, 0, api.ErrQty}, {[]int{5, math.MinInt}, 0, api.ErrQty}, {[]int{1000000, 1000000, 1000001}, 0, api.ErrQty},
		{slices.Repeat([]int{1}, 1000000), 1000000, api.OK}, {slices.Repeat([]int{1}, 1000001), 0, api.ErrOver}, {slices.Repeat([]int{1000000}, 100000), 0, api.ErrOver},
	} {
		if got, err := goods.Total(c.list); got != c.want || err != c.err {
			t.Errorf("Total of %d numbers = %d, %d, want %d, %d", len(c.list), got, err, c.want, c.err)
		}
	}
}

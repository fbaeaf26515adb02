package goods_test

import (
	"cmp"
	"math/big"
	"regexp"
	"slices"
	"strings"
	"testing"

	"barrow/goods"
)

var pieceForm = regexp.MustCompile(`(?s)[0-9]+|.`)

// wantCompare is the chapter's order over cut pieces and great numbers; for texts of single-byte characters.
func wantCompare(a, b string) int {
	x, y := pieceForm.FindAllString(a, -1), pieceForm.FindAllString(b, -1)
	for i := range min(len(x), len(y)) {
		m, isM := new(big.Int).SetString(x[i], 10)
		n, isN := new(big.Int).SetString(y[i], 10)
		c := cmp.Compare(x[i][0], y[i][0])
		if isM && isN {
			c = m.Cmp(n)
		}
		if c != 0 {
			return c
		}
	}
	if len(x) != len(y) {
		return cmp.Compare(len(x), len(y))
	}
	return strings.Compare(a, b)
}

func TestCompare(t *testing.T) { // P2.5
	all := texts(3, "0", "1", "9", "/", ":", "A", "00", "10")
	for _, a := range all {
		for _, b := range all {
			if got, want := goods.Compare(a, b), wantCompare(a, b); got != want {
				t.Fatalf("Compare(%q, %q) = %d, want %d", a, b, got, want)
			}
		}
	}
	for b := range 256 {
		one := string([]byte{byte(b)})
		want := cmp.Compare(b, '5')
		if got := goods.Compare(one, "5"); got != want {
			t.Errorf("Compare(%q, 5) = %d, want %d", one, got, want)
		}
		if got := goods.Compare("A"+one+"B", "A"+one+"B"); got != 0 {
			t.Errorf("Compare of A%qB with itself = %d", one, got)
		}
	}
}

func TestCompareExamples(t *testing.T) { // P2.5
	great := "1" + strings.Repeat("0", 3000)
	for _, c := range []struct {
		a, b string
		want int
	}{
		{"A2", "A10", -1}, {"A02", "A2", -1}, {"A-1", "A1", -1}, {"A", "A0", -1}, {"7", "A", -1}, {"B", "A100", 1}, {"", "", 0}, {"", "A", -1}, {"", "\x00", -1},
		{great, great + "0", -1}, {great, strings.Repeat("9", 3000), 1}, {"0" + great, great, -1}, {"18446744073709551617", "2", 1}, {"9223372036854775808", "9223372036854775807", 1},
		{"0A1", "00A0", 1}, {"1A02", "01A2", 1}, {"01A2", "1A02", -1}, {"0", "00", -1}, {"000", "00", 1}, {"A0", "A-", 1}, {"A0", "A:", -1}, {"a", "A", 1}, {"\xff", "\xfe", 1}, {"\xff", "9", 1}, {"\x80", "\x7f", 1},
		{"01", "1A", -1}, {"1", "01A", -1}, {"A1B", "A1", 1}, {"A001", "A01", -1},
	} {
		if got := goods.Compare(c.a, c.b); got != c.want {
			t.Errorf("Compare(%.40q, %.40q) = %d, want %d", c.a, c.b, got, c.want)
		}
		if got := goods.Compare(c.b, c.a); got != -c.want {
			t.Errorf("Compare(%.40q, %.40q) = %d, want %d", c.b, c.a, got, -c.want)
		}
	}
}

// In a list in which every pair stands as its places do, the order is total and what is ahead of something is ahead of all behind that.
func TestCompareIsATotalOrder(t *testing.T) { // P2.5
	all := texts(3, "0", "1", "12", "A", "-", ".", "\xe9", "\x00")
	all = goods.Sort(all)
	for i, a := range all {
		for j, b := range all {
			if got, want := goods.Compare(a, b), cmp.Compare(i, j); got != want {
				t.Fatalf("Compare(%q, %q) = %d, and their places are %d and %d", a, b, got, i, j)
			}
		}
	}
}

func TestSort(t *testing.T) { // P2.5
	for _, c := range []struct{ list, want []string }{
		{nil, nil}, {[]string{}, nil}, {[]string{""}, []string{""}}, {[]string{"A10", "A2", "A10", "A02"}, []string{"A02", "A2", "A10"}},
		{[]string{"B", "B", "B"}, []string{"B"}}, {[]string{"\xff", "a", "", "a", "Z", ""}, []string{"", "Z", "a", "\xff"}}, {[]string{"1", "01", "001", "1", "01"}, []string{"001", "01", "1"}},
	} {
		if got := goods.Sort(c.list); !slices.Equal(got, c.want) {
			t.Errorf("Sort(%q) = %q, want %q", c.list, got, c.want)
		}
	}
}

func TestSortLeavesItsList(t *testing.T) { // R7
	for _, list := range [][]string{{}, {"B"}, {"B", "A", "B", "A"}, {"A", "B", "C"}} {
		room := slices.Concat(list, []string{"spare", "room"})
		want := slices.Clone(room)
		got, again := goods.Sort(room[:len(list)]), goods.Sort(room[:len(list)])
		keep := slices.Clone(again)
		for i := range got[:cap(got)] {
			got[:cap(got)][i] = "written"
		}
		if !slices.Equal(room, want) || !slices.Equal(again, keep) {
			t.Errorf("behind Sort and writes into its answer the list is %q, want %q, another answer %q, want %q", room, want, again, keep)
		}
	}
}

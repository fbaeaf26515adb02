package goods_test

import (
	"strings"
	"testing"

	"barrow/api"
	"barrow/goods"
)

// wantMeet tries all cuts.
func wantMeet(pattern, sku string) bool {
	if pattern == "" {
		return sku == ""
	}
	if pattern[0] == '*' {
		for n := 0; n <= len(sku); n++ {
			if wantMeet(pattern[1:], sku[n:]) {
				return true
			}
		}
		return false
	}
	if sku == "" {
		return false
	}
	fits := pattern[0] == sku[0]
	switch pattern[0] {
	case '?':
		fits = true
	case '#':
		fits = '0' <= sku[0] && sku[0] <= '9'
	case '@':
		fits = 'A' <= sku[0] && sku[0] <= 'Z'
	}
	return fits && wantMeet(pattern[1:], sku[1:])
}

func TestMatch(t *testing.T) { // P2.4
	patterns := texts(4, "A", "1", "-", "*", "?", "#", "@")
	for _, sku := range texts(4, "A", "B", "1", "2", "-", ".") {
		if !goods.Good(sku) {
			continue
		}
		for _, pattern := range patterns {
			if got, err := goods.Match(pattern, sku); got != wantMeet(pattern, sku) || err != api.OK {
				t.Fatalf("Match(%q, %q) = %v, %d", pattern, sku, got, err)
			}
		}
	}
}

func TestMatchByteByByte(t *testing.T) { // P2.4
	for b := range 256 {
		one := string([]byte{byte(b)})
		known := strings.Contains("ABCDEFGHIJKLMNOPQRSTUVWXYZ0123456789-.*?#@", one)
		for _, sku := range []string{"A", "Z", "0", "9", "M-5"} {
			for _, pattern := range []string{one, "?" + one + "?", "*" + one} {
				want, wantErr := wantMeet(pattern, sku), api.OK
				if !known {
					want, wantErr = false, api.ErrByte
				}
				if got, err := goods.Match(pattern, sku); got != want || err != wantErr {
					t.Errorf("Match(%q, %q) = %v, %d, want %v, %d", pattern, sku, got, err, want, wantErr)
				}
			}
		}
	}
}

func TestMatchEdges(t *testing.T) { // P2.4
	long := strings.Repeat("A", 24)
	for _, c := range []struct {
		pattern, sku string
		want         bool
		err          api.Errno
	}{
		{"A*-##", "AX-12", true, api.OK}, {"A*-##", "A-1", false, api.OK}, {"@?*", "AB", true, api.OK}, {"", "A", false, api.OK}, {"*", "A-", false, api.ErrSku}, {"a", "A", false, api.ErrByte},
		{strings.Repeat("*", 48), "A", true, api.OK}, {strings.Repeat("*", 49), "A", false, api.ErrLong}, {strings.Repeat("a", 49), "-", false, api.ErrLong}, {"a", "-", false, api.ErrByte},
		{"**--..", "A", false, api.OK}, {"**--..", "A-", false, api.ErrSku}, {"", "", false, api.ErrSku}, {"*", "", false, api.ErrSku}, {"*", long, true, api.OK}, {"*", long + "A", false, api.ErrSku},
		{strings.Repeat("*?", 24), long, true, api.OK}, {strings.Repeat("?", 25), long, false, api.OK}, {strings.Repeat("?", 24), long, true, api.OK}, {strings.Repeat("?", 23), long, false, api.OK},
		{strings.Repeat("*A", 24), long, true, api.OK}, {strings.Repeat("*A", 23) + "*B", long, false, api.OK}, {"*A*B*", "CAXBD", true, api.OK}, {"*A*B*", "CBXAD", false, api.OK},
		{"#", "A", false, api.OK}, {"@", "7", false, api.OK}, {"?-?", "A-1", true, api.OK}, {"???", "A-1", true, api.OK}, {"A.1", "A-1", false, api.OK}, {"*", "a", false, api.ErrSku},
	} {
		if got, err := goods.Match(c.pattern, c.sku); got != c.want || err != c.err {
			t.Errorf("Match(%q, %q) = %v, %d, want %v, %d", c.pattern, c.sku, got, err, c.want, c.err)
		}
	}
}

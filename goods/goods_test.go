package goods_test

import (
	"regexp"
	"slices"
	"strings"
	"testing"

	"barrow/api"
	"barrow/goods"
)

// texts: all texts of at most so many of the pieces.
func texts(most int, pieces ...string) []string {
	all, last := []string{""}, []string{""}
	for range most {
		var longer []string
		for _, text := range last {
			for _, piece := range pieces {
				longer = append(longer, text+piece)
			}
		}
		all, last = append(all, longer...), longer
	}
	return all
}

// skuForm is the chapter's SKU, but for its length.
var skuForm = regexp.MustCompile(`^[A-Z0-9]+([-.][A-Z0-9]+)*$`)

// wantCheck is the chapter's Check, word by word.
func wantCheck(sku string) (int, api.Errno) {
	if len(sku) == 0 {
		return 0, api.ErrEmpty
	}
	if len(sku) > 24 {
		return 0, api.ErrLong
	}
	for place, b := range []byte(sku) {
		known := strings.IndexByte("ABCDEFGHIJKLMNOPQRSTUVWXYZ0123456789-.", b) >= 0
		behind := place > 0 && (sku[place-1] == '-' || sku[place-1] == '.')
		mark := b == '-' || b == '.'
		if !known || mark && (place == 0 || behind || place == len(sku)-1) {
			return place, api.ErrByte
		}
	}
	return 0, api.OK
}

func TestCheckAndGood(t *testing.T) { // P2.1
	ask := func(sku string) {
		at, err := wantCheck(sku)
		if gotAt, got := goods.Check(sku); gotAt != at || got != err {
			t.Errorf("Check(%q) = %d, %d, want %d, %d", sku, gotAt, got, at, err)
		}
		good := len(sku) <= 24 && skuForm.MatchString(sku)
		if got := goods.Good(sku); got != good {
			t.Errorf("Good(%q) = %v, want %v", sku, got, good)
		}
	}
	for _, sku := range texts(5, "A", "7", "-", ".", "a", "\xff", "_") {
		ask(sku)
	}
	for b := range 256 {
		one := string([]byte{byte(b)})
		for _, sku := range []string{one, "A" + one, one + "A", "A" + one + "A", "A" + one + one + "A"} {
			ask(sku)
		}
	}
	for n := range 60 {
		ask(strings.Repeat("Z", n))
		ask(strings.Repeat("Z", n) + "-")
		ask(strings.Repeat("-", n))
		ask(strings.Repeat("Z-", n/2) + "Z")
	}
}

func TestCheckExamples(t *testing.T) { // P2.1
	for _, c := range []struct {
		sku string
		at  int
		err api.Errno
	}{
		{"AB-12", 0, api.OK}, {"", 0, api.ErrEmpty}, {"-A", 0, api.ErrByte}, {"A-.B", 2, api.ErrByte}, {"A-", 1, api.ErrByte}, {"ab", 0, api.ErrByte},
		{"A B", 1, api.ErrByte}, {strings.Repeat("Q", 24), 0, api.OK}, {strings.Repeat("Q", 25), 0, api.ErrLong}, {"@", 0, api.ErrByte}, {"A[", 1, api.ErrByte},
		{"A/", 1, api.ErrByte}, {"A:", 1, api.ErrByte}, {"AA,", 2, api.ErrByte}, {strings.Repeat("-", 25), 0, api.ErrLong}, {"A-B.C-D", 0, api.OK}, {"A--.B", 2, api.ErrByte},
	} {
		if at, err := goods.Check(c.sku); at != c.at || err != c.err {
			t.Errorf("Check(%q) = %d, %d, want %d, %d", c.sku, at, err, c.at, c.err)
		}
	}
}

var markRun = regexp.MustCompile(`[ \t_/.-]+`)

// wantClean is the chapter's Clean, step by step.
func wantClean(text string) (string, api.Errno) {
	if len(text) > 96 {
		return "", api.ErrLong
	}
	if slices.ContainsFunc([]byte(text), func(b byte) bool { return b >= 128 }) {
		return "", api.ErrByte
	}
	out := markRun.ReplaceAllStringFunc(strings.ToUpper(text), func(run string) string {
		if strings.Contains(run, ".") {
			return "."
		}
		return "-"
	})
	if strings.HasPrefix(out, "-") || strings.HasPrefix(out, ".") {
		out = out[1:]
	}
	if strings.HasSuffix(out, "-") || strings.HasSuffix(out, ".") {
		out = out[:len(out)-1]
	}
	if _, err := wantCheck(out); err != api.OK {
		return "", err
	}
	return out, api.OK
}

func askClean(t *testing.T, text string) {
	t.Helper()
	want, err := wantClean(text)
	if got, gotErr := goods.Clean(text); got != want || gotErr != err {
		t.Errorf("Clean(%q) = %q, %d, want %q, %d", text, got, gotErr, want, err)
	}
}

func TestClean(t *testing.T) { // P2.2
	for _, text := range texts(5, "a", "Z", "7", " ", "_", ".", "+", "\xc3") {
		askClean(t, text)
	}
	for _, text := range texts(4, "b", " ", "\t", "_", "/", "-", ".", "\xa9", "é") {
		askClean(t, text)
	}
	for b := range 256 {
		one := string([]byte{byte(b)})
		for _, text := range []string{one, "a" + one, one + "a", "a" + one + "a", "a." + one + "a", "a" + one + ".a"} {
			askClean(t, text)
		}
	}
	for n := range 100 {
		for _, piece := range []string{" ", "a", ".", "\xff", "+"} {
			askClean(t, strings.Repeat(piece, n))
			askClean(t, "a"+strings.Repeat(piece, n))
		}
		askClean(t, strings.Repeat("a ", n/2))
		askClean(t, strings.Repeat("a", n)+"\u0080")
		askClean(t, strings.Repeat("a", n)+"\x80")
	}
}

func TestCleanOfASkuIsThatSku(t *testing.T) { // P2.2
	for _, sku := range texts(6, "A", "0", "-", ".") {
		if got, err := goods.Clean(sku); goods.Good(sku) && (got != sku || err != api.OK) {
			t.Errorf("Clean(%q) = %q, %d", sku, got, err)
		}
	}
	for _, text := range texts(4, "q", "Q", "9", "-", ".", "/", "\t") {
		if got, err := goods.Clean(text); err == api.OK && !goods.Good(got) {
			t.Errorf("Clean(%q) = %q, which is no SKU", text, got)
		}
	}
}

func TestCleanExamples(t *testing.T) { // P2.2
	for _, c := range []struct {
		text, want string
		err        api.Errno
	}{
		{" ab_ 12 . x ", "AB-12.X", api.OK}, {"--", "", api.ErrEmpty}, {"a+b", "", api.ErrByte}, {"a\xc3\xa9", "", api.ErrByte}, {"", "", api.ErrEmpty},
		{"a\xffb", "", api.ErrByte}, {"a\x80", "", api.ErrByte}, {"\x7f", "", api.ErrByte}, {strings.Repeat("\xff", 97), "", api.ErrLong}, {strings.Repeat("\xff", 96), "", api.ErrByte},
		{"x\u212a", "", api.ErrByte}, {"x\u017f", "", api.ErrByte}, // letters of which a capital is an A .. Z
		{strings.Repeat(" ", 72) + strings.Repeat("a", 24), strings.Repeat("A", 24), api.OK}, {strings.Repeat("a", 25), "", api.ErrLong},
		{"+" + strings.Repeat("a", 24), "", api.ErrLong}, {"a-_./b", "A.B", api.OK}, {"./_-", "", api.ErrEmpty}, {"z{", "", api.ErrByte}, {"`", "", api.ErrByte},
	} {
		if got, err := goods.Clean(c.text); got != c.want || err != c.err {
			t.Errorf("Clean(%q) = %q, %d, want %q, %d", c.text, got, err, c.want, c.err)
		}
	}
}

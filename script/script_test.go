package script_test

import (
	"math/rand/v2"
	"slices"
	"strings"
	"testing"

	"barrow/api"
	"barrow/script"
)

// allPlain: the script with each op plain.
func allPlain(s api.Script) api.Script {
	s.Ops = slices.Clone(s.Ops)
	for i, o := range s.Ops {
		s.Ops[i] = plain(o)
	}
	return s
}

func TestPrint(t *testing.T) { // P24.3
	for _, s := range scripts(500) {
		got := script.Print(s)
		if want := printedScript(s); got != want {
			t.Errorf("Print(%v) = %q, want %q", s, got, want)
		}
		lines := strings.Split(strings.TrimSuffix(got, "\n"), "\n")
		if len(lines) != 1+len(s.Ops) {
			t.Fatalf("Print(%v) has %d lines", s, len(lines))
		}
		for i, o := range s.Ops {
			if lines[i+1] != script.PrintOp(o) {
				t.Errorf("Print(%v) has the line %q for %v", s, lines[i+1], o)
			}
		}
	}
}

func parsesTo(t *testing.T, text string, want api.Script) {
	t.Helper()
	if got, n, err := script.Parse(text); !same(got, want) || n != 0 || err != api.OK {
		t.Errorf("Parse(%q) = %v, %d, %d, want %v", text, got, n, err, want)
	}
}

func TestScriptsThereAndBack(t *testing.T) { // P24.4
	for _, s := range scripts(500) {
		text := script.Print(s)
		parsesTo(t, text, allPlain(s))
		parsesTo(t, strings.TrimSuffix(text, "\n"), allPlain(s))
	}
}

func checkParse(t *testing.T, text string) {
	t.Helper()
	want, wantN, wantErr := parsed(text)
	if got, n, err := script.Parse(text); !same(got, want) || n != wantN || err != wantErr {
		t.Errorf("Parse(%q) = %v, %d, %d, want %v, %d, %d", text, got, n, err, want, wantN, wantErr)
	}
}

// loose: the text's lines with other blanks between and around their words, and lines between that say nothing.
func loose(dice *rand.Rand, text string) string {
	pick := func(list ...string) string { return list[dice.IntN(len(list))] }
	var out strings.Builder
	for line := range strings.Lines(text) {
		for range dice.IntN(3) {
			out.WriteString(pick("\n", " \n", "\t\r\n", "#\n", "# \"x\n", " #\" a\"b\n", "#store 1\n", "\r#\x00\xff\n"))
		}
		out.WriteString(pick("", " ", "\t", "\r", " \t\r "))
		line = strings.TrimSuffix(line, "\n")
		for i, word := range strings.Split(line, " ") {
			if i > 0 {
				out.WriteString(pick(" ", "  ", "\t", "\r", " \r\t"))
			}
			out.WriteString(word)
		}
		out.WriteString(pick("", " ", "\t", "\r", " \t\r ") + "\n")
	}
	return out.String() + pick("", "\n\n", "# the end", "  ")
}

func TestBlanksAndRemarksChangeNothing(t *testing.T) { // P24.4
	dice := newDice()
	for _, s := range scripts(300) {
		parsesTo(t, loose(dice, script.Print(s)), allPlain(s))
	}
}

// spelled: the text as a quoted sku word, each byte as the dice choose.
func spelled(dice *rand.Rand, sku string) string {
	const digits = "0123456789abcdef"
	word := []byte{'"'}
	for i := range len(sku) {
		if c := sku[i]; c < 33 || c > 126 || c == '"' || c == '\\' || dice.IntN(2) == 0 {
			word = append(word, '\\', 'x', digits[c>>4], digits[c&15])
		} else {
			word = append(word, c)
		}
	}
	return string(append(word, '"'))
}

func TestAnotherSpellingOfASkuChangesNothing(t *testing.T) { // P24.4
	dice := newDice()
	for _, sku := range skus() {
		want := api.Script{Ops: []api.Op{{Kind: api.OpRemove, Sku: sku}, {Kind: api.OpRemoveTo, Rep: 1, Sku: sku, Num: 2}}}
		for range 4 {
			parsesTo(t, "store 0 0 0 0 0 0\nremove 0 0 "+spelled(dice, sku)+"\nremoveto 1 "+spelled(dice, sku)+" 2", want)
		}
	}
}

func TestParse(t *testing.T) { // P24.4
	dice := newDice()
	marks := []byte(" \t\r\n\n\"\\#x01-A\x00\xff")
	taken := 0
	all := scripts(400)
	for _, s := range all {
		text := []byte(loose(dice, printedScript(s)))
		for range 8 {
			at, c := dice.IntN(len(text)), marks[dice.IntN(len(marks))]
			for _, near := range [][]byte{slices.Replace(slices.Clone(text), at, at+1, c), slices.Delete(slices.Clone(text), at, at+1), slices.Insert(slices.Clone(text), at, c)} {
				checkParse(t, string(near))
				if _, _, err := script.Parse(string(near)); err == api.OK {
					taken++
				}
			}
		}
	}
	if most := len(all) * 24; taken < most/20 || taken > most*19/20 {
		t.Errorf("Parse takes %d of %d that are or nearly are scripts", taken, most)
	}
}

// Each line in turn is wrong: the first wrong one is told, whatever stands behind it.
func TestWhichLineIsWrong(t *testing.T) { // P24.4
	good := []string{"# my carts", "", "store 2 1 10 100 4 8", "read 1 0", "  ", "set 0 0 A 5", "# \"", "remove 0 0 \"a\"", "op 99"}
	for at := range good {
		for _, bad := range []string{"raed 1 0", "\"", "store 2 1 10 100 4", "store 2 1 10 100 4 8 #", "A #", "read 0", "op 5"} {
			lines := slices.Clone(good)
			lines[at] = bad
			for behind := at + 1; behind <= len(lines); behind++ {
				mine := slices.Clone(lines)
				for i := behind; i < len(mine); i++ {
					mine[i] = bad
				}
				for _, end := range []string{"", "\n", "\r\n"} {
					text := strings.Join(mine, "\n") + end
					if got, n, err := script.Parse(text); !same(got, api.Script{}) || n != at+1 || err != api.ErrText {
						t.Errorf("Parse(%q) = %v, %d, %d, want line %d", text, got, n, err, at+1)
					}
				}
			}
		}
	}
}

// All texts of a few pieces: heads, steps, lines that say nothing, wrong ones, line ends.
func TestEveryOrderOfPieces(t *testing.T) { // P24.4
	pieces := []string{"\n", "store 1 2 3 4 5 6", "read 1 0", "#", " ", "\"", "x", "store 1"}
	all, from := []string{""}, 0
	for range 5 {
		till := len(all)
		for _, text := range all[from:till] {
			for _, piece := range pieces {
				all = append(all, text+piece)
			}
		}
		from = till
	}
	for _, text := range all {
		checkParse(t, text)
	}
}

func TestExamples(t *testing.T) { // P24.3, P24.4
	head := api.Header{Reps: 2, Carts: 1, Lines: 10, Count: 100, Log: 4, Tokens: 8}
	parsesTo(t, "store 2 1 10 100 4 8\nread 1 0\n", api.Script{Head: head, Ops: []api.Op{{Kind: 7, Rep: 1, Cart: 0}}})
	parsesTo(t, "store 2 1 10 100 4 8", api.Script{Head: head})
	parsesTo(t, "store -1 0 9223372036854775807 -9223372036854775808 4 8", api.Script{Head: api.Header{Reps: -1, Lines: 1<<63 - 1, Count: -1 << 63, Log: 4, Tokens: 8}})
	if got := script.Print(api.Script{}); got != "store 0 0 0 0 0 0\n" {
		t.Errorf("Print of the zero script = %q", got)
	}
	for _, c := range []struct {
		text string
		line int
	}{
		{"", 1}, {"\n", 2}, {"# x", 2}, {"# my carts\n\nstore 2 1 10 100 4 8\nraed 1 0", 4}, {"read 1 0", 1}, {"store 2 1 10 100 4", 1},
		// No line says anything.
		{"\n\n", 3}, {" ", 2}, {"\r\n\t\n ", 4}, {"# x\n# y\n", 3}, {"# x\n# y", 3},
		// No head.
		{"\n\n\"store\" 2 1 10 100 4 8", 3}, {"STORE 2 1 10 100 4 8", 1}, {"store", 1}, {"store 2 1 10 100 4 8 9", 1}, {"store 2 1 10 100 4 08", 1}, {"store 2 1 10 100 4 A", 1}, {"store 2 1 10 100 4 9223372036854775808", 1}, {"store\n2 1 10 100 4 8", 1}, {"store 2 1 10 100 4 8\"", 1}, {"\ufeffstore 2 1 10 100 4 8", 1},
		// A second head, and steps over two lines.
		{"store 2 1 10 100 4 8\nstore 2 1 10 100 4 8", 2}, {"store 2 1 10 100 4 8\nread 1\n0", 2}, {"store 2 1 10 100 4 8\nremove 0 0 \"a\nb\"", 2}, {"store 2 1 10 100 4 8\n\nread 1 0 # x", 3}, {"store 2 1 10 100 4 8\nread 1 0\x00", 2}, {"store 2 1 10 100 4 8\n\x00", 2}, {"store 2 1 10 100 4 8\nread 1 0\v", 2},
	} {
		if got, n, err := script.Parse(c.text); !same(got, api.Script{}) || n != c.line || err != api.ErrText {
			t.Errorf("Parse(%q) = %v, %d, %d, want line %d", c.text, got, n, err, c.line)
		}
	}
}

func TestLongScripts(t *testing.T) { // P24.3, P24.4
	dice, texts := newDice(), skus()
	var s api.Script
	for range 100000 {
		s.Ops = append(s.Ops, plain(thrownOp(dice, texts)))
	}
	text := script.Print(s)
	if got, n, err := script.Parse(text); !same(got, s) || n != 0 || err != api.OK {
		t.Errorf("Parse of Print of a long script: %d, %d", n, err)
	}
	if _, n, err := script.Parse(text + "wrong"); n != 100002 || err != api.ErrText {
		t.Errorf("Parse of a long script with a wrong end: %d, %d", n, err)
	}
	long := api.Script{Ops: []api.Op{{Kind: api.OpRemove, Sku: strings.Repeat("\x00a", 1<<20)}}}
	parsed, n, err := script.Parse(script.Print(long))
	if !same(parsed, long) || n != 0 || err != api.OK {
		t.Errorf("Parse of Print of a long text: %d, %d", n, err)
	}
	for _, piece := range []string{"\n", "#", "\"", "A ", " ", "\"\" "} {
		text := strings.Repeat(piece, 1<<20)
		if got, _, err := script.Parse(text); !same(got, api.Script{}) || err != api.ErrText {
			t.Errorf("Parse of very many %q: %d", piece, err)
		}
	}
}

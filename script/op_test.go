package script_test

import (
	"fmt"
	"slices"
	"strings"
	"testing"

	"barrow/api"
	"barrow/script"
)

func TestPlain(t *testing.T) { // P24.1
	for _, o := range ops(2000) {
		got := script.Plain(o)
		if want := plain(o); got != want {
			t.Errorf("Plain(%v) = %v, want %v", o, got, want)
		}
		if again := script.Plain(got); again != got {
			t.Errorf("Plain of %v, which is plain, is %v", got, again)
		}
	}
}

func TestPrintOp(t *testing.T) { // P24.1
	for _, o := range ops(2000) {
		want := printed(o)
		if got := script.PrintOp(o); got != want {
			t.Errorf("PrintOp(%v) = %q, want %q", o, got, want)
		}
		if got := script.PrintOp(plain(o)); got != want {
			t.Errorf("PrintOp of %v made plain = %q, want %q", o, got, want)
		}
	}
}

func TestUnlikeOpsHaveUnlikeLines(t *testing.T) { // P24.1
	ofLine := map[string]api.Op{}
	for _, o := range ops(5000) {
		o = plain(o)
		line := script.PrintOp(o)
		if other, found := ofLine[line]; found && other != o {
			t.Errorf("%v and %v have the line %q", o, other, line)
		}
		ofLine[line] = o
	}
}

func TestOpsThereAndBack(t *testing.T) { // P24.2
	for _, o := range ops(2000) {
		line := script.PrintOp(o)
		if got, err := script.ParseOp(line); got != plain(o) || err != api.OK {
			t.Errorf("ParseOp(%q) = %v, %d, want %v", line, got, err, plain(o))
		}
	}
}

// checkLines: how many of the lines are taken?
func checkLines(t *testing.T, lines []string) int {
	t.Helper()
	taken := 0
	for _, line := range lines {
		want, wantErr := parsedOp(line)
		got, err := script.ParseOp(line)
		if got != want || err != wantErr {
			t.Errorf("ParseOp(%q) = %v, %d, want %v, %d", line, got, err, want, wantErr)
		}
		if err == api.OK {
			taken++
		}
	}
	return taken
}

// nearLines: lines of ops, and what is nearly one: a byte changed, left out or put in, a word left out, doubled or from another line.
func nearLines() []string {
	dice := newDice()
	list := ops(300)
	marks := []byte(" \t\r\n\"\\#x0159-+.aAZ\x00\x7f\x80\xff")
	var all []string
	for _, o := range list {
		line := []byte(printed(o))
		all = append(all, string(line))
		for range 4 {
			at, c := dice.IntN(len(line)), marks[dice.IntN(len(marks))]
			all = append(all, string(slices.Replace(slices.Clone(line), at, at+1, c)), string(slices.Delete(slices.Clone(line), at, at+1)), string(slices.Insert(slices.Clone(line), at, c)))
		}
		mine, other := strings.Split(string(line), " "), strings.Split(printed(list[dice.IntN(len(list))]), " ")
		at := dice.IntN(len(mine))
		for _, changed := range [][]string{slices.Delete(slices.Clone(mine), at, at+1), slices.Insert(slices.Clone(mine), at, mine[at]), slices.Insert(slices.Clone(mine), at, other[at%len(other)]), slices.Replace(slices.Clone(mine), at, at+1, other[at%len(other)])} {
			all = append(all, strings.Join(changed, " "))
		}
		all = append(all, strings.ToUpper(string(line)), string(line)+"\n", "\n"+string(line), string(line)+" #", "#"+string(line))
	}
	return all
}

func TestParseOp(t *testing.T) { // P24.2
	lines := nearLines()
	if taken := checkLines(t, lines); taken < len(lines)/20 || taken > len(lines)*3/4 {
		t.Errorf("ParseOp takes %d of %d that are or nearly are lines of ops", taken, len(lines))
	}
}

// every: all texts up to this length that are made of these bytes.
func every(letters string, length int) []string {
	all, from := []string{""}, 0
	for range length {
		till := len(all)
		for _, text := range all[from:till] {
			for i := range len(letters) {
				all = append(all, text+letters[i:i+1])
			}
		}
		from = till
	}
	return all
}

// within: the line with each of the texts in the place of %s.
func within(line string, texts []string) []string {
	var all []string
	for _, text := range texts {
		all = append(all, fmt.Sprintf(line, text))
	}
	return all
}

func TestEveryShortNumberWord(t *testing.T) { // P24.2
	texts := every("-019+_ .x\xd9", 4)
	if taken := checkLines(t, within("read 3 %s", texts)); taken < 100 {
		t.Errorf("ParseOp takes %d numbers", taken)
	}
	checkLines(t, within("%s 3 4", texts))
	checkLines(t, within("op %s", every("-01678", 4)))
}

func TestEveryShortSkuWord(t *testing.T) { // P24.2
	for _, line := range []string{"remove 0 0 %s", "removeto 0 %s 1"} {
		if taken := checkLines(t, within(line, every("\"A-x \\#", 5))); taken < 100 {
			t.Errorf("ParseOp takes %d sku words in %q", taken, line)
		}
		checkLines(t, within(line, within("\"\\%s\"", every("x4aAfFgG\"", 4))))
	}
	for c := range 256 {
		one := string([]byte{byte(c)})
		checkLines(t, within("remove 0 0 %s", []string{one, "A" + one, one + "A", "A" + one + "A", `"` + one + `"`, `"A"` + one, one + `"A"`, `"\` + one + `41"`, `"\x` + one + `1"`, `"\x4` + one + `"`, `"` + one}))
		checkLines(t, []string{"read" + one + "0 0", one + "read 0 0", "read 0 0" + one, "read 0" + one + "0", "read 0 " + one + " 0", one, one + "\"", "\"" + one})
	}
	// Every byte has its one spelling in base sixteen.
	for c := range 256 {
		line := fmt.Sprintf(`remove 0 0 "%s\x%02x"`, "A", c)
		if got, err := script.ParseOp(line); got != (api.Op{Kind: api.OpRemove, Sku: "A" + string([]byte{byte(c)})}) || err != api.OK {
			t.Errorf("ParseOp(%q) = %v, %d", line, got, err)
		}
	}
}

func TestPrintOpExamples(t *testing.T) { // P24.1
	for line, o := range map[string]api.Op{
		`set 0 2 TEA-1 5`:      {Kind: 1, Rep: 0, Cart: 2, Sku: "TEA-1", Qty: 5},
		`set 0 2 "tea\x201" 5`: {Kind: 1, Rep: 0, Cart: 2, Sku: "tea 1", Qty: 5},
		`set 0 2 "" 5`:         {Kind: 1, Rep: 0, Cart: 2, Qty: 5},
		`deliver -3`:           {Kind: 11, Rep: 9, Num: -3},
		`op 0`:                 {Kind: 0, Rep: 4},
		`push 1 2 0`:           {Kind: 16, Rep: 1, To: 2, Num: 0},
	} {
		if got := script.PrintOp(o); got != line {
			t.Errorf("PrintOp(%v) = %q, want %q", o, got, line)
		}
	}
}

func TestParseOpExamples(t *testing.T) { // P24.2
	for line, want := range map[string]api.Op{
		"  trim 4   2 ":           {Kind: 14, Num: 4, Qty: 2},
		`remove 0 0 "TEA"`:        {Kind: 3, Sku: "TEA"},
		`remove 0 0 "\x22"`:       {Kind: 3, Sku: `"`},
		`remove 0 0 "#"`:          {Kind: 3, Sku: "#"},
		"remove 0 0 \"\"\r":       {Kind: 3},
		"\r\tread\t1\r2 \t":       {Kind: 7, Rep: 1, Cart: 2},
		"removeto 1 12 3":         {Kind: 4, Rep: 1, Sku: "12", Num: 3},
		"removeto 1 \"12\" 3":     {Kind: 4, Rep: 1, Sku: "12", Num: 3},
		"op -9223372036854775808": {Kind: -1 << 63},
		"op 17":                   {Kind: 17},
		"read 9223372036854775807 -9223372036854775808": {Kind: 7, Rep: 1<<63 - 1, Cart: -1 << 63},
	} {
		if got, err := script.ParseOp(line); got != want || err != api.OK {
			t.Errorf("ParseOp(%q) = %v, %d, want %v", line, got, err, want)
		}
	}
}

func TestLinesThatAreNoOp(t *testing.T) { // P24.2
	for _, line := range []string{
		// The chapter's.
		"trim 4", "trim 4 2 1", "Trim 4 2", "trim 04 2", "trim +4 2", "trim 4 2 # x", "op 3", "", "remove 0 0 tea", `remove 0 0 "a b"`, `remove 0 0 "\xFF"`, "read 9223372036854775808 -9223372036854775808", `remove 0 0 "A"B`, `remove 0 0 A"B`,
		// What says nothing, or something else.
		" ", "\t\r", "#", "# read 0 0", " #read 0 0", "store 1 1 1 1 1 1", "op", "op 1", "op 16", "op x", "op 0 0", "raed 0 0", "0", "read", `"read" 0 0`,
		// Numbers that are none.
		"read -0 0", "read 00 0", "read -01 0", "read - 0", "read --1 0", "read 1- 0", "read 0x1 0", "read 1_0 0", "read 1.0 0", "read 1e3 0", `read "1" 0`, "read A 0", "read ٣ 0", "read 9223372036854775807 -9223372036854775809", "read 18446744073709551616 0", "read " + strings.Repeat("9", 100000) + " 0", "read " + strings.Repeat("0", 100000) + " 0",
		// Sku words that are none.
		`remove 0 0 "`, `remove 0 0 "A`, `remove 0 0 A"`, `remove 0 0 """`, `remove 0 0 ""A`, `remove 0 0 "\"`, `remove 0 0 "\x"`, `remove 0 0 "\x4"`, `remove 0 0 "\X41"`, `remove 0 0 "\41"`, `remove 0 0 "\n"`, `remove 0 0 "\\"`, `remove 0 0 'A'`, "remove 0 0 \"\t\"", "remove 0 0 \"\r\"", "remove 0 0 \"\x7f\"", "remove 0 0 \"é\"", "remove 0 0 \"\x00\"", "remove 0 0 -", "remove 0 0 " + strings.Repeat("A", 25),
		// A line end anywhere.
		"\n", "read 0 0\n", "\nread 0 0", "read\n0 0", "read 0\n0", "read 0 0 \n", "remove 0 0 \"\n\"", "remove 0 0 A\n", "# x\nread 0 0", "read 0 0\n# x", "read 0 0\nread 0 0", "remove 0 0 \"A\"\n",
	} {
		if got, err := script.ParseOp(line); got != (api.Op{}) || err != api.ErrText {
			t.Errorf("ParseOp(%q) = %v, %d", line, got, err)
		}
	}
}

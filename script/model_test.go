package script_test

import (
	"fmt"
	"math"
	"math/big"
	"math/rand/v2"
	"reflect"
	"regexp"
	"slices"
	"strings"

	"barrow/api"
	"barrow/sample"
)

func newDice() *rand.Rand { return rand.New(rand.NewPCG(47, 48)) }

// table is the chapter's: kind, word, the words behind it, the field of each.
const table = `
1 | set | number number sku number | Rep Cart Sku Qty
2 | add | number number sku number | Rep Cart Sku Qty
3 | remove | number number sku | Rep Cart Sku
4 | removeto | number sku number | Rep Sku Num
5 | clear | number number | Rep Cart
6 | clearto | number number | Rep Num
7 | read | number number | Rep Cart
8 | sync | number number | Rep To
9 | full | number number | Rep To
10 | ask | number number | Rep To
11 | deliver | number | Num
12 | copy | number | Num
13 | drop | number | Num
14 | trim | number number | Num Qty
15 | restart | number | Rep
16 | push | number number number | Rep To Num`

// A row is one of the table.
type row struct {
	kind         int
	word         string
	asks, fields []string
}

var rows = readTable()

func readTable() []row {
	var all []row
	for _, line := range strings.Split(strings.TrimSpace(table), "\n") {
		cells := strings.Split(line, " | ")
		r := row{word: cells[1], asks: strings.Fields(cells[2]), fields: strings.Fields(cells[3])}
		fmt.Sscan(cells[0], &r.kind)
		all = append(all, r)
	}
	return all
}

// rowOf: that of the kind; of any other kind the table's last one.
func rowOf(kind int) row {
	for _, r := range rows {
		if r.kind == kind {
			return r
		}
	}
	return row{kind, "op", []string{"number"}, []string{"Kind"}}
}

// plain: the op with the fields alone that its row names.
func plain(o api.Op) api.Op {
	p := api.Op{Kind: o.Kind}
	for _, name := range rowOf(o.Kind).fields {
		reflect.ValueOf(&p).Elem().FieldByName(name).Set(reflect.ValueOf(o).FieldByName(name))
	}
	return p
}

var (
	skuForm    = regexp.MustCompile(`^[A-Z0-9]([-.]?[A-Z0-9])*$`)
	quotedForm = regexp.MustCompile(`^"([!#-\[\]-~]|\\x[0-9a-f][0-9a-f])*"$`)
	escape     = regexp.MustCompile(`\\x[0-9a-f][0-9a-f]`)
	numberForm = regexp.MustCompile(`^(0|-?[1-9][0-9]*)$`)
	wordForm   = regexp.MustCompile(`^("[^"]*"|[^" \t\r][^ \t\r]*)([ \t\r]|$)`)
)

func isSku(text string) bool { return len(text) <= 24 && skuForm.MatchString(text) }

// quoted is the chapter's way to write a text that is no SKU, word by word.
func quoted(text string) string {
	word := `"`
	for _, c := range []byte(text) {
		if c >= 33 && c <= 126 && c != 34 && c != 92 {
			word += string(c)
		} else {
			word += fmt.Sprintf(`\x%02x`, c)
		}
	}
	return word + `"`
}

func printed(o api.Op) string {
	r := rowOf(o.Kind)
	line := r.word
	for _, name := range r.fields {
		value := reflect.ValueOf(o).FieldByName(name).Interface()
		if text, isText := value.(string); isText && !isSku(text) {
			value = quoted(text)
		}
		line += fmt.Sprint(" ", value)
	}
	return line
}

func printedScript(s api.Script) string {
	h := s.Head
	text := fmt.Sprintln("store", h.Reps, h.Carts, h.Lines, h.Count, h.Log, h.Tokens)
	for _, o := range s.Ops {
		text += printed(o) + "\n"
	}
	return text
}

// words is the chapter's 'A line is cut into words'; false, if the line is wrong.
func words(line string) ([]string, bool) {
	var all []string
	for {
		line = strings.TrimLeft(line, " \t\r")
		if line == "" || len(all) == 0 && line[0] == '#' {
			return all, true
		}
		match := wordForm.FindStringSubmatch(line)
		if match == nil {
			return nil, false
		}
		all = append(all, match[1])
		line = line[len(match[1]):]
	}
}

// meaning: what the word stands for where such a one is asked for; nil, if it is none.
func meaning(asked, word string) any {
	if asked == "number" {
		n, _ := new(big.Int).SetString(word, 10)
		if !numberForm.MatchString(word) || !n.IsInt64() {
			return nil
		}
		return int(n.Int64())
	}
	switch {
	case isSku(word):
		return word
	case quotedForm.MatchString(word):
		return escape.ReplaceAllStringFunc(word[1:len(word)-1], func(s string) string {
			var c byte
			fmt.Sscanf(s, `\x%x`, &c)
			return string([]byte{c})
		})
	}
	return nil
}

// stepOf: the op that the words say, by the table.
func stepOf(all []string) (api.Op, bool) {
	if len(all) == 0 {
		return api.Op{}, false
	}
	for _, r := range append(slices.Clone(rows), rowOf(0)) {
		if r.word != all[0] {
			continue
		}
		if len(all) != 1+len(r.asks) {
			return api.Op{}, false
		}
		o := api.Op{Kind: r.kind}
		for i, asked := range r.asks {
			value := meaning(asked, all[i+1])
			if value == nil {
				return api.Op{}, false
			}
			reflect.ValueOf(&o).Elem().FieldByName(r.fields[i]).Set(reflect.ValueOf(value))
		}
		if r.word == "op" && o.Kind >= 1 && o.Kind <= 16 {
			return api.Op{}, false
		}
		return o, true
	}
	return api.Op{}, false
}

// parsedOp: what ParseOp answers, by the chapter.
func parsedOp(line string) (api.Op, api.Errno) {
	all, ok := words(line)
	o, isStep := stepOf(all)
	if strings.Contains(line, "\n") || !ok || !isStep {
		return api.Op{}, api.ErrText
	}
	return o, api.OK
}

func headOf(all []string) (api.Header, bool) {
	if len(all) != 7 || all[0] != "store" {
		return api.Header{}, false
	}
	var h api.Header
	for i, word := range all[1:] {
		value := meaning("number", word)
		if value == nil {
			return api.Header{}, false
		}
		reflect.ValueOf(&h).Elem().Field(i).Set(reflect.ValueOf(value))
	}
	return h, true
}

// parsed: what Parse answers, by the chapter.
func parsed(text string) (api.Script, int, api.Errno) {
	lines := strings.Split(text, "\n")
	if lines[len(lines)-1] == "" {
		lines = lines[:len(lines)-1]
	}
	var s api.Script
	headed := false
	for i, line := range lines {
		all, ok := words(line)
		if ok && len(all) == 0 {
			continue
		}
		if ok && !headed {
			s.Head, ok = headOf(all)
			headed = true
		} else if ok {
			var o api.Op
			o, ok = stepOf(all)
			s.Ops = append(s.Ops, o)
		}
		if !ok {
			return api.Script{}, i + 1, api.ErrText
		}
	}
	if !headed {
		return api.Script{}, len(lines) + 1, api.ErrText
	}
	return s, 0, api.OK
}

// same: one script as it stands, where nil and empty are one.
func same(a, b api.Script) bool { return a.Head == b.Head && slices.Equal(a.Ops, b.Ops) }

func kinds() []int {
	all := []int{math.MinInt, -16, -2, -1, 17, 18, 99, 256 + 7, 1 << 32, math.MaxInt}
	for kind := range 17 {
		all = append(all, kind)
	}
	return all
}

func numbers() []int {
	return []int{0, 1, 2, 9, 10, 63, 64, 100, 1000000, -1, -2, -10, math.MaxInt, math.MaxInt - 1, math.MinInt, math.MinInt + 1, 1 << 32, -1 << 31}
}

// skus: SKUs, and texts that are none: every byte alone and within, those with a meaning in the language, long ones.
func skus() []string {
	all := append(sample.WrongSkus(), "", "A", "TEA-1", "0", "12", "-1", "A.B-C.9", strings.Repeat("Z", 24), strings.Repeat("Z", 25), "tea 1", "tea", `"`, `""`, `\`, `\x41`, `\\`, "#", "# A", "A B", " A", "A ", "\t", "\r", "\n", "A\n", "\r\n", "store", "set", "a\"b", "É", "日本", "\xff\xfe", strings.Repeat("\x00", 40), strings.Repeat("\"", 300))
	for c := range 256 {
		all = append(all, string([]byte{byte(c)}), string([]byte{'A', byte(c), 'B'}))
	}
	return all
}

func thrownOp(dice *rand.Rand, texts []string) api.Op {
	n := func() int {
		if dice.IntN(3) == 0 {
			return numbers()[dice.IntN(len(numbers()))]
		}
		return dice.IntN(20)
	}
	o := api.Op{Kind: 1 + dice.IntN(16), Rep: n(), Cart: n(), To: n(), Sku: texts[dice.IntN(len(texts))], Qty: n(), Num: n()}
	if dice.IntN(10) == 0 {
		o.Kind = kinds()[dice.IntN(len(kinds()))]
	}
	return o
}

// ops: of every kind with all its fields full, at their bounds and thrown ones.
func ops(count int) []api.Op {
	dice, texts := newDice(), skus()
	var all []api.Op
	for _, kind := range kinds() {
		all = append(all, api.Op{Kind: kind}, api.Op{Kind: kind, Rep: 1, Cart: 2, To: 3, Sku: "A", Qty: 4, Num: 5})
		for _, n := range numbers() {
			all = append(all, api.Op{Kind: kind, Rep: n, Cart: n, To: n, Sku: "a", Qty: n, Num: n})
		}
	}
	for _, kind := range []int{1, 2, 3, 4, 5, 17} {
		for _, text := range texts {
			all = append(all, api.Op{Kind: kind, Rep: 7, Cart: 8, Sku: text, Qty: 9, Num: 10})
		}
	}
	for range count {
		all = append(all, thrownOp(dice, texts))
	}
	return all
}

// scripts: empty ones, and thrown ones of several lengths.
func scripts(count int) []api.Script {
	dice, texts := newDice(), skus()
	all := []api.Script{{}, {Ops: []api.Op{}}, {Ops: []api.Op{{}}}, {Head: api.Header{Reps: math.MinInt, Carts: -1, Lines: math.MaxInt, Count: 1, Log: 1 << 40, Tokens: 7}}}
	for range count {
		s := api.Script{Head: api.Header{Reps: dice.IntN(18) - 1, Carts: dice.IntN(70) - 2, Lines: dice.IntN(2000), Count: dice.IntN(200), Log: dice.IntN(70), Tokens: dice.IntN(1200)}}
		for range dice.IntN(12) {
			s.Ops = append(s.Ops, thrownOp(dice, texts))
		}
		all = append(all, s)
	}
	return all
}

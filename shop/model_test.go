package shop_test

import (
	"fmt"
	"maps"
	"math/rand/v2"
	"slices"
	"strings"

	"barrow/api"
	"barrow/audit"
	"barrow/known"
	"barrow/sample"
	"barrow/script"
)

func newDice() *rand.Rand { return rand.New(rand.NewPCG(57, 58)) }

// statuses is the chapter's list, with the numbers of the document's section 'Errors'.
const statuses = `0 ok, 1 form, 2 number, 3 replica, 4 cart, 5 sku, 6 quantity, 7 kind, 8 malformed, 9 exhausted, 10 clash, 11 absent, 12 full, 13 overflow, 14 token, 15 message, 16 self, 17 text, 20 empty, 21 long, 22 byte, 23 digit, 50 short, 51 wide, 52 rest`

// word: the status's, by the list.
func word(e api.Errno) string {
	for _, pair := range strings.Split(statuses, ", ") {
		if text, found := strings.CutPrefix(pair, fmt.Sprint(int(e), " ")); found {
			return text
		}
	}
	return fmt.Sprint("error ", int(e))
}

// shopping: the chapter's shopping lines.
func shopping(list []api.Line) string {
	text := ""
	for _, l := range list {
		if l.Parts == 1 {
			text += fmt.Sprintf("  %s %d\n", l.Sku, l.Qty)
		} else {
			text += fmt.Sprintf("  %s %d in %d\n", l.Sku, l.Qty, l.Parts)
		}
	}
	return text
}

// told: the chapter's Tell.
func told(n int, a api.Answer) string {
	text := fmt.Sprintf("%d %s", n, word(a.Status))
	if a.Token != 0 {
		text += fmt.Sprintf(" token %d", a.Token)
	}
	if a.Msg != 0 {
		text += fmt.Sprintf(" message %d", a.Msg)
	}
	return text + "\n" + shopping(a.Lines)
}

// A page is what the three calls answer to one text.
type page struct{ run, final, sizes string }

// pageOf: by the slow stack.
func pageOf(text string) page {
	s, at, err := script.Parse(text)
	if err != api.OK {
		refusal := fmt.Sprintf("line %d %s\n", at, word(err))
		return page{refusal, refusal, refusal}
	}
	c := known.New(s.Head)
	var p page
	for i, o := range s.Ops {
		p.run += told(i+1, c.Step(o))
	}
	p.run += fmt.Sprintf("steps %d messages %d\n", len(s.Ops), c.Made())
	for at := range c.Head().Carts {
		if list := known.Told(sample.State(c.All(at)).Live); len(list) > 0 {
			p.final += fmt.Sprintf("cart %d\n", at) + shopping(list)
		}
	}
	for rep := range c.Head().Reps {
		for at := range c.Head().Carts {
			state := sample.State(c.Facts(rep, at))
			if sample.SameSwot(state, api.Swot{}) {
				continue
			}
			z, _ := audit.Measure(state)
			p.sizes += fmt.Sprintf("replica %d cart %d bytes %d live %d skus %d holes %d waits %d\n", rep, at, z.Bytes, z.Live, z.Skus, z.Holes, z.Waits)
		}
	}
	for _, text := range []*string{&p.final, &p.sizes} {
		if *text == "" {
			*text = "nothing\n"
		}
	}
	return p
}

// anyHead: one whose limits are soon reached, or one of several replicas.
func anyHead(dice *rand.Rand) api.Header {
	if dice.IntN(2) == 0 {
		return sample.TightHead(dice.IntN)
	}
	return sample.RoomyHead(dice.IntN)
}

// scripts: over heads at their bounds and thrown ones.
func scripts(count int) []api.Script {
	dice := newDice()
	var all []api.Script
	for _, h := range sample.EdgeHeads() {
		all = append(all, known.Thrown(dice.IntN, h, 30), api.Script{Head: h})
	}
	for range count {
		all = append(all, known.Thrown(dice.IntN, anyHead(dice), dice.IntN(100)))
	}
	return all
}

// wrongTexts: texts that are no scripts, and the line that refuses each.
func wrongTexts() map[string]string {
	store := "store 2 1 10 100 8 4\n"
	return map[string]string{
		"": "line 1 text\n", "\n": "line 2 text\n", "#": "line 2 text\n", "\n\n# x\n": "line 4 text\n", "read 0 0\n": "line 1 text\n", "\nread 0 0\n": "line 2 text\n", "store 1 1 1 1 1\n": "line 1 text\n", "# x\nstore 1 1 1 1 1 1\nset 0 0 a 1": "line 3 text\n",
		store + store: "line 2 text\n", store + "raed 0 0": "line 2 text\n", store + "read 0 0\n\n# so\nread 0\n": "line 5 text\n", store + "read 0 0 0": "line 2 text\n", store + "read 00 0": "line 2 text\n", store + "read 0 0\x00": "line 2 text\n", store + "set 0 0 \"A 1": "line 2 text\n",
		store + "read 99999999999999999999 0": "line 2 text\n", "store 2 1 10 100 8 -04\n": "line 1 text\n", "\xff": "line 1 text\n",
	}
}

// texts: printed scripts, spoilt ones among them, and wrong ones.
func texts(count int) []string {
	dice := newDice()
	var all []string
	for _, s := range scripts(count) {
		text := script.Print(s)
		all = append(all, text, spoilt(dice, text))
	}
	return append(all, slices.Sorted(maps.Keys(wrongTexts()))...)
}

// spoilt: the text with one byte changed, taken out or put in.
func spoilt(dice *rand.Rand, text string) string {
	const odds = "\n\r #\"\\09-Azr\x00\xff"
	at, odd := dice.IntN(len(text)), odds[dice.IntN(len(odds)):][:1]
	switch dice.IntN(3) {
	case 0:
		return text[:at] + odd + text[at+1:]
	case 1:
		return text[:at] + text[at+1:]
	}
	return text[:at] + odd + text[at:]
}

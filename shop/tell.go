package shop

import (
	"strconv"
	"strings"

	"barrow/api"
)

// words are those of the statuses, at their numbers.
var words = [...]string{
	api.OK:        "ok",
	api.ErrForm:   "form",
	api.ErrArg:    "number",
	api.ErrRep:    "replica",
	api.ErrCart:   "cart",
	api.ErrSku:    "sku",
	api.ErrQty:    "quantity",
	api.ErrKind:   "kind",
	api.ErrBad:    "malformed",
	api.ErrCount:  "exhausted",
	api.ErrClash:  "clash",
	api.ErrAbsent: "absent",
	api.ErrFull:   "full",
	api.ErrOver:   "overflow",
	api.ErrToken:  "token",
	api.ErrMsg:    "message",
	api.ErrSelf:   "self",
	api.ErrText:   "text",
	api.ErrEmpty:  "empty",
	api.ErrLong:   "long",
	api.ErrByte:   "byte",
	api.ErrDigit:  "digit",
	api.ErrShort:  "short",
	api.ErrWide:   "wide",
	api.ErrRest:   "rest",
}

// Word: the status as a word.
func Word(e api.Errno) string {
	// Between the statuses there are numbers that are none.
	if e >= 0 && int(e) < len(words) && words[e] != "" {
		return words[e]
	}
	return "error " + strconv.Itoa(int(e))
}

// Tell: the answer of step number n as lines.
func Tell(n int, a api.Answer) string {
	var p page
	p.answer(n, a)
	return p.String()
}

// A page is written from its beginning to its end.
type page struct{ strings.Builder }

func (p *page) text(ahead, text string) {
	p.WriteString(ahead)
	p.WriteString(text)
}

func (p *page) number(ahead string, n int) { p.text(ahead, strconv.Itoa(n)) }

func (p *page) end() { p.WriteByte('\n') }

func (p *page) answer(n int, a api.Answer) {
	p.number("", n)
	p.text(" ", Word(a.Status))
	if a.Token != 0 {
		p.number(" token ", a.Token)
	}
	if a.Msg != 0 {
		p.number(" message ", a.Msg)
	}
	p.end()
	p.lines(a.Lines)
}

// lines: a shopping line for each.
func (p *page) lines(list []api.Line) {
	for _, l := range list {
		p.text("  ", l.Sku)
		p.number(" ", l.Qty)
		if l.Parts != 1 {
			p.number(" in ", l.Parts)
		}
		p.end()
	}
}

// size: the rest of a line that tells of a state.
func (p *page) size(z api.Size) {
	p.number(" bytes ", z.Bytes)
	p.number(" live ", z.Live)
	p.number(" skus ", z.Skus)
	p.number(" holes ", z.Holes)
	p.number(" waits ", z.Waits)
	p.end()
}

func (p *page) orNothing() string {
	if p.Len() == 0 {
		return "nothing\n"
	}
	return p.String()
}

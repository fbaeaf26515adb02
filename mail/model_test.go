package mail_test

import (
	"bytes"
	"math/rand/v2"
	"slices"

	"barrow/api"
	"barrow/sample"
	"barrow/wire"
)

var (
	pt   = sample.Part
	same = sample.SameMail
)

func ps(list ...api.Part) []api.Part { return list }

// A rule is a row of the chapter's table.
type rule struct {
	numbers func(lo, hi int) bool
	parts   bool // may there be any?
}

// rules is the chapter's table, word by word.
func rules() map[int]rule {
	const most = 4611686018427387904
	zeros := func(lo, hi int) bool { return lo == 0 && hi == 0 }
	upTo := func(lo, hi int) bool { return lo == 0 && 0 <= hi && hi <= most }
	return map[int]rule{
		1: {func(lo, hi int) bool { return 0 <= lo && lo <= hi && hi <= most }, true},
		2: {upTo, true},
		3: {upTo, false},
		4: {zeros, true},
		5: {zeros, true},
		6: {func(lo, hi int) bool { return 0 <= lo && lo < most && hi == lo+1 }, true},
	}
}

// inForm is the chapter's 'A mail is in form', word by word.
func inForm(m api.Mail) bool {
	if m.From < 0 || m.From > 15 || m.To < 0 || m.To > 15 || m.From == m.To {
		return false
	}
	r, known := rules()[m.Kind]
	if !known || !r.numbers(m.Lo, m.Hi) || !r.parts && len(m.Parts) > 0 {
		return false
	}
	for i, p := range m.Parts {
		if p.Cart < 0 || p.Cart > 63 || i > 0 && p.Cart <= m.Parts[i-1].Cart {
			return false
		}
	}
	return true
}

func checked(m api.Mail) api.Errno {
	if inForm(m) {
		return api.OK
	}
	return api.ErrForm
}

func num(n int) []byte {
	w := wire.NewWriter()
	w.Num(n)
	b, _ := w.Done()
	return b
}

// pieces is the chapter's 'The bytes of a mail', word by word: each number and each body by itself.
func pieces(m api.Mail) [][]byte {
	all := [][]byte{num(m.Kind), num(m.From), num(m.To), num(m.Lo), num(m.Hi), num(len(m.Parts))}
	for _, p := range m.Parts {
		all = append(all, num(p.Cart), num(len(p.Body)), slices.Clone(p.Body))
	}
	return all
}

func encoding(m api.Mail) []byte { return bytes.Join(pieces(m), nil) }

// A scan goes through bytes by the chapter's words alone: it bounds no number, and leaves that to the form of what came out.
type scan struct {
	rest []byte
	bad  bool
}

func (s *scan) num() int {
	n, behind, err := wire.Num(s.rest, 0)
	if s.bad || err != api.OK {
		s.bad = true
		return 0
	}
	s.rest = s.rest[behind:]
	return n
}

func (s *scan) frame() []byte {
	n := s.num()
	if s.bad || n > len(s.rest) {
		s.bad = true
		return nil
	}
	frame := s.rest[:n]
	s.rest = s.rest[n:]
	return frame
}

func (s *scan) mail() api.Mail {
	m := api.Mail{Kind: s.num(), From: s.num(), To: s.num(), Lo: s.num(), Hi: s.num()}
	for i := s.num(); i > 0 && !s.bad; i-- {
		m.Parts = append(m.Parts, api.Part{Cart: s.num(), Body: s.frame()})
	}
	return m
}

// wanted: what Get answers of b, by the chapter.
func wanted(b []byte) (api.Mail, api.Errno) {
	s := &scan{rest: b}
	if m := s.mail(); !s.bad && len(s.rest) == 0 && inForm(m) {
		return m, api.OK
	}
	return api.Mail{}, api.ErrBad
}

func mails(count int) []api.Mail { return sample.Mails(newDice().IntN, count) }

// short: those of the mails that have few bytes.
func short(count int) []api.Mail {
	return sample.Those(mails(count), func(m api.Mail) bool { return len(encoding(m)) < 100 })
}

// shortBytes: all bytes up to this length that are made of few.
func shortBytes(length int) [][]byte {
	all := [][]byte{nil}
	from := 0
	for range length {
		till := len(all)
		for _, b := range all[from:till] {
			for _, c := range []byte{0, 1, 2, 3, 4, 5, 6, 7, 128} {
				all = append(all, append(slices.Clone(b), c))
			}
		}
		from = till
	}
	return all
}

// wider: the number with one byte more than it needs.
func wider(number []byte) []byte {
	last := len(number) - 1
	return append(append(slices.Clone(number[:last]), number[last]+128), 0)
}

// nearBytes: encodings, and what is nearly one: a byte changed, left out or put in, a number in a longer form, two pieces changed about.
func nearBytes() [][]byte {
	dice := newDice()
	var all [][]byte
	for _, m := range short(300) {
		b := encoding(m)
		all = append(all, b)
		for range 20 {
			at, c := dice.IntN(len(b)), []byte{0, 1, 2, 3, 4, 5, 6, 7, 15, 16, 63, 64, 127, 128, 129, 255}[dice.IntN(16)]
			all = append(all, slices.Replace(slices.Clone(b), at, at+1, c), slices.Delete(slices.Clone(b), at, at+1), slices.Insert(slices.Clone(b), at, c))
		}
		whole := pieces(m)
		for i, piece := range whole {
			changed := slices.Clone(whole)
			j := dice.IntN(len(whole))
			changed[i], changed[j] = changed[j], changed[i]
			all = append(all, bytes.Join(changed, nil))
			if len(piece) > 0 {
				longer := slices.Clone(whole)
				longer[i] = wider(piece)
				all = append(all, bytes.Join(longer, nil))
			}
		}
	}
	return all
}

// wrongBytes: what the bytes of mails that aren't in form would be, where their numbers have bytes.
func wrongBytes() [][]byte {
	var all [][]byte
	for _, m := range sample.WrongMails() {
		numbers := []int{m.Kind, m.From, m.To, m.Lo, m.Hi}
		for _, p := range m.Parts {
			numbers = append(numbers, p.Cart)
		}
		if slices.Min(numbers) >= 0 {
			all = append(all, encoding(m))
		}
	}
	return all
}

func newDice() *rand.Rand { return rand.New(rand.NewPCG(31, 32)) }

package tokens_test

import (
	"math/rand/v2"
	"slices"
	"strings"
	"testing"

	"barrow/api"
	"barrow/tokens"
)

func TestText(t *testing.T) { // P23.2
	for _, x := range right(500) {
		if got, err := tokens.Text(x); got != textOf(encoding(x)) || err != api.OK {
			t.Errorf("Text(%v) = %q, %d, want %q", x, got, err, textOf(encoding(x)))
		}
	}
	for _, x := range wrong() {
		if got, err := tokens.Text(x); got != "" || err != api.ErrForm {
			t.Errorf("Text(%v) = %q, %d", x, got, err)
		}
	}
}

// Every letter and every check letter is somebody's.
func TestEveryLetterIsUsed(t *testing.T) { // P23.2
	body, last := map[byte]int{}, map[byte]int{}
	for _, x := range right(2000) {
		s, _ := tokens.Text(x)
		for i := range len(s) - 1 {
			body[s[i]]++
		}
		last[s[len(s)-1]]++
	}
	if len(body) != 32 || len(last) != 37 {
		t.Errorf("%d letters and %d check letters are used", len(body), len(last))
	}
}

// checkParse: how many of the texts are taken?
func checkParse(t *testing.T, all []string) int {
	t.Helper()
	taken := 0
	for _, s := range all {
		want, wantErr := parsed(s)
		got, err := tokens.Parse(s)
		if !same(got, want) || err != wantErr {
			t.Errorf("Parse(%q) = %v, %d, want %v, %d", s, got, err, want, wantErr)
		}
		if err != api.OK {
			continue
		}
		taken++
		if back, err := tokens.Text(got); back != s || err != api.OK {
			t.Errorf("Parse(%q) = %v, whose Text is %q, %d", s, got, back, err)
		}
	}
	return taken
}

// sealed: the letters with the check letter that belongs behind them.
func sealed(body string) string { return body + checkOf(body) }

// near: what is nearly the body of a text: a letter changed, left out or put in, two changed about.
func near(dice *rand.Rand, body string) []string {
	b := []byte(body)
	at, other, c := dice.IntN(len(b)), dice.IntN(len(b)), alphabet[dice.IntN(32)]
	swapped := slices.Clone(b)
	swapped[at], swapped[other] = swapped[other], swapped[at]
	return []string{
		string(slices.Replace(slices.Clone(b), at, at+1, c)), string(slices.Delete(slices.Clone(b), at, at+1)), string(slices.Insert(slices.Clone(b), at, c)), string(swapped),
		body[:len(body)-1] + string(c), body + "0", body + "00", body + string(c),
	}
}

// nearTexts: those of tokens, and what is nearly one, with its own check letter, with that of the token, and with another.
func nearTexts() []string {
	dice := newDice()
	var all []string
	for _, x := range right(200) {
		s := textOf(encoding(x))
		all = append(all, s, strings.ToLower(s), s+"0", "0"+s, " "+s, s+"\n")
		for range 4 {
			for _, body := range near(dice, s[:len(s)-1]) {
				all = append(all, sealed(body), body+s[len(s)-1:], body+string((alphabet + "*~$=U")[dice.IntN(37)]))
			}
		}
	}
	return all
}

func TestParse(t *testing.T) { // P23.2, P7
	texts := nearTexts()
	if taken := checkParse(t, texts); taken < len(texts)/20 || taken > len(texts)/2 {
		t.Errorf("Parse takes %d of %d that are or nearly are texts", taken, len(texts))
	}
	var ofBytes []string
	for _, b := range slices.Concat(nearBytes()[:3000], shortBytes(4)) {
		ofBytes = append(ofBytes, textOf(b))
	}
	checkParse(t, ofBytes)
}

// All texts of up to six letters that are made of few, with each check letter and with bytes that are none.
func TestParseShortTexts(t *testing.T) { // P23.2
	bodies, from := []string{""}, 0
	for range 5 {
		till := len(bodies)
		for _, body := range bodies[from:till] {
			for _, c := range "0128GZ" {
				bodies = append(bodies, body+string(c))
			}
		}
		from = till
	}
	var right, others []string
	for i, body := range bodies {
		right = append(right, sealed(body))
		others = append(others, body+string((alphabet + "*~$=U")[i%37]), body+"\x00", body+"u", body+"I")
	}
	// Five letters say three bytes and a bit: here those of a cart below 64, its first three bits in one letter (0, 1, 2) and its last three in the next (0, 8, G), and an empty past.
	if taken := checkParse(t, right); taken != 3*3 {
		t.Errorf("Parse takes %d of the short ones", taken)
	}
	checkParse(t, others)
}

func TestTextsThereAndBack(t *testing.T) { // P23.2
	values := map[string]api.Token{}
	for _, x := range right(500) {
		s, _ := tokens.Text(x)
		if got, err := tokens.Parse(s); !same(got, x) || err != api.OK {
			t.Errorf("Parse of Text of %v = %v, %d", x, got, err)
		}
		if other, found := values[s]; found && !same(x, other) {
			t.Errorf("Text of %v and of %v are both %q", x, other, s)
		}
		values[s] = x
	}
}

func refusedText(t *testing.T, s string) {
	t.Helper()
	if got, err := tokens.Parse(s); !same(got, api.Token{}) || err != api.ErrText {
		t.Errorf("Parse(%q) = %v, %d", s, got, err)
	}
}

func TestOneLetterChanged(t *testing.T) { // P23.3
	for _, x := range right(60) {
		s, _ := tokens.Text(x)
		for at := range len(s) {
			for c := range 256 {
				if byte(c) != s[at] {
					refusedText(t, s[:at]+string([]byte{byte(c)})+s[at+1:])
				}
			}
		}
	}
}

func TestTwoLettersChangedAbout(t *testing.T) { // P23.3
	for _, x := range right(500) {
		s, _ := tokens.Text(x)
		for at := range len(s) - 2 {
			if s[at] != s[at+1] {
				refusedText(t, s[:at]+s[at+1:at+2]+s[at:at+1]+s[at+2:])
			}
		}
	}
}

func TestTextExamples(t *testing.T) { // P23.2
	for s, x := range map[string]api.Token{"0M1G600700~": tk(5, []int{3, 0, 7}), "000000": {}} {
		if got, err := tokens.Text(x); got != s || err != api.OK {
			t.Errorf("Text(%v) = %q, %d, want %q", x, got, err, s)
		}
		if got, err := tokens.Parse(s); !same(got, x) || err != api.OK {
			t.Errorf("Parse(%q) = %v, %d, want %v", s, got, err, x)
		}
	}
}

func TestTextsThatAreNone(t *testing.T) { // P23.2, P23.3
	for _, s := range []string{
		// The chapter's.
		"0M1G600701~", "0m1G600700~", "M01G600700~", "0M1G600700", "", "0000000",
		// No letters ahead of the check letter, or too few for a token.
		"0", "~", "U", "00", "0000", "00000",
		// Letters that look like others, and check letters ahead of the end.
		"OOOOOO", "O00000", "00000O", "I00000", "L00000", "U00000", "*00000", "0M1G60070~~", "000=00",
		// Something around it, or none of the letters' bytes.
		" 000000", "000000 ", "000000\n", "000-000", "00000\x00", "\x00\x00\x00\x00\x00\x00", "\xff00000", "00000é", "é00000",
		strings.Repeat("0", 1<<20), strings.Repeat("Z", 1<<20), strings.Repeat("~", 1<<20),
	} {
		refusedText(t, s)
	}
	// The last group's added bit isn't 0, whatever the check letter.
	for _, c := range alphabet + "*~$=U" {
		refusedText(t, "00001"+string(c))
		refusedText(t, "000000"+string(c))
	}
}

// A token of very many spans has bytes and a text as well.
func TestALongToken(t *testing.T) { // P23.2, P23.4
	x := tk(63, []int{1})
	for i := range 20000 {
		x.Past.Cloud = append(x.Past.Cloud, sp(i/5000, 3+300*(i%5000), 5+300*(i%5000)))
	}
	b, err := tokens.Put(x)
	if got, getErr := tokens.Get(b); !same(got, x) || err != api.OK || getErr != api.OK {
		t.Errorf("Get of Put: %d, %d", err, getErr)
	}
	s, err := tokens.Text(x)
	if got, parseErr := tokens.Parse(s); !same(got, x) || err != api.OK || parseErr != api.OK || len(s) != (8*len(b)+4)/5+1 {
		t.Errorf("Parse of Text: %d, %d", err, parseErr)
	}
	refused(t, b[:len(b)-1])
	refusedText(t, s[:len(s)-1])
}

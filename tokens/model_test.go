package tokens_test

import (
	"fmt"
	"math/big"
	"math/rand/v2"
	"slices"
	"strings"

	"barrow/api"
	"barrow/pack"
	"barrow/sample"
	"barrow/wire"
)

var (
	pa = sample.Past
	sp = sample.Span
)

func newDice() *rand.Rand { return rand.New(rand.NewPCG(45, 46)) }

func tk(cart int, vec []int, cloud ...api.Span) api.Token {
	return api.Token{Cart: cart, Past: pa(vec, cloud...)}
}

// same: one token as it stands, where nil and empty are one.
func same(a, b api.Token) bool { return a.Cart == b.Cart && sample.SamePast(a.Past, b.Past) }

// right: tokens in form: the carts at their bounds with the edges of pasts, and thrown ones.
func right(count int) []api.Token {
	dice := newDice()
	var all []api.Token
	for _, cart := range []int{0, 1, 31, 32, 62, 63} {
		for _, p := range sample.Pasts(dice.IntN, 2) {
			all = append(all, api.Token{Cart: cart, Past: p})
		}
		all = append(all, tk(cart, []int{}, []api.Span{}...), tk(cart, []int{127, 128, 16383, 16384}), tk(cart, append(make([]int, 14), 1), sp(15, 2, 2)))
	}
	for _, p := range sample.Pasts(dice.IntN, count) {
		all = append(all, api.Token{Cart: dice.IntN(64), Past: p}, tk(dice.IntN(64), []int{dice.IntN(api.MaxNum), 1 + dice.IntN(api.MaxNum)}))
	}
	return all
}

// wrong: tokens that aren't in form, by their cart, by their past, by both.
func wrong() []api.Token {
	var all []api.Token
	for _, cart := range []int{-1 << 63, -64, -1, 64, 65, 128, 256, 1<<63 - 1} {
		all = append(all, tk(cart, nil), tk(cart, []int{3, 0, 7}), tk(cart, []int{1, 0}))
	}
	for _, p := range sample.WrongPasts() {
		all = append(all, api.Token{Past: p}, api.Token{Cart: 63, Past: p})
	}
	return all
}

// pieces is the chapter's Put, word by word: the wire's number, and the past's bytes.
func pieces(t api.Token) [][]byte {
	w := wire.NewWriter()
	w.Num(t.Cart)
	cart, _ := w.Done()
	seen, _ := pack.PutPast(t.Past)
	return [][]byte{cart, seen}
}

func encoding(t api.Token) []byte { return slices.Concat(pieces(t)...) }

// scanned: what Get answers of b, by the chapter.
func scanned(b []byte) (api.Token, api.Errno) {
	for cart := range 64 {
		if len(b) == 0 || b[0] != byte(cart) {
			continue
		}
		if p, err := pack.GetPast(b[1:]); err == api.OK {
			return api.Token{Cart: cart, Past: p}, api.OK
		}
	}
	return api.Token{}, api.ErrBad
}

const alphabet = "0123456789ABCDEFGHJKMNPQRSTVWXYZ"

// row: the bytes as one row of bits.
func row(b []byte) string {
	var bits strings.Builder
	for _, c := range b {
		fmt.Fprintf(&bits, "%08b", c)
	}
	return bits.String()
}

// inLetters is the chapter's way from bytes to letters, word by word.
func inLetters(b []byte) string {
	bits := row(b)
	for len(bits)%5 != 0 {
		bits += "0"
	}
	var body strings.Builder
	for ; bits != ""; bits = bits[5:] {
		for value := range 32 {
			if fmt.Sprintf("%05b", value) == bits[:5] {
				body.WriteByte(alphabet[value])
			}
		}
	}
	return body.String()
}

// checkOf is the chapter's check letter, word by word: the letters as one number.
func checkOf(body string) string {
	number := new(big.Int)
	for _, c := range []byte(body) {
		number.Mul(number, big.NewInt(32))
		number.Add(number, big.NewInt(int64(strings.IndexByte(alphabet, c))))
	}
	value := int(number.Mod(number, big.NewInt(37)).Int64())
	if value < 32 {
		return alphabet[value : value+1]
	}
	return map[int]string{32: "*", 33: "~", 34: "$", 35: "=", 36: "U"}[value]
}

func textOf(b []byte) string {
	body := inLetters(b)
	return body + checkOf(body)
}

// parsed: what Parse answers of s, by the chapter: of all bytes that have as many letters there is one list whose letters these can be.
func parsed(s string) (api.Token, api.Errno) {
	if s == "" {
		return api.Token{}, api.ErrText
	}
	var bits strings.Builder
	for _, c := range []byte(s[:len(s)-1]) {
		value := strings.IndexByte(alphabet, c)
		if value < 0 {
			return api.Token{}, api.ErrText
		}
		fmt.Fprintf(&bits, "%05b", value)
	}
	var b []byte
	for rest := bits.String(); len(rest) >= 8; rest = rest[8:] {
		var c byte
		fmt.Sscanf(rest[:8], "%b", &c)
		b = append(b, c)
	}
	t, err := scanned(b)
	if err != api.OK || textOf(b) != s {
		return api.Token{}, api.ErrText
	}
	return t, api.OK
}

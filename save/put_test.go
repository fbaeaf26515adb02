package save_test

import (
	"bytes"
	"encoding/hex"
	"slices"
	"strings"
	"testing"

	"barrow/api"
	"barrow/node"
	"barrow/save"
)

func (k kind[S, E]) checkPut(t *testing.T) {
	t.Helper()
	for _, d := range k.durables() {
		want := k.image(d)
		if got, err := k.put(d); !bytes.Equal(got, want) || err != api.OK {
			t.Errorf("%s: Put(%v) = %x, %d, want %x", k.name, d, got, err, want)
		}
	}
	for _, d := range k.wrongDurables() {
		if got, err := k.put(d); len(got) != 0 || err != api.ErrForm {
			t.Errorf("%s: Put(%v) = %x, %d", k.name, d, got, err)
		}
	}
}

func TestPut(t *testing.T) { // P21.1
	tombs().checkPut(t)
	swots().checkPut(t)
}

func isSums(t *testing.T, name string, b []byte, first, second int) {
	t.Helper()
	if x, y := save.Sums(b); x != first || y != second {
		t.Errorf("Sums of %s = %d, %d, want %d, %d", name, x, y, first, second)
	}
}

func TestSums(t *testing.T) { // P21.1
	isSums(t, "no bytes", nil, 0, 0)
	isSums(t, "no bytes", []byte{}, 0, 0)
	isSums(t, "ff ff", []byte{255, 255}, 510, 765)
	isSums(t, "03 01 02", []byte{3, 1, 2}, 6, 13)
	isSums(t, "03 01 02 00", []byte{3, 1, 2, 0}, 6, 19)
	dice := newDice()
	for length := range 400 {
		b := make([]byte, length)
		for i := range b {
			b[i] = byte(dice.IntN(256))
		}
		first, second := sums(b)
		isSums(t, hex.EncodeToString(b), b, first, second)
		// What stands in the spare room isn't summed up.
		isSums(t, "a beginning", append(b, 1, 2, 3)[:length], first, second)
	}
}

// Of n bytes c the first sum is c*n, the second c*n*(n+1)/2, modulo 2^32.
func TestSumsWrapRound(t *testing.T) { // P21.1
	// The second sum reaches 2^32 at 5804 bytes ff, the first at 16843010.
	for _, n := range []int{5802, 5803, 5804, 8207, 92681, 92682, 16843008, 16843009, 16843010, 17000000} {
		for _, c := range []int{255, 128, 1} {
			first, second := c*n, c*(n*(n+1)/2)
			isSums(t, "many", bytes.Repeat([]byte{byte(c)}, n), first%(1<<32), second%(1<<32))
		}
	}
	isSums(t, "one byte far ahead", append([]byte{255}, make([]byte, 16843009)...), 255, 255*16843010%(1<<32))
}

func unhex(t *testing.T, digits string) []byte {
	t.Helper()
	b, err := hex.DecodeString(strings.ReplaceAll(digits, " ", ""))
	if err != nil {
		t.Fatal(err)
	}
	return b
}

// checkExample: these are the bytes of that Durable, there and back.
func (k kind[S, E]) checkExample(t *testing.T, d node.Durable[S], digits string) {
	t.Helper()
	b := unhex(t, digits)
	if got, err := k.put(d); !bytes.Equal(got, b) || err != api.OK {
		t.Errorf("%s: Put(%v) = % x, %d, want %s", k.name, d, got, err, digits)
	}
	if got, err := k.get(b); !k.sameDurable(got, d) || err != api.OK {
		t.Errorf("%s: Get(%s) = %v, %d, want %v", k.name, digits, got, err, d)
	}
}

func (k kind[S, E]) checkExamples(t *testing.T) {
	t.Helper()
	var zero S
	k.checkExample(t, node.Durable[S]{Self: 1, Next: 2}, "03 01 02 00 00 00 00 06 00 00 00 13")
	k.checkExample(t, node.Durable[S]{}, "03 00 00 00 00 00 00 03 00 00 00 0c")
	k.checkExample(t, node.Durable[S]{Self: 15, Next: api.MaxSeq}, "03 0f 80 80 80 80 80 80 80 80 40 00 00 00 04 52 00 00 1b 49")
	one := unhex(t, "03 01 02 00 00 00 00 06 00 00 00 13")
	for _, b := range [][]byte{nil, {}, unhex(t, "03 01 02 00"), slices.Replace(slices.Clone(one), 2, 3, 3), make([]byte, 8)} {
		k.refused(t, b)
	}
	for _, d := range []node.Durable[S]{{Self: 16, Next: 2}, {Self: 16}, {Carts: []node.Held[S]{{Cart: 5, State: zero}, {Cart: 5, State: zero}}}} {
		if got, err := k.put(d); len(got) != 0 || err != api.ErrForm {
			t.Errorf("%s: Put(%v) = %x, %d", k.name, d, got, err)
		}
	}
}

func TestExamples(t *testing.T) { // P21.1, P21.2
	tombs().checkExamples(t)
	swots().checkExamples(t)
	swots().checkExample(t, node.Durable[api.Swot]{Carts: []node.Held[api.Swot]{{Cart: 5}}}, "03 00 00 01 05 08 02 01 00 02 00 00 01 00 00 00 00 17 00 00 00 d2")
	tombs().checkExample(t, node.Durable[api.Facts]{Carts: []node.Held[api.Facts]{{Cart: 5}}}, "03 00 00 01 05 08 01 01 00 02 00 00 01 00 00 00 00 16 00 00 00 ca")
}

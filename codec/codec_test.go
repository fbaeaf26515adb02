package codec_test

import (
	"bytes"
	"encoding/hex"
	"slices"
	"strings"
	"testing"

	"barrow/api"
	"barrow/codec"
	"barrow/past"
	"barrow/sample"
)

func (k kind[T]) checkPut(t *testing.T) {
	t.Helper()
	for _, value := range k.right {
		want := k.encoding(value)
		if got, err := k.put(value); !bytes.Equal(got, want) || err != api.OK {
			t.Errorf("Put%s(%v) = %x, %d, want %x", k.name, value, got, err, want)
		}
		if got, err := k.size(value); got != len(want) || err != api.OK {
			t.Errorf("Size%s(%v) = %d, %d, want %d", k.name, value, got, err, len(want))
		}
	}
	for _, value := range k.wrong {
		if got, err := k.put(value); len(got) != 0 || err != api.ErrForm {
			t.Errorf("Put%s(%v) = %x, %d", k.name, value, got, err)
		}
		if got, err := k.size(value); got != 0 || err != api.ErrForm {
			t.Errorf("Size%s(%v) = %d, %d", k.name, value, got, err)
		}
	}
}

func TestPutAndSize(t *testing.T) { // P12.1
	theFacts().checkPut(t)
	theSwots().checkPut(t)
}

// checkGet: how many of the bytes are taken?
func (k kind[T]) checkGet(t *testing.T, all [][]byte) int {
	t.Helper()
	taken := 0
	for _, b := range all {
		want, wantErr := k.wanted(b)
		got, err := k.get(b)
		if !k.same(got, want) || err != wantErr {
			t.Errorf("Get%s(%x) = %v, %d, want %v, %d", k.name, b, got, err, want, wantErr)
		}
		if err == api.OK {
			taken++
		}
	}
	return taken
}

func (k kind[T]) checkGets(t *testing.T) {
	t.Helper()
	if taken := k.checkGet(t, shortBytes(8)); taken != 1 {
		t.Errorf("Get%s takes %d of the short ones", k.name, taken)
	}
	near := k.nearBytes()
	if taken := k.checkGet(t, near); taken < len(near)/20 || taken > len(near)/2 {
		t.Errorf("Get%s takes %d of %d that are or nearly are encodings", k.name, taken, len(near))
	}
}

func TestGet(t *testing.T) { // P12.2
	theFacts().checkGets(t)
	theSwots().checkGets(t)
}

func (k kind[T]) checkThereAndBack(t *testing.T) {
	t.Helper()
	values := map[string]T{}
	for _, value := range k.right {
		b, _ := k.put(value)
		if got, err := k.get(b); !k.same(got, value) || err != api.OK {
			t.Errorf("Get%s of Put of %v = %v, %d", k.name, value, got, err)
		}
		if other, found := values[string(b)]; found && !k.same(value, other) {
			t.Errorf("Put%s of %v and of %v are both %x", k.name, value, other, b)
		}
		values[string(b)] = value
	}
	for _, b := range k.nearBytes() {
		value, err := k.get(b)
		if err != api.OK {
			continue
		}
		if back, err := k.put(value); !bytes.Equal(back, b) || err != api.OK {
			t.Errorf("Get%s(%x) = %v, whose Put is %x, %d", k.name, b, value, back, err)
		}
	}
}

func TestThereAndBack(t *testing.T) { // P12.3
	theFacts().checkThereAndBack(t)
	theSwots().checkThereAndBack(t)
}

func (k kind[T]) refused(t *testing.T, b []byte) {
	t.Helper()
	var none T
	if got, err := k.get(b); !k.same(got, none) || err != api.ErrBad {
		t.Errorf("Get%s(%x) = %v, %d", k.name, b, got, err)
	}
}

func (k kind[T]) checkEnds(t *testing.T) {
	t.Helper()
	for _, value := range k.short() {
		b, _ := k.put(value)
		for length := range len(b) {
			k.refused(t, b[:length])
		}
		for c := range 256 {
			k.refused(t, append(slices.Clone(b), byte(c)))
		}
		k.refused(t, slices.Concat(b, b))
	}
}

func TestNothingShorterAndNothingLongerIsTaken(t *testing.T) { // P12.3
	theFacts().checkEnds(t)
	theSwots().checkEnds(t)
}

func TestNothingIsTakenAsBoth(t *testing.T) { // P12.3
	facts, swots := theFacts(), theSwots()
	for _, value := range facts.right {
		swots.refused(t, facts.encoding(value))
	}
	for _, value := range swots.right {
		facts.refused(t, swots.encoding(value))
	}
	for _, b := range slices.Concat(shortBytes(8), facts.nearBytes(), swots.nearBytes()) {
		_, err1 := codec.GetFacts(b)
		_, err2 := codec.GetSwot(b)
		if err1 == api.OK && err2 == api.OK {
			t.Errorf("%x is taken as facts and as a compact state", b)
		}
	}
}

func TestSizes(t *testing.T) { // P12.4
	for _, s := range smallSwots() {
		most := 24 + 5*len(s.Past.Vec)
		for _, e := range s.Live {
			most += 10 + len(e.Sku)
		}
		if got, err := codec.SizeSwot(s); got > most || err != api.OK {
			t.Errorf("SizeSwot(%v) = %d, %d, at most %d", s, got, err, most)
		}
	}
	// The widest vector and one of the widest entries: the first number, the frames' three, the counts' four, and what is counted.
	widest := api.Swot{Live: es(en(15, api.MaxNum, strings.Repeat("Z", 24), api.MaxQty)), Past: pa(slices.Repeat([]int{api.MaxNum}, 16))}
	if got, err := codec.SizeSwot(widest); got != 1+3+4+5*16+10+24 || err != api.OK {
		t.Errorf("SizeSwot of the widest = %d, %d", got, err)
	}
}

func TestTheSizeOfVeryMany(t *testing.T) { // P12.3, P12.4
	var s api.Swot
	most := 24
	for rep := range api.MaxReps {
		for i := range 3000 {
			s.Live = append(s.Live, en(rep, 300000*(i+1), strings.Repeat("Z", 24), api.MaxQty))
			most += 10 + 24
		}
		s.Past.Vec = append(s.Past.Vec, api.MaxNum)
		most += 5
	}
	b, err := codec.PutSwot(s)
	if len(b) > most || len(b) < most/2 || err != api.OK {
		t.Errorf("PutSwot answers %d bytes, %d, at most %d", len(b), err, most)
	}
	if got, err := codec.GetSwot(b); !sample.SameSwot(got, s) || err != api.OK {
		t.Errorf("GetSwot of %d bytes answers something else, %d", len(b), err)
	}
}

func unhex(t *testing.T, digits string) []byte {
	t.Helper()
	b, err := hex.DecodeString(strings.ReplaceAll(digits, " ", ""))
	if err != nil {
		t.Fatal(err)
	}
	return b
}

// An example is a value in form and its bytes, in base 16.
type example[T any] struct {
	value T
	bytes string
}

func (k kind[T]) checkExamples(t *testing.T, all ...example[T]) {
	t.Helper()
	for _, x := range all {
		b := unhex(t, x.bytes)
		if got, err := k.put(x.value); !bytes.Equal(got, b) || err != api.OK {
			t.Errorf("Put%s(%v) = % x, %d, want %s", k.name, x.value, got, err, x.bytes)
		}
		if got, err := k.size(x.value); got != len(b) || err != api.OK {
			t.Errorf("Size%s(%v) = %d, %d", k.name, x.value, got, err)
		}
		if got, err := k.get(b); !k.same(got, x.value) || err != api.OK {
			t.Errorf("Get%s(%s) = %v, %d, want %v", k.name, x.bytes, got, err, x.value)
		}
	}
}

func TestExamples(t *testing.T) { // P12.1, P12.2
	a, rec := es(en(0, 1, "A", 5)), rs(re("A", []int{2}))
	theFacts().checkExamples(t,
		example[api.Facts]{api.Facts{}, "01 01 00 02 00 00 01 00"},
		example[api.Facts]{api.Facts{Adds: []api.Entry{}, Gone: pa([]int{}), Recs: []api.Record{}}, "01 01 00 02 00 00 01 00"},
		example[api.Facts]{api.Facts{Adds: a, Gone: pa([]int{1})}, "01 06 01 00 00 01 41 04 03 01 01 00 01 00"},
		// What isn't in form as a compact state may be so as facts.
		example[api.Facts]{api.Facts{Adds: a}, "01 06 01 00 00 01 41 04 02 00 00 01 00"},
		example[api.Facts]{api.Facts{Gone: pa([]int{2}), Recs: rec}, "01 01 00 03 01 02 00 06 01 01 41 01 02 00"},
	)
	theSwots().checkExamples(t,
		example[api.Swot]{api.Swot{}, "02 01 00 02 00 00 01 00"},
		example[api.Swot]{api.Swot{Live: []api.Entry{}, Past: pa([]int{}), Defer: []api.Record{}}, "02 01 00 02 00 00 01 00"},
		example[api.Swot]{api.Swot{Live: a, Past: pa([]int{1})}, "02 06 01 00 00 01 41 04 03 01 01 00 01 00"},
		example[api.Swot]{api.Swot{Past: pa([]int{1}), Defer: rec}, "02 01 00 03 01 01 00 06 01 01 41 01 02 00"},
		example[api.Swot]{api.Swot{Live: a, Past: pa([]int{1}), Defer: rs(re("B", []int{2}))}, "02 06 01 00 00 01 41 04 03 01 01 00 06 01 01 42 01 02 00"},
	)
}

func (k kind[T]) checkRefused(t *testing.T, all ...string) {
	t.Helper()
	for _, digits := range all {
		k.refused(t, unhex(t, digits))
	}
}

func TestBytesThatAreNone(t *testing.T) { // P12.2
	const greatest = "ff ff ff ff ff ff ff ff 7f" // the wire's greatest number
	rests := []string{
		"", "01", "01 00", "01 00 02 00 00", "01 00 02 00 00 01", "01 00 02 00 00 01 00 00", "01 00 02 00 00 01 00 01 00", "02 00 00 02 00 00 01 00", "01 00 03 00 00 00 01 00", "01 00 02 00 00 02 00 00", "00 02 00 00 01 00", "01 00 00 01 00", "01 00 02 00 00 00", "01 00 01 00 01 00",
		"81 00 00 02 00 00 01 00", "01 00 82 00 00 00 01 00", "01 00 02 00 00 81 00 00", "01 80 02 00 00 01 00", "02 80 00 02 00 00 01 00", greatest, greatest + "00 02 00 00 01 00", "01 00" + greatest + "00 00 01 00", "01 00 02 00 00" + greatest + "00", "ff ff ff ff ff ff ff ff ff 01",
		// Not what layer 9 reads: entries, a past, records that aren't in form.
		"01 01 02 00 00 01 00", "06 01 00 00 01 61 04 03 01 01 00 01 00", "01 00 03 01 00 00 01 00", "01 00 05 01 01 01 00 00 01 00", "01 00 02 00 00 05 01 01 41 00 00", "01 00 02 00 00 06 01 01 61 01 02 00", "01 00 02 00 00 09 02 00 01 01 00 00 01 01 00",
		// The frames changed about.
		"02 00 00 01 00 01 00", "01 00 01 00 02 00 00",
	}
	facts, swots := theFacts(), theSwots()
	for _, rest := range rests {
		facts.checkRefused(t, "01"+rest)
		swots.checkRefused(t, "02"+rest)
	}
	for _, first := range []string{"", "00", "03", "7f", "80", "80 00", "81 00", "82 00", "80 01", greatest, "80 80 80 80 80 80 80 80 80 01", "ff ff ff ff ff ff ff ff ff 01"} {
		facts.checkRefused(t, first+"01 00 02 00 00 01 00")
		swots.checkRefused(t, first+"01 00 02 00 00 01 00")
	}
	swots.checkRefused(t,
		// Each in form, and not together: a live entry that isn't in Past, a record within it, one that covers a live entry.
		"02 06 01 00 00 01 41 04 02 00 00 01 00", "02 06 01 00 01 01 41 04 03 01 01 00 01 00", "02 01 00 03 01 02 00 06 01 01 41 01 02 00", "02 01 00 03 01 02 00 06 01 01 41 01 01 00", "02 06 01 00 00 01 41 04 03 01 01 00 06 01 01 41 01 02 00", "02 06 01 00 00 01 41 04 03 01 01 00 05 01 00 01 03 00",
		"01 06 01 00 00 01 41 04 03 01 01 00 01 00",
	)
	facts.checkRefused(t, "02 06 01 00 00 01 41 04 03 01 01 00 01 00", "01 01 00 02 00 00 01", "01 01 00 02 00 00 01 00 00", "01 02 00 00 02 00 00 01 00", "03 01 00 02 00 00 01 00", "")
}

func TestPutSwotOutOfForm(t *testing.T) { // P12.1
	a := es(en(0, 1, "A", 5))
	for _, s := range []api.Swot{
		{Live: a}, {Past: pa([]int{2}), Defer: rs(re("A", []int{2}))}, {Live: a, Past: pa([]int{1}), Defer: rs(re("", []int{3}))}, {Past: pa([]int{0})},
	} {
		if got, err := codec.PutSwot(s); len(got) != 0 || err != api.ErrForm {
			t.Errorf("PutSwot(%v) = %x, %d", s, got, err)
		}
		if got, err := codec.SizeSwot(s); got != 0 || err != api.ErrForm {
			t.Errorf("SizeSwot(%v) = %d, %d", s, got, err)
		}
		// The same as facts: there the form of each part is enough.
		f := api.Facts{Adds: s.Live, Gone: s.Past, Recs: s.Defer}
		want := api.OK
		if !past.IsNorm(s.Past) {
			want = api.ErrForm
		}
		if _, err := codec.PutFacts(f); err != want {
			t.Errorf("PutFacts(%v): %d", f, err)
		}
	}
}

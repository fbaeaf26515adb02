package pack_test

import (
	"bytes"
	"encoding/hex"
	"slices"
	"strings"
	"testing"

	"barrow/api"
	"barrow/pack"
	"barrow/sample"
	"barrow/wire"
)

func (k kind[T]) checkPut(t *testing.T) {
	t.Helper()
	for _, value := range k.right {
		if got, err := k.put(value); !bytes.Equal(got, k.encoding(value)) || err != api.OK {
			t.Errorf("Put%s(%v) = %x, %d, want %x", k.name, value, got, err, k.encoding(value))
		}
	}
	for _, value := range k.wrong {
		if got, err := k.put(value); len(got) != 0 || err != api.ErrForm {
			t.Errorf("Put%s(%v) = %x, %d", k.name, value, got, err)
		}
	}
}

func TestPut(t *testing.T) { // P9.1
	thePasts().checkPut(t)
	theEntries().checkPut(t)
	theRecords().checkPut(t)
}

// checkGet: how many of the bytes are taken?
func (k kind[T]) checkGet(t *testing.T, all [][]byte) int {
	t.Helper()
	taken := 0
	for _, b := range all {
		want, wantErr := k.wanted(b)
		got, err := k.get(b)
		if !k.same(got, want) || err != wantErr {
			t.Errorf("Get%s(%x) = %v, %d, want %v, %d", k.name, b, got, err, want, wantErr)
		}
		if err == api.OK {
			taken++
		}
	}
	return taken
}

func (k kind[T]) checkGets(t *testing.T) {
	t.Helper()
	if taken := k.checkGet(t, shortBytes(6)); taken < 10 {
		t.Errorf("Get%s takes only %d of the short ones", k.name, taken)
	}
	near := k.nearBytes()
	if taken := k.checkGet(t, near); taken < len(k.right) || taken > len(near)/2 {
		t.Errorf("Get%s takes %d of %d that are or nearly are encodings", k.name, taken, len(near))
	}
}

func TestGet(t *testing.T) { // P9.2
	thePasts().checkGets(t)
	theEntries().checkGets(t)
	theRecords().checkGets(t)
}

func (k kind[T]) checkThereAndBack(t *testing.T) {
	t.Helper()
	values := map[string]T{}
	for _, value := range k.right {
		b, _ := k.put(value)
		if got, err := k.get(b); !k.same(got, value) || err != api.OK {
			t.Errorf("Get%s of Put of %v = %v, %d", k.name, value, got, err)
		}
		if other, found := values[string(b)]; found && !k.same(value, other) {
			t.Errorf("Put%s of %v and of %v are both %x", k.name, value, other, b)
		}
		values[string(b)] = value
	}
	for _, b := range slices.Concat(shortBytes(6), k.nearBytes()) {
		value, err := k.get(b)
		if err != api.OK {
			continue
		}
		if back, err := k.put(value); !bytes.Equal(back, b) || err != api.OK {
			t.Errorf("Get%s(%x) = %v, whose Put is %x, %d", k.name, b, value, back, err)
		}
	}
}

func TestThereAndBack(t *testing.T) { // P9.3
	thePasts().checkThereAndBack(t)
	theEntries().checkThereAndBack(t)
	theRecords().checkThereAndBack(t)
}

func (k kind[T]) checkEnds(t *testing.T) {
	t.Helper()
	refused := func(b []byte) {
		t.Helper()
		var none T
		if got, err := k.get(b); !k.same(got, none) || err != api.ErrBad {
			t.Errorf("Get%s(%x) = %v, %d", k.name, b, got, err)
		}
	}
	for _, value := range k.right {
		b, _ := k.put(value)
		for length := range len(b) {
			refused(b[:length])
		}
		for c := range 256 {
			refused(append(slices.Clone(b), byte(c)))
		}
		refused(slices.Concat(b, b))
	}
}

func TestNothingShorterAndNothingLongerIsTaken(t *testing.T) { // P9.4
	thePasts().checkEnds(t)
	theEntries().checkEnds(t)
	theRecords().checkEnds(t)
}

func TestSizes(t *testing.T) { // P9.5
	for _, p := range rightPasts() {
		p.Cloud = nil
		if b, err := pack.PutPast(p); len(b) > 2+5*len(p.Vec) || err != api.OK {
			t.Errorf("PutPast(%v) has %d bytes, %d", p, len(b), err)
		}
	}
	for _, list := range rightEntries() {
		most := wire.Size(len(list))
		for _, e := range list {
			most += 10 + len(e.Sku)
		}
		if b, err := pack.PutEntries(list); len(b) > most || err != api.OK {
			t.Errorf("PutEntries(%v) has %d bytes, %d, at most %d", list, len(b), err, most)
		}
	}
	if b, _ := pack.PutPast(pa(slices.Repeat([]int{api.MaxNum}, 16))); len(b) != 2+5*16 {
		t.Errorf("the widest past without a cloud has %d bytes", len(b))
	}
	if b, _ := pack.PutEntries(es(en(15, api.MaxNum, strings.Repeat("Z", 24), api.MaxQty))); len(b) != 1+10+24 {
		t.Errorf("the widest entry has %d bytes", len(b)-1)
	}
}

func unhex(t *testing.T, digits string) []byte {
	t.Helper()
	b, err := hex.DecodeString(strings.ReplaceAll(digits, " ", ""))
	if err != nil {
		t.Fatal(err)
	}
	return b
}

// An example is a value in form and its bytes, in base 16.
type example[T any] struct {
	value T
	bytes string
}

func (k kind[T]) checkExamples(t *testing.T, all ...example[T]) {
	t.Helper()
	for _, x := range all {
		b := unhex(t, x.bytes)
		if got, err := k.put(x.value); !bytes.Equal(got, b) || err != api.OK {
			t.Errorf("Put%s(%v) = % x, %d, want %s", k.name, x.value, got, err, x.bytes)
		}
		if got, err := k.get(b); !k.same(got, x.value) || err != api.OK {
			t.Errorf("Get%s(%s) = %v, %d, want %v", k.name, x.bytes, got, err, x.value)
		}
	}
}

func TestExamples(t *testing.T) { // P9.1, P9.2
	thePasts().checkExamples(t,
		example[api.Past]{pa(nil), "00 00"},
		example[api.Past]{pa([]int{4}, sp(0, 6, 12), sp(1, 2, 2)), "01 04 02 00 00 06 01 00 00"},
		example[api.Past]{pa([]int{300}, sp(2, 5, 5), sp(2, 9, 10)), "01 ac 02 02 02 03 00 00 02 01"},
		example[api.Past]{pa(nil, sp(15, 2, 2)), "00 01 0f 00 00"},
		example[api.Past]{pa([]int{0, 7}), "02 00 07 00"},
		example[api.Past]{pa([]int{0, 7}, sp(0, 2, 2), sp(1, 9, 9)), "02 00 07 02 00 00 00 01 00 00"},
	)
	theEntries().checkExamples(t,
		example[[]api.Entry]{es(en(0, 1, "A", 5), en(0, 3, "AB", 1), en(2, 1, "A", 7)), "03 00 00 01 41 04 00 01 02 41 42 00 02 00 01 41 06"},
		example[[]api.Entry]{nil, "00"},
		example[[]api.Entry]{es(en(0, 1, "A", 1000000)), "01 00 00 01 41 bf 84 3d"},
		example[[]api.Entry]{es(en(15, 1000000000, "A", 1)), "01 0f ff 93 eb dc 03 01 41 00"},
	)
	theRecords().checkExamples(t,
		example[[]api.Record]{rs(re("", []int{1}), re("A", []int{2})), "02 00 01 01 00 01 41 01 02 00"},
		example[[]api.Record]{nil, "00"},
		example[[]api.Record]{rs(re("A", nil, sp(0, 2, 2)), re("A", []int{1})), "02 01 41 00 01 00 00 00 01 41 01 01 00"},
	)
}

func (k kind[T]) checkRefused(t *testing.T, all ...string) {
	t.Helper()
	for _, digits := range all {
		var none T
		if got, err := k.get(unhex(t, digits)); !k.same(got, none) || err != api.ErrBad {
			t.Errorf("Get%s(%s) = %v, %d", k.name, digits, got, err)
		}
	}
}

const (
	most     = "80 94 eb dc 03"             // MaxNum
	oneLess  = "ff 93 eb dc 03"             // MaxNum - 1
	twoLess  = "fe 93 eb dc 03"             // MaxNum - 2
	oneMore  = "81 94 eb dc 03"             // MaxNum + 1
	greatest = "ff ff ff ff ff ff ff ff 7f" // the wire's greatest number
)

func TestPastsThatAreNone(t *testing.T) { // P9.2
	k := thePasts()
	k.checkRefused(t,
		"", "00", "01", "01 00 00", "02 01 00 00", "00 00 00", "01 01", "80 00 00", "00 80 00", "01 81 00 00",
		"11"+strings.Repeat("01", 17)+"00", greatest+"00", "01"+oneMore+"00", "01"+greatest+"00",
		"00 01", "00 01 00", "00 01 00 00", "00 01 10 00 00", "00 01"+greatest+"00 00", "00 02 0f 00 00 01 00 00", "00 02 00 00 00"+greatest+"00 00",
		// Behind the vector or a span of the replica's last number nothing has room.
		"01"+most+"01 00 00 00", "01"+oneLess+"01 00 00 00", "01"+twoLess+"01 00 01 00", "01"+twoLess+"01 00 00 01", "00 02 00"+twoLess+"00 00 00 00", "00 01 00"+oneLess+"00", "00 01 00"+most+"00", "00 01 00"+greatest+"00", "00 01 00 00"+greatest, "00 01 00 00"+oneLess,
		// So many spans aren't there.
		"00"+greatest, "00"+greatest+"00 00 00", "00 02 00 00 00",
	)
	k.checkExamples(t,
		example[api.Past]{pa([]int{api.MaxNum - 2}, sp(0, api.MaxNum, api.MaxNum)), "01" + twoLess + "01 00 00 00"},
		example[api.Past]{pa(nil, sp(0, api.MaxNum, api.MaxNum)), "00 01 00" + twoLess + "00"},
		example[api.Past]{pa(nil, sp(0, 2, api.MaxNum)), "00 01 00 00" + twoLess},
		example[api.Past]{pa(slices.Repeat([]int{1}, 16)), "10" + strings.Repeat("01", 16) + "00"},
	)
}

func TestEntriesThatAreNone(t *testing.T) { // P9.2
	k := theEntries()
	long := "01 00 00 19" + strings.Repeat("41", 25) + "00"
	k.checkRefused(t,
		"", "01", "00 00", "80 00", "01 00 00 00 04", "01 00 00 01 41 c0 84 3d", "01 00 00 01 41"+greatest, "01 00 00 01 61 04", "01 00 00 02 41 2d 00", "01 00 00 01 ff 00", long,
		"01 10 00 01 41 00", "01"+greatest+"00 01 41 00", "02 0f 00 01 41 00 01 00 01 41 00", "01 00"+most+"01 41 00", "01 00"+greatest+"01 41 00",
		"02 00 00 01 41 00", "02 00"+oneLess+"01 41 00 00 00 01 41 00", "01 00 00 02 41 04", "01 00 00 01 41 84 00", "01 80 00 00 01 41 04", "01 00 80 00 01 41 04", "01 00 00 81 00 41 04",
		greatest, greatest+"00 00 01 41 00", "01 00 00 01 41 04 00",
	)
	k.checkExamples(t,
		example[[]api.Entry]{es(en(0, api.MaxNum, "A", 1), en(1, 1, "A", 1)), "02 00" + oneLess + "01 41 00 01 00 01 41 00"},
		example[[]api.Entry]{es(en(0, 1, strings.Repeat("A", 24), 1)), "01 00 00 18" + strings.Repeat("41", 24) + "00"},
	)
}

func TestRecordsThatAreNone(t *testing.T) { // P9.2
	theRecords().checkRefused(t,
		"", "01", "00 00", "02 01 41 01 02 00 00 01 01 00", "01 01 41 00 00", "01 00 00 00", "01 01 61 01 01 00", "01 01 41 01 00 00", "01 01 41 01 01 00 00", "02 00 01 01 00 00 01 01 00",
		"02 01 41 01 02 00 01 41 01 01 00", "02 01 41 01 01 00 01 41 00 01 00 00 00", "01 19"+strings.Repeat("41", 25)+"01 01 00", "01 80 00 01 01 00", "01 00 81 00 01 00", greatest, greatest+"00 01 01 00", "01 01 41 11"+strings.Repeat("01", 17)+"00",
	)
}

func TestPutOutOfForm(t *testing.T) { // P9.1
	for _, p := range []api.Past{pa([]int{0}), pa([]int{1}, sp(0, 2, 2)), pa(slices.Repeat([]int{1}, 17)), pa(nil, sp(16, 2, 2)), pa(nil, sp(-1, 2, 2)), pa([]int{-1, 1})} {
		if got, err := pack.PutPast(p); len(got) != 0 || err != api.ErrForm {
			t.Errorf("PutPast(%v) = %x, %d", p, got, err)
		}
		list := rs(api.Record{Sku: "A", Past: p})
		if got, err := pack.PutRecords(list); len(got) != 0 || err != api.ErrForm {
			t.Errorf("PutRecords(%v) = %x, %d", list, got, err)
		}
	}
	for _, w := range sample.WrongEntries() {
		if got, err := pack.PutEntries(es(w.Value)); len(got) != 0 || err != api.ErrForm {
			t.Errorf("PutEntries(%v) = %x, %d", w.Value, got, err)
		}
	}
	for _, w := range sample.WrongRecords() {
		if got, err := pack.PutRecords(rs(w.Value)); len(got) != 0 || err != api.ErrForm {
			t.Errorf("PutRecords(%v) = %x, %d", w.Value, got, err)
		}
	}
}

func TestNilAndEmptyHaveTheSameBytes(t *testing.T) { // P9.1, R2
	if b, err := pack.PutPast(api.Past{Vec: []int{}, Cloud: []api.Span{}}); string(b) != "\x00\x00" || err != api.OK {
		t.Errorf("PutPast of empty lists = %x, %d", b, err)
	}
	if b, err := pack.PutEntries(es()); string(b) != "\x00" || err != api.OK {
		t.Errorf("PutEntries of an empty list = %x, %d", b, err)
	}
	if b, err := pack.PutRecords([]api.Record{}); string(b) != "\x00" || err != api.OK {
		t.Errorf("PutRecords of an empty list = %x, %d", b, err)
	}
	if p, err := pack.GetPast(nil); !sample.SamePast(p, api.Past{}) || err != api.ErrBad {
		t.Errorf("GetPast of nil = %v, %d", p, err)
	}
}

func TestVeryMany(t *testing.T) { // P9.3
	var p api.Past
	var list []api.Entry
	var recs []api.Record
	for i := 1; i <= 20000; i++ {
		p.Cloud = append(p.Cloud, sp(7, 3*i, 3*i+i%2))
		list = append(list, en(7, 5*i, "A", i))
		recs = append(recs, re("B", []int{i}))
	}
	pasts, entries, records := thePasts(), theEntries(), theRecords()
	pasts.checkOne(t, p)
	entries.checkOne(t, list)
	records.checkOne(t, recs)
}

func (k kind[T]) checkOne(t *testing.T, value T) {
	t.Helper()
	b, err := k.put(value)
	if err != api.OK || !bytes.Equal(b, k.encoding(value)) {
		t.Errorf("Put%s answers %d bytes, %d", k.name, len(b), err)
	}
	if got, err := k.get(b); err != api.OK || !k.same(got, value) {
		t.Errorf("Get%s of %d bytes answers something else, %d", k.name, len(b), err)
	}
}

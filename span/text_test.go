package span_test

import (
	"strings"
	"testing"

	"barrow/api"
	"barrow/span"
)

func TestShow(t *testing.T) { // P1.7
	for _, c := range []struct {
		a    []api.Run
		want string
	}{
		{nil, "none"}, {[]api.Run{}, "none"}, {runs(5, 4, -3, 0), "none"}, {runs(7, 7), "7"}, {runs(1, 2), "1..2"},
		{runs(3, 3, 1, 1, 6, 9), "1,3,6..9"}, {runs(8, most, 1, 4, 6, 6), "1..4,6,8..1000000000"}, {runs(2, 2, 1, 1), "1..2"},
		{runs(leastInt, greatInt), "1..1000000000"}, {runs(most, most), "1000000000"}, {runs(100, 100, 20, 30), "20..30,100"},
	} {
		if got := span.Show(c.a); got != c.want {
			t.Errorf("Show(%v) = %q, want %q", c.a, got, c.want)
		}
	}
}

func TestReadOfShowIsNorm(t *testing.T) { // P1.7
	check := func(a []api.Run) {
		if got, err := span.Read(span.Show(a)); err != api.OK || !same(got, span.Norm(a)) {
			t.Errorf("Read(%q) = %v, %d", span.Show(a), got, err)
		}
	}
	each(300, func(w window, a []api.Run) { check(a) })
	for _, c := range wild() {
		check(c.a)
	}
}

func TestReadRefusesWhatShowDoesNotWrite(t *testing.T) { // P1.7
	for _, s := range []string{
		"", " ", "none ", " none", "None", "NONE", "non", "none,none", "none,1", "1,none", "none..none",
		"0", "00", "01", "1..02", "+1", "-1", "-0", "1..+2", "1_000", "0x1", "1e3", "1.0", "a", "1a",
		"1,2", "1,1", "5,3", "1..3,4", "1..3,3", "1..3,2..5", "1..9,3", "3..3", "3..1", "0..3", "1..1000000001",
		"1..", "..1", "..", ".", "1.3", "1...3", "1..3..5", "1..2,", ",1", ",", "1,,3", "1;3", "1, 3", "1 ,3", "1 ..3", "1.. 3", "1\n", "\x001", "1\x00",
		"1000000001", "99999999999999999999", "18446744073709551617", "9223372036854775808", "-9223372036854775807", strings.Repeat("9", 5000), strings.Repeat("0", 5000) + "1",
		"\uff11", "1\u20263", "\xff",
	} {
		if got, err := span.Read(s); err != api.ErrText || len(got) != 0 {
			t.Errorf("Read(%q) = %v, %d", s, got, err)
		}
	}
}

// Every text of up to six of these characters is asked: the only ones taken are those that Show writes of what they were read as.
func TestReadTakesJustTheTextsOfShow(t *testing.T) { // P1.7
	texts := []string{""}
	taken := 0
	for range 6 {
		var longer []string
		for _, s := range texts {
			for _, c := range []string{"0", "1", "2", "4", ",", "."} {
				longer = append(longer, s+c)
			}
		}
		for _, s := range longer {
			got, err := span.Read(s)
			if err == api.OK && (span.Show(got) != s || !span.IsNorm(got)) || err != api.OK && err != api.ErrText {
				t.Errorf("Read(%q) = %v, %d, whose Show is %q", s, got, err, span.Show(got))
			}
			if err == api.OK {
				taken++
			}
		}
		texts = longer
	}
	if taken == 0 {
		t.Errorf("no text was taken")
	}
}

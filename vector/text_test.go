package vector_test

import (
	"strconv"
	"strings"
	"testing"

	"barrow/api"
	"barrow/vector"
)

func TestShow(t *testing.T) { // P3.6
	for _, v := range samples(500) {
		var words []string
		for rep := range reps {
			if n := number(v, rep); n > 0 {
				words = append(words, "abcdefghijklmnop"[rep:rep+1]+strconv.Itoa(n))
			}
		}
		want := strings.Join(words, " ")
		if want == "" {
			want = "none"
		}
		if got := vector.Show(v); got != want {
			t.Errorf("Show(%v) = %q, want %q", v, got, want)
		}
	}
	for _, c := range []struct {
		v    []int
		want string
	}{
		{nil, "none"}, {[]int{0, -3}, "none"}, {append(lastPlace(0), 8), "none"}, {[]int{3, 0, 12}, "a3 c12"}, {[]int{0, 3, 0, 5}, "b3 d5"},
		{lastPlace(greatInt), "p1000000000"}, {repeated(7, 18), "a7 b7 c7 d7 e7 f7 g7 h7 i7 j7 k7 l7 m7 n7 o7 p7"},
	} {
		if got := vector.Show(c.v); got != c.want {
			t.Errorf("Show(%v) = %q, want %q", c.v, got, c.want)
		}
	}
}

func TestReadOfShowIsNorm(t *testing.T) { // P3.6
	for _, v := range samples(500) {
		if got, err := vector.Read(vector.Show(v)); err != api.OK || !same(got, inForm(v)) {
			t.Errorf("Read(%q) = %v, %d", vector.Show(v), got, err)
		}
	}
	for _, c := range []struct {
		s    string
		want []int
	}{{"none", nil}, {"b3 d5", []int{0, 3, 0, 5}}, {"a1000000000", []int{most}}, {"p1", lastPlace(1)}} {
		if got, err := vector.Read(c.s); err != api.OK || !same(got, c.want) {
			t.Errorf("Read(%q) = %v, %d, want %v", c.s, got, err, c.want)
		}
	}
}

func TestReadRefusesWhatShowDoesNotWrite(t *testing.T) { // P3.6
	for _, s := range []string{
		"", " ", "  ", "none ", " none", "None", "NONE", "non", "none none", "none a1", "a1 none", "n", "o", "o ne",
		"a", "a0", "a00", "a03", "b0 c1", "c1 b0", "a+1", "a-1", "a-0", "a 1", "a1_0", "a0x1", "a1e3", "a1.0", "a1a", "1", "1a", "aa1", "a1b2",
		"d5 b3", "c1 a1", "a1 a2", "a1 a1", "a2 a1", "a1  b2", " a1", "a1 ", "a1\tb2", "a1\n", "a1,b2", "a1\nb2", "a1\u00a0b2",
		"q1", "A1", "P1", "z1", "`1", "\x001", "\xff1", "-1", "\u00e91", "\uff411", "a\uff11", "a1\x00",
		"a1000000001", "p1000000001", "a2000000000", "a10000000000", "a99999999999999999999", "a18446744073709551617", "a9223372036854775808", "a-9223372036854775807", "a" + strings.Repeat("9", 5000), "a" + strings.Repeat("0", 5000) + "1",
		"a1000000001 b1", strings.Repeat("a1 ", 40) + "a1", strings.Repeat(" ", 40),
	} {
		if got, err := vector.Read(s); err != api.ErrText || len(got) != 0 {
			t.Errorf("Read(%q) = %v, %d", s, got, err)
		}
	}
}

// Every text of up to six of these characters is asked: the only ones taken are those that Show writes of what they were read as.
func TestReadTakesJustTheTextsOfShow(t *testing.T) { // P3.6
	texts := []string{""}
	taken := 0
	for range 6 {
		var longer []string
		for _, s := range texts {
			for _, c := range []string{"a", "b", "q", "0", "1", "2", " ", "-"} {
				longer = append(longer, s+c)
			}
		}
		for _, s := range longer {
			got, err := vector.Read(s)
			if err == api.OK && (vector.Show(got) != s || !vector.IsNorm(got)) || err != api.OK && err != api.ErrText {
				t.Errorf("Read(%q) = %v, %d, whose Show is %q", s, got, err, vector.Show(got))
			}
			if err == api.OK {
				taken++
			}
		}
		texts = longer
	}
	// One of two letters and one to five digits; or both, and two or three digits in all. A number's first digit is one of two, each further one of three.
	if want := 2*(2+6+18+54+162) + (2*2 + 2*6 + 6*2); taken != want {
		t.Errorf("%d texts were taken, want %d", taken, want)
	}
}

package shop_test

import (
	"strings"
	"testing"

	"barrow/script"
	"barrow/shop"
)

func TestTexts(t *testing.T) { // P29.3, P29.5, P29.6, P1, P2, P3, P4
	refused, nothing := 0, 0
	for _, text := range texts(150) {
		want := pageOf(text)
		if got := shop.Run(text); got != want.run {
			t.Fatalf("Run(%q) = %q, want %q", text, got, want.run)
		}
		if got := shop.Final(text); got != want.final {
			t.Fatalf("Final(%q) = %q, want %q", text, got, want.final)
		}
		if got := shop.Sizes(text); got != want.sizes {
			t.Fatalf("Sizes(%q) = %q, want %q", text, got, want.sizes)
		}
		if strings.HasPrefix(want.run, "line ") {
			refused++
		}
		if want.final == "nothing\n" && want.sizes != want.final {
			nothing++
		}
	}
	if refused < 50 || nothing < 5 {
		t.Errorf("only %d texts are refused, and %d end with empty carts", refused, nothing)
	}
}

func TestWrongTexts(t *testing.T) { // P29.3, P29.5, P29.6
	for text, want := range wrongTexts() {
		if run, final, sizes := shop.Run(text), shop.Final(text), shop.Sizes(text); run != want || final != want || sizes != want {
			t.Errorf("%q: %q, %q, %q, want %q", text, run, final, sizes, want)
		}
	}
}

// runs are the document's examples of the whole, 1 to 9.
func runs() [][2]string {
	return [][2]string{
		{"store 2 1 10 100 8 4\nset 0 0 TEA-1 5\nsync 0 1\ndeliver 1\nread 1 0\n", "1 ok\n2 ok message 1\n3 ok message 2\n4 ok token 1\n  TEA-1 5\nsteps 4 messages 2\n"},
		{"store 2 1 10 100 8 4\nset 0 0 TEA-1 5\nset 1 0 TEA-1 3\nsync 0 1\ndeliver 1\nread 1 0\n", "1 ok\n2 ok\n3 ok message 1\n4 ok message 2\n5 ok token 1\n  TEA-1 8 in 2\nsteps 5 messages 2\n"},
		{"store 1 1 10 100 8 4\nset 0 0 A 5\nadd 0 0 A 2\nread 0 0\n", "1 ok\n2 ok\n3 ok token 1\n  A 7\nsteps 3 messages 0\n"},
		{"store 2 1 10 100 8 4\nset 0 0 A 5\nsync 0 1\ndeliver 1\nadd 1 0 A 2\nremove 0 0 A\nsync 0 1\ndeliver 3\nsync 1 0\ndeliver 5\nread 0 0\nread 1 0\n", "1 ok\n2 ok message 1\n3 ok message 2\n4 ok\n5 ok\n6 ok message 3\n7 ok message 4\n8 ok message 5\n9 ok message 6\n10 ok token 1\n  A 2\n11 ok token 2\n  A 2\nsteps 11 messages 6\n"},
		{"store 2 1 10 100 8 4\nset 0 0 A 5\nread 0 0\nremoveto 1 A 1\nsync 0 1\ndeliver 1\nread 1 0\n", "1 ok\n2 ok token 1\n  A 5\n3 ok\n4 ok message 1\n5 ok message 2\n6 ok token 2\nsteps 6 messages 2\n"},
		{"store 2 1 10 100 8 4\nset 0 0 A 1\nset 0 0 B 2\npush 0 1 0\ndeliver 1\nread 1 0\n", "1 ok\n2 ok\n3 ok message 1\n4 ok\n5 ok token 1\n  B 2\nsteps 5 messages 1\n"},
		{"store 2 1 1 1 8 4\nset 0 0 \"tea\" 5\nset 0 0 A 0\nset 2 0 A 1\nset 0 1 A 1\nset 0 0 A 1\nadd 0 0 A 1000000\nset 0 0 B 1\nset 0 0 A 2\nremove 0 0 B\ndeliver 9\nremoveto 0 A 1\nsync 0 0\npush 0 1 5\nop 99\n", "1 sku\n2 quantity\n3 replica\n4 cart\n5 ok\n6 overflow\n7 full\n8 exhausted\n9 absent\n10 message\n11 token\n12 self\n13 number\n14 kind\nsteps 14 messages 0\n"},
		{"store 2 1 10 100 8 4\nset 0 0 A 5\nsync 0 1\ntrim 1 1\ndeliver 1\nread 1 0\n", "1 ok\n2 ok message 1\n3 ok\n4 malformed\n5 ok token 1\nsteps 5 messages 1\n"},
		{"store 2 1 10 100 8 4\nset 0 0 A 5\nask 1 0\ndeliver 1\ndeliver 2\nread 1 0\n", "1 ok\n2 ok message 1\n3 ok message 2\n4 ok\n5 ok token 1\n  A 5\nsteps 5 messages 2\n"},
	}
}

func TestRunExamples(t *testing.T) { // P29.3, P8
	for i, x := range runs() {
		if got := shop.Run(x[0]); got != x[1] {
			t.Errorf("example %d: %q, want %q", i+1, got, x[1])
		}
	}
	if got := shop.Run("# nothing is done\n\n store 0 -1 99 0 0 0 \r\n"); got != "steps 0 messages 0\n" {
		t.Errorf("Run of no steps: %q", got)
	}
}

func TestFinalExamples(t *testing.T) { // P29.5
	for text, want := range map[string]string{
		"store 3 2 10 100 8 4\nset 0 0 A 5\nset 1 0 A 2\nset 2 1 B 1\n": "cart 0\n  A 7 in 2\ncart 1\n  B 1\n",
		"store 2 2 1 1 1 1\n":                                                                              "nothing\n",
		"store 2 2 10 100 8 4\nset 0 0 A 5\nclear 0 0\n":                                                   "nothing\n",
		"store 2 12 10 100 8 4\nset 0 11 B 5\nset 1 11 A-1 5\nset 1 11 A 1\n":                              "cart 11\n  A 1\n  A-1 5\n  B 5\n",
		"store 2 12 10 100 8 4\nset 1 10 A 1\nset 0 9 A 1\n":                                               "cart 9\n  A 1\ncart 10\n  A 1\n",
		"store 2 1 10 100 8 4\nset 0 0 A 5\nset 0 0 B 1\nread 0 0\nsync 0 1\nclearto 1 1\n":                "nothing\n",
		"store 2 1 10 100 8 4\nset 0 0 A 5\nread 0 0\nset 0 0 A 1000000\nset 1 0 A 1000000\nclearto 1 1\n": "cart 0\n  A 2000000 in 2\n",
	} {
		if got := shop.Final(text); got != want {
			t.Errorf("Final(%q) = %q, want %q", text, got, want)
		}
	}
}

func TestSizesExamples(t *testing.T) { // P29.6
	for text, want := range map[string]string{
		"store 2 1 10 100 8 4\nset 0 0 A 1\nset 0 0 B 2\npush 0 1 0\ndeliver 1\nread 1 0\n": "replica 0 cart 0 bytes 19 live 2 skus 2 holes 0 waits 0\nreplica 1 cart 0 bytes 16 live 1 skus 1 holes 1 waits 0\n",
		"store 2 2 1 1 1 1\n": "nothing\n",
		// An event that is empty touches nothing, and a mail without events brings nothing.
		"store 2 2 10 100 8 4\nclear 0 0\nread 0 0\nclearto 0 1\nfull 0 1\ndeliver 1\n": "nothing\n",
		// What was cleared is still heard of.
		"store 2 2 10 100 8 4\nset 1 1 AB 1\nclear 1 1\n": "replica 1 cart 1 bytes 10 live 0 skus 0 holes 0 waits 0\n",
		// A record that waits, and nothing else.
		"store 2 2 10 100 8 4\nset 0 1 AB 1\nread 0 1\nremoveto 1 AB 1\nset 0 0 A 1\n": "replica 0 cart 0 bytes 14 live 1 skus 1 holes 0 waits 0\nreplica 0 cart 1 bytes 15 live 1 skus 2 holes 0 waits 0\nreplica 1 cart 1 bytes 14 live 0 skus 0 holes 0 waits 1\n",
	} {
		if got := shop.Sizes(text); got != want {
			t.Errorf("Sizes(%q) = %q, want %q", text, got, want)
		}
	}
}

// A text in other words, with remarks and blanks, is the same script.
func TestPrintedTextsAnswerTheSame(t *testing.T) { // P29.3
	for _, x := range runs() {
		wordy := "# carts\n\n" + strings.ReplaceAll(strings.ReplaceAll(x[0], " ", " \t "), "\n", "\r\n\n# so\n")
		s, _, _ := script.Parse(x[0])
		if got, again := shop.Run(wordy), shop.Run(script.Print(s)); got != x[1] || again != x[1] {
			t.Errorf("Run(%q) = %q, and of the printed script %q, want %q", wordy, got, again, x[1])
		}
	}
}

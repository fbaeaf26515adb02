package vector

import (
	"strconv"
	"strings"

	"barrow/api"
)

const (
	noughtsText = "none"
	wordBlank   = " "
	firstLetter = 'a' // of replica 0; the others' letters follow
)

// Show: the vector as a text.
func Show(v []int) string { return meant(v).text() }

func (c counts) text() string {
	var words []string
	for rep := range api.MaxReps {
		if c[rep] > 0 {
			words = append(words, string(rune(firstLetter+rep))+strconv.Itoa(c[rep]))
		}
	}
	if len(words) == 0 {
		return noughtsText
	}
	return strings.Join(words, wordBlank)
}

// Read: the vector of a text.
func Read(s string) ([]int, api.Errno) {
	c, ok := parse(s)
	// parse takes more than Show writes (signs, zeros in front, words out of order or twice); what is one of Show's own texts, Show itself tells.
	if !ok || Show(c[:]) != s {
		return nil, api.ErrText
	}
	return Norm(c[:]), api.OK
}

func parse(s string) (counts, bool) {
	var c counts
	if s == noughtsText {
		return c, true
	}
	for word := range strings.SplitSeq(s, wordBlank) {
		if word == "" {
			return counts{}, false
		}
		rep := int(word[0]) - firstLetter
		n, err := strconv.Atoi(word[1:])
		if !isRep(rep) || err != nil {
			return counts{}, false
		}
		c[rep] = n
	}
	return c, true
}

package script

import "barrow/api"

const (
	headWord    = "store"
	headNumbers = 6
)

// A reading is what was read of a script, line by line.
type reading struct {
	script api.Script
	headed bool // was there a head?
}

// take: the next line; false, if it is wrong.
func (r *reading) take(line string) bool {
	words, ok := cut(line)
	if !ok || len(words) == 0 {
		return ok
	}
	if !r.headed {
		r.script.Head, r.headed = head(words)
		return r.headed
	}
	o, ok := step(words)
	r.script.Ops = append(r.script.Ops, o)
	return ok
}

// head: the head that the words say; there is at least one.
func head(words []string) (api.Header, bool) {
	if words[0] != headWord || len(words) != 1+headNumbers {
		return api.Header{}, false
	}
	var n [headNumbers]int
	for i, word := range words[1:] {
		var ok bool
		if n[i], ok = numberOf(word); !ok {
			return api.Header{}, false
		}
	}
	return api.Header{Reps: n[0], Carts: n[1], Lines: n[2], Count: n[3], Log: n[4], Tokens: n[5]}, true
}

// step: the op that the words say; no words say none.
func step(words []string) (api.Op, bool) {
	if len(words) == 0 {
		return api.Op{}, false
	}
	kind, ok := kindOf(words[0])
	if !ok || len(words) != 1+len(shapes[kind].fields) {
		return api.Op{}, false
	}
	o := api.Op{Kind: kind}
	for i, word := range words[1:] {
		if !put(&o, shapes[kind].fields[i], word) {
			return api.Op{}, false
		}
	}
	// A kind that has a word of its own isn't told by its number.
	if shapeOf(o.Kind).word != words[0] {
		return api.Op{}, false
	}
	return o, true
}

// put: the word's meaning comes into the field; false, if it has none there.
func put(o *api.Op, field byte, word string) bool {
	var ok bool
	if field == inSku {
		o.Sku, ok = skuOf(word)
	} else {
		*numberIn(o, field), ok = numberOf(word)
	}
	return ok
}

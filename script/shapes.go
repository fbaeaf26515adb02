package script

import "barrow/api"

// A shape is how the ops of one kind are written: their word, and the fields that the words behind it say, each by its first letter.
type shape struct{ word, fields string }

// The letter of the one field that isn't a number; numberIn knows the others.
const inSku = 's'

// shapes: each kind's at its own number, and at 0 that of all other kinds.
var shapes = [...]shape{
	0:              {"op", "k"},
	api.OpSet:      {"set", "rcsq"},
	api.OpAdd:      {"add", "rcsq"},
	api.OpRemove:   {"remove", "rcs"},
	api.OpRemoveTo: {"removeto", "rsn"},
	api.OpClear:    {"clear", "rc"},
	api.OpClearTo:  {"clearto", "rn"},
	api.OpRead:     {"read", "rc"},
	api.OpSync:     {"sync", "rt"},
	api.OpFull:     {"full", "rt"},
	api.OpAsk:      {"ask", "rt"},
	api.OpDeliver:  {"deliver", "n"},
	api.OpCopy:     {"copy", "n"},
	api.OpDrop:     {"drop", "n"},
	api.OpTrim:     {"trim", "nq"},
	api.OpRestart:  {"restart", "r"},
	api.OpPush:     {"push", "rtn"},
}

// shapeOf: how an op of any kind is written.
func shapeOf(kind int) shape {
	if kind < 0 || kind >= len(shapes) {
		return shapes[0]
	}
	return shapes[kind]
}

// kindOf: the kind that the word tells; 0 is that of all kinds without a word of their own.
func kindOf(word string) (int, bool) {
	for kind, s := range shapes {
		if s.word == word {
			return kind, true
		}
	}
	return 0, false
}

// numberIn: where the op has the number of the field with that letter.
func numberIn(o *api.Op, field byte) *int {
	switch field {
	case 'k':
		return &o.Kind
	case 'r':
		return &o.Rep
	case 'c':
		return &o.Cart
	case 't':
		return &o.To
	case 'q':
		return &o.Qty
	}
	return &o.Num
}

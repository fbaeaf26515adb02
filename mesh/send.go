package mesh

import (
	"barrow/api"
	"barrow/node"
)

// Send: a sync goes on its way; its number.
func (m *Mesh[S, E]) Send(from, to int, full bool) (int, api.Errno) {
	return m.post(from, to, func(n *node.Node[S, E]) ([]byte, api.Errno) { return n.Sync(to, full) })
}

// Ask: a question goes on its way; its number.
func (m *Mesh[S, E]) Ask(from, to int) (int, api.Errno) {
	return m.post(from, to, func(n *node.Node[S, E]) ([]byte, api.Errno) { return n.Ask(to) })
}

// Push: one item of the log goes on its way; its number.
func (m *Mesh[S, E]) Push(from, to, back int) (int, api.Errno) {
	return m.post(from, to, func(n *node.Node[S, E]) ([]byte, api.Errno) { return n.Push(to, back) })
}

// post: what the replica from writes goes on its way; its number.
func (m *Mesh[S, E]) post(from, to int, write func(n *node.Node[S, E]) ([]byte, api.Errno)) (int, api.Errno) {
	n, err := m.at(from)
	if err != api.OK {
		return 0, err
	}
	b, err := write(n)
	if err != api.OK {
		return 0, err
	}
	return m.letters.Put(api.Letter{From: from, To: to, Bytes: b}), api.OK
}

// Deliver: the message comes to its replica; the number of the answer that it made (0: none).
func (m *Mesh[S, E]) Deliver(n int) (int, api.Errno) {
	l, err := m.letters.Take(n)
	if err != api.OK {
		return 0, err
	}
	// No letter is put but for a replica that there is.
	answer, to, err := m.reps[l.To].Deliver(l.Bytes)
	if err != api.OK || len(answer) == 0 {
		return 0, err
	}
	return m.letters.Put(api.Letter{From: l.To, To: to, Bytes: answer}), api.OK
}

// Copy: a second message like it; its number.
func (m *Mesh[S, E]) Copy(n int) (int, api.Errno) { return m.letters.Copy(n) }

// Drop: the message is lost.
func (m *Mesh[S, E]) Drop(n int) api.Errno { return m.letters.Drop(n) }

// Trim: so many bytes are cut off the message's end.
func (m *Mesh[S, E]) Trim(n, cut int) api.Errno { return m.letters.Trim(n, cut) }

// Look: the message under way.
func (m *Mesh[S, E]) Look(n int) (api.Letter, api.Errno) { return m.letters.Look(n) }

// Waiting: the numbers of the messages under way, rising.
func (m *Mesh[S, E]) Waiting() []int { return m.letters.Waiting() }

// Made: how many messages there have been.
func (m *Mesh[S, E]) Made() int { return m.letters.Made() }

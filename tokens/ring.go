package tokens

import (
	"slices"

	"barrow/api"
)

// Ring holds the last tokens, numbered from 1 on.
type Ring struct {
	keep, given int
	held        []api.Token // the token of the number n is at the place (n - 1) % keep
}

// New: a ring that holds so many.
func New(keep int) (*Ring, api.Errno) {
	if keep < 0 || keep > api.MaxTokens {
		return nil, api.ErrArg
	}
	return &Ring{keep: keep}, api.OK
}

// Give: the token's number.
func (r *Ring) Give(t api.Token) (int, api.Errno) {
	if err := Check(t); err != api.OK {
		return 0, err
	}
	r.hold(own(t))
	r.given++
	return r.given, api.OK
}

// hold: the token takes the place of the oldest, once the ring is full.
func (r *Ring) hold(t api.Token) {
	switch {
	case len(r.held) < r.keep:
		r.held = append(r.held, t)
	case r.keep > 0:
		r.held[r.given%r.keep] = t
	}
}

// own: the token with lists that nobody else can reach.
func own(t api.Token) api.Token {
	t.Past.Vec = slices.Clone(t.Past.Vec)
	t.Past.Cloud = slices.Clone(t.Past.Cloud)
	return t
}

// Find: the token of that number.
func (r *Ring) Find(n int) (api.Token, api.Errno) {
	first, last := r.Span()
	if first == 0 || n < first || n > last {
		return api.Token{}, api.ErrToken
	}
	return own(r.held[(n-1)%r.keep]), api.OK
}

// Span: the numbers of the oldest and the newest token that are held; 0, 0: none.
func (r *Ring) Span() (int, int) {
	if len(r.held) == 0 {
		return 0, 0
	}
	return r.given - len(r.held) + 1, r.given
}

// Given: how many there have been.
func (r *Ring) Given() int { return r.given }

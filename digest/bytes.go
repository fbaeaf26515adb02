package digest

import (
	"barrow/api"
	"barrow/pack"
	"barrow/wire"
)

// Put: the digest's bytes.
func Put(d api.Digest) ([]byte, api.Errno) {
	if err := Check(d); err != api.OK {
		return nil, err
	}
	heard, _ := pack.PutPast(d.Heard)
	live, _ := pack.PutPast(d.Live)
	return wire.Join([][]byte{heard, live}), api.OK
}

// Get: the digest of the bytes.
func Get(b []byte) (api.Digest, api.Errno) {
	var d api.Digest
	// wire.Split would make a list of all frames of b, however many there are, where two are taken.
	err := wire.Read(b, func(r *wire.Reader) {
		d.Heard = framed(r)
		d.Live = framed(r)
	})
	if err != api.OK || Check(d) != api.OK {
		return api.Digest{}, api.ErrBad
	}
	return d, api.OK
}

// framed: the past that is the whole of the next frame.
func framed(r *wire.Reader) api.Past {
	p, err := pack.GetPast(r.Frame(r.Left()))
	if err != api.OK {
		r.Fail(err)
	}
	return p
}

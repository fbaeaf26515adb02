package mail

import (
	"barrow/api"
	"barrow/wire"
)

// head: the numbers that stand ahead of the parts.
func head(m api.Mail) [6]int {
	return [6]int{m.Kind, m.From, m.To, m.Lo, m.Hi, len(m.Parts)}
}

// Put: the mail's bytes.
func Put(m api.Mail) ([]byte, api.Errno) {
	if err := Check(m); err != api.OK {
		return nil, err
	}
	w := wire.NewWriter()
	for _, n := range head(m) {
		w.Num(n)
	}
	for _, p := range m.Parts {
		w.Num(p.Cart)
		w.Frame(p.Body)
	}
	return w.Done()
}

// Get: the mail of the bytes.
func Get(b []byte) (api.Mail, api.Errno) {
	var m api.Mail
	err := wire.Read(b, func(r *wire.Reader) { m = next(r) })
	if err != api.OK || Check(m) != api.OK {
		return api.Mail{}, api.ErrBad
	}
	return m, api.OK
}

// next: the mail that is read next, which may still be out of form.
func next(r *wire.Reader) api.Mail {
	var m api.Mail
	m.Kind = r.Num(api.MailPush)
	m.From = r.Num(api.MaxReps - 1)
	m.To = r.Num(api.MaxReps - 1)
	m.Lo = r.Num(api.MaxSeq)
	m.Hi = r.Num(api.MaxSeq)
	// No mail in form has more parts than there are carts: so no list is made for more.
	m.Parts = make([]api.Part, r.Num(api.MaxCarts))
	for i := range m.Parts {
		m.Parts[i].Cart = r.Num(api.MaxCarts - 1)
		m.Parts[i].Body = r.Frame(r.Left())
	}
	return m
}

// Size: how many bytes Put would give.
func Size(m api.Mail) (int, api.Errno) {
	if err := Check(m); err != api.OK {
		return 0, err
	}
	size := 0
	for _, n := range head(m) {
		size += wire.Size(n)
	}
	for _, p := range m.Parts {
		size += wire.Size(p.Cart) + wire.Size(len(p.Body)) + len(p.Body)
	}
	return size, api.OK
}

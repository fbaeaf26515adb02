package mail_test

import (
	"bytes"
	"math"
	"slices"
	"testing"

	"barrow/api"
	"barrow/mail"
	"barrow/sample"
)

func checkIs(t *testing.T, m api.Mail, want api.Errno) {
	t.Helper()
	if got := mail.Check(m); got != want {
		t.Errorf("Check(%v) = %d, want %d", m, got, want)
	}
}

func TestCheck(t *testing.T) { // P18.1
	for _, m := range mails(500) {
		checkIs(t, m, api.OK)
	}
	for _, m := range sample.WrongMails() {
		checkIs(t, m, api.ErrForm)
	}
}

// Every kind with every Lo and Hi at their bounds, with and without a part.
func TestCheckOfKinds(t *testing.T) { // P18.1
	const most = api.MaxSeq
	numbers := []int{math.MinInt, math.MinInt + 1, -2, -1, 0, 1, 2, 3, 300, most - 1, most, most + 1, math.MaxInt - 1, math.MaxInt}
	for _, kind := range []int{math.MinInt, -6, -1, 0, 1, 2, 3, 4, 5, 6, 7, 8, 257, math.MaxInt} {
		for _, lo := range numbers {
			for _, hi := range numbers {
				for _, parts := range [][]api.Part{nil, {}, {pt(0)}, {pt(1, 2)}, {pt(0), pt(1)}} {
					m := api.Mail{Kind: kind, From: 3, To: 4, Lo: lo, Hi: hi, Parts: parts}
					checkIs(t, m, checked(m))
				}
			}
		}
	}
}

func TestCheckOfReplicas(t *testing.T) { // P18.1
	reps := []int{math.MinInt, -16, -1, 0, 1, 2, 14, 15, 16, 17, 31, math.MaxInt}
	for kind := 1; kind <= 6; kind++ {
		for _, from := range reps {
			for _, to := range reps {
				m := api.Mail{Kind: kind, From: from, To: to, Hi: kind / 6}
				checkIs(t, m, checked(m))
			}
		}
	}
}

func TestCheckOfCarts(t *testing.T) { // P18.1
	carts := []int{math.MinInt, -1, 0, 1, 2, 62, 63, 64, 65, math.MaxInt}
	for kind := 1; kind <= 6; kind++ {
		for _, a := range carts {
			for _, b := range carts {
				for _, c := range carts {
					for _, parts := range [][]api.Part{{pt(a)}, {pt(a), pt(b, 1)}, {pt(a), pt(b), pt(c, 1, 2)}} {
						m := api.Mail{Kind: kind, To: 1, Hi: kind / 6, Parts: parts}
						checkIs(t, m, checked(m))
					}
				}
			}
		}
	}
}

func TestAck(t *testing.T) { // P18.1
	for _, m := range mails(500) {
		want, wantErr := api.Mail{}, api.ErrKind
		if m.Kind == 1 || m.Kind == 2 {
			want, wantErr = api.Mail{Kind: 3, From: m.To, To: m.From, Lo: 0, Hi: m.Hi}, api.OK
		}
		got, err := mail.Ack(m)
		if !same(got, want) || err != wantErr {
			t.Errorf("Ack(%v) = %v, %d, want %v, %d", m, got, err, want, wantErr)
		}
		if err == api.OK && !inForm(got) {
			t.Errorf("Ack(%v) = %v, which isn't in form", m, got)
		}
	}
	for _, m := range sample.WrongMails() {
		if got, err := mail.Ack(m); !same(got, api.Mail{}) || err != api.ErrForm {
			t.Errorf("Ack(%v) = %v, %d", m, got, err)
		}
	}
}

// anyMails: in form, out of it, and with one cart in several parts.
func anyMails() []api.Mail {
	var all []api.Mail
	dice := newDice()
	for range 300 {
		m := api.Mail{Kind: dice.IntN(9) - 1}
		for range dice.IntN(7) {
			m.Parts = append(m.Parts, pt([]int{math.MinInt, -3, -1, 0, 1, 2, 63, 64, 65, math.MaxInt}[dice.IntN(10)], bytes.Repeat([]byte{byte(len(m.Parts))}, dice.IntN(4))...))
		}
		all = append(all, m)
	}
	return slices.Concat(all, mails(200), sample.WrongMails())
}

func TestCarts(t *testing.T) { // P18.1
	for _, m := range anyMails() {
		var want []int
		for _, p := range m.Parts {
			want = append(want, p.Cart)
		}
		if got := mail.Carts(m); !slices.Equal(got, want) {
			t.Errorf("Carts(%v) = %v, want %v", m, got, want)
		}
	}
}

func TestBody(t *testing.T) { // P18.1
	for _, m := range anyMails() {
		for _, cart := range append(mail.Carts(m), math.MinInt, -3, -1, 0, 1, 5, 63, 64, math.MaxInt) {
			var want []byte
			at := slices.IndexFunc(m.Parts, func(p api.Part) bool { return p.Cart == cart })
			if at >= 0 {
				want = m.Parts[at].Body
			}
			if got, found := mail.Body(m, cart); !bytes.Equal(got, want) || found != (at >= 0) {
				t.Errorf("Body(%v, %d) = %x, %t, want %x, %t", m, cart, got, found, want, at >= 0)
			}
		}
	}
}

func TestCheckExamples(t *testing.T) { // P18.1
	one := ps(pt(1))
	for _, c := range []struct {
		m    api.Mail
		want api.Errno
	}{
		{api.Mail{Kind: api.MailDelta, To: 1, Lo: 3, Hi: 3}, api.OK},
		{api.Mail{Kind: api.MailPush, To: 1, Lo: 3, Hi: 3}, api.ErrForm},
		{api.Mail{Kind: api.MailAsk, To: 1, Hi: 1}, api.ErrForm},
		{api.Mail{Kind: api.MailAck, To: 1, Parts: one}, api.ErrForm},
		{api.Mail{Kind: api.MailFull, To: 1, Parts: ps(pt(1), pt(1))}, api.ErrForm},
		{api.Mail{Kind: api.MailFull, To: 1, Parts: ps(pt(0), pt(64))}, api.ErrForm},
		{api.Mail{Kind: api.MailFull, To: 1, Parts: ps(pt(0), pt(63))}, api.OK},
		{api.Mail{Kind: api.MailAck, To: 1, Hi: 4611686018427387904}, api.OK},
		{api.Mail{Kind: api.MailAck, To: 1, Hi: 4611686018427387905}, api.ErrForm},
		{api.Mail{Kind: api.MailReply, To: 1, Parts: one}, api.OK},
		{api.Mail{}, api.ErrForm},
	} {
		checkIs(t, c.m, c.want)
	}
}

func TestOtherExamples(t *testing.T) { // P18.1
	m := api.Mail{Kind: 1, From: 0, To: 1, Lo: 2, Hi: 3, Parts: ps(pt(4, 0xff, 0))}
	if got, err := mail.Ack(m); !same(got, api.Mail{Kind: 3, From: 1, To: 0, Hi: 3}) || err != api.OK {
		t.Errorf("Ack(%v) = %v, %d", m, got, err)
	}
	if got, err := mail.Ack(api.Mail{Kind: api.MailAsk, To: 1}); !same(got, api.Mail{}) || err != api.ErrKind {
		t.Errorf("Ack of an ask = %v, %d", got, err)
	}
	if got, err := mail.Ack(api.Mail{}); !same(got, api.Mail{}) || err != api.ErrForm {
		t.Errorf("Ack of the zero mail = %v, %d", got, err)
	}
	if got, found := mail.Body(m, 4); !bytes.Equal(got, []byte{0xff, 0}) || !found {
		t.Errorf("Body(%v, 4) = %x, %t", m, got, found)
	}
	if got, found := mail.Body(m, 5); len(got) != 0 || found {
		t.Errorf("Body(%v, 5) = %x, %t", m, got, found)
	}
	if got := mail.Carts(m); !slices.Equal(got, []int{4}) {
		t.Errorf("Carts(%v) = %v", m, got)
	}
	for _, body := range [][]byte{nil, {}} {
		if got, found := mail.Body(api.Mail{Parts: ps(api.Part{Cart: 7, Body: body}, pt(7, 1))}, 7); len(got) != 0 || !found {
			t.Errorf("Body of an empty one = %x, %t", got, found)
		}
	}
}

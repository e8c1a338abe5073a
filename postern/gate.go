package postern

import (
	"strings"

	"postern/api"
	"postern/book"
	"postern/bounds"
	"postern/curve"
	"postern/paper"
)

// Gate lets people in.
type Gate struct {
	number int
	key    string
	own    int
	book   book.Book
	// order is the text by which the floor came to be: other gates take its word for it, not this one's.
	order string
}

// New makes a gate (P6).
func New(number int, key string) (*Gate, api.Errno) {
	if !bounds.Gate(number) {
		return nil, api.ErrNumber
	}
	if _, ok := curve.FromBytes(key); !ok {
		return nil, api.ErrKey
	}
	// A copy, lest a key cut out of a great text keep all of that.
	return &Gate{number: number, key: strings.Clone(key)}, api.OK
}

// Admit lets a ticket in (P6).
func (g *Gate) Admit(ticket string) api.Errno {
	t, ok := paper.ReadTicket(ticket)
	if !ok {
		return api.ErrForm
	}
	if !g.trusts(ticket) {
		return api.ErrSign
	}
	if t.Epoch < g.book.Floor() {
		return api.ErrOver
	}
	pass := book.Pass{Epoch: t.Epoch, Serial: t.Serial}
	if g.book.Used(pass) {
		return api.ErrUsed
	}
	if g.own >= api.MaxOwn {
		return api.ErrFull
	}
	g.own++
	g.book.Add(book.Admission{Gate: g.number, Number: g.own}, pass)
	return api.OK
}

// Close takes an order (P7).
func (g *Gate) Close(order string) api.Errno {
	epoch, ok := paper.ReadOrder(order)
	if !ok {
		return api.ErrForm
	}
	if !g.trusts(order) {
		return api.ErrSign
	}
	if epoch <= g.book.Floor() {
		return api.ErrOver
	}
	g.raise(epoch, order)
	return api.OK
}

func (g *Gate) raise(epoch int, order string) {
	g.book.Raise(epoch)
	g.order = strings.Clone(order)
}

// Look tells how the gate stands (P7).
func (g *Gate) Look() api.State {
	if g == nil {
		return api.State{}
	}
	return api.State{Floor: g.book.Floor(), Own: g.own, Known: g.book.Heard(), Held: g.book.Held()}
}

// trusts tells whether the paper is rightly signed. A gate that New did not make has no key: it trusts none.
func (g *Gate) trusts(text string) bool {
	return g != nil && paper.Right(g.key, text)
}

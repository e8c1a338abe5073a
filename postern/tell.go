package postern

import (
	"postern/api"
	"postern/book"
	"postern/talk"
)

// Digest tells what it has heard of (P8).
func (g *Gate) Digest() api.Digest {
	if g == nil {
		return api.Digest{}
	}
	return talk.Digest(g.book.Floor(), g.book.Admissions())
}

// Tell tells news (P8).
func (g *Gate) Tell(d api.Digest, most int) (api.News, api.Errno) {
	if !talk.IsDigest(d) || most < 0 {
		return api.News{}, api.ErrNumber
	}
	if g == nil {
		return api.News{}, api.OK
	}
	n := api.News{Heard: g.unheard(d, most)}
	if g.book.Floor() > d.Floor {
		n.Order = g.order
	}
	return n, api.OK
}

// unheard is what the gate has heard and the digest has not.
func (g *Gate) unheard(d api.Digest, most int) []api.Item {
	var list []api.Item
	for _, a := range g.book.Admissions() {
		if len(list) == most {
			break
		}
		if !talk.Has(d, a) {
			p, known := g.book.Pass(a)
			list = append(list, talk.Item(a, p, known))
		}
	}
	return list
}

// Hear hears them (P8).
func (g *Gate) Hear(n api.News) api.Errno {
	if !g.takes(n.Heard) {
		return api.ErrForm
	}
	if e := g.hearOrder(n.Order); e != api.OK {
		return e
	}
	for _, item := range n.Heard {
		g.hearItem(item)
	}
	return api.OK
}

// takes tells whether the list may be heard here. Nil keeps nothing, so it takes none.
func (g *Gate) takes(list []api.Item) bool {
	if g == nil || !talk.AreItems(list) {
		return false
	}
	for _, item := range list {
		if item.Gate == g.number && item.Admission > g.own {
			return false
		}
	}
	return true
}

// hearOrder is Close, but that there may be no order, or one that is over.
func (g *Gate) hearOrder(order string) api.Errno {
	if order == "" {
		return api.OK
	}
	if e := g.Close(order); e != api.ErrOver {
		return e
	}
	return api.OK
}

func (g *Gate) hearItem(item api.Item) {
	a := book.Admission{Gate: item.Gate, Number: item.Admission}
	switch {
	case g.book.Has(a):
	case item.Gone || item.Epoch < g.book.Floor():
		g.book.Note(a)
	default:
		g.book.Add(a, book.Pass{Epoch: item.Epoch, Serial: item.Serial})
	}
}

package postern

import (
	"cmp"
	"math"
	"math/rand"
	"reflect"
	"slices"
	"strconv"
	"testing"

	"postern/api"
)

func meets(t *testing.T, from, to *Gate, most int) {
	t.Helper()
	n, e := from.Tell(to.Digest(), most)
	if e != api.OK {
		t.Fatalf("P8: Tell = %d", e)
	}
	hears(t, to, n, api.OK)
}

// texts: of tickets and orders, since signing them anew takes long.
type texts map[string]string

func (x texts) ticket(t *testing.T, epoch, serial int) string {
	name := strconv.Itoa(epoch) + "/" + strconv.Itoa(serial)
	if x[name] == "" {
		x[name] = ticketText(t, epoch, serial, 0)
	}
	return x[name]
}

func (x texts) order(t *testing.T, epoch int) string {
	name := strconv.Itoa(epoch)
	if x[name] == "" {
		x[name] = orderText(t, epoch)
	}
	return x[name]
}

// knows: all that a gate tells of what it knows.
type knows struct {
	state  api.State
	digest api.Digest
	all    api.News
	twice  []api.Twice
}

func known(g *Gate) knows {
	all, _ := g.Tell(api.Digest{}, math.MaxInt)
	k := knows{g.Look(), g.Digest(), all, g.Twice()}
	k.state.Own = 0
	return k
}

// plainBook: what a gate tells, reckoned in the plainest way: the list of what it has heard of, and whether it is known.
type plainBook struct {
	number, own, floor int
	order              string
	heard              []api.Item
}

func (p *plainBook) has(gate, admission int) bool {
	return slices.ContainsFunc(p.heard, func(i api.Item) bool { return i.Gate == gate && i.Admission == admission })
}

func (p *plainBook) admit(epoch, serial int) api.Errno {
	if epoch < p.floor {
		return api.ErrOver
	}
	for _, i := range p.heard {
		if !i.Gone && i.Epoch == epoch && i.Serial == serial {
			return api.ErrUsed
		}
	}
	p.own++
	p.heard = append(p.heard, item(p.number, p.own, epoch, serial))
	return api.OK
}

func (p *plainBook) close(epoch int, order string) api.Errno {
	if epoch <= p.floor {
		return api.ErrOver
	}
	p.floor, p.order = epoch, order
	for k, i := range p.heard {
		if i.Epoch < epoch {
			p.heard[k] = gone(i.Gate, i.Admission)
		}
	}
	return api.OK
}

func (p *plainBook) hear(list []api.Item) api.Errno {
	for _, i := range list {
		if i.Gate == p.number && i.Admission > p.own {
			return api.ErrForm
		}
	}
	for _, i := range list {
		switch {
		case p.has(i.Gate, i.Admission):
		case i.Gone || i.Epoch < p.floor:
			p.heard = append(p.heard, gone(i.Gate, i.Admission))
		default:
			p.heard = append(p.heard, i)
		}
	}
	return api.OK
}

func (p *plainBook) known() knows {
	k := knows{state: api.State{Floor: p.floor, Known: len(p.heard)}, digest: api.Digest{Floor: p.floor}, all: api.News{Order: p.order}}
	for gate := range 16 {
		s := api.Seen{Gate: gate}
		for p.has(gate, s.Upto+1) {
			s.Upto++
		}
		for n := s.Upto + 2; n < 20; n++ {
			if p.has(gate, n) {
				s.More = append(s.More, n)
			}
		}
		if s.Upto > 0 || s.More != nil {
			k.digest.Seen = append(k.digest.Seen, s)
		}
	}
	k.all.Heard = append(k.all.Heard, p.heard...)
	slices.SortFunc(k.all.Heard, func(a, b api.Item) int {
		return cmp.Or(cmp.Compare(a.Gate, b.Gate), cmp.Compare(a.Admission, b.Admission))
	})
	for epoch := range 12 {
		for serial := range 4 {
			d := double(epoch, serial)
			for _, i := range k.all.Heard {
				if !i.Gone && i.Epoch == epoch && i.Serial == serial {
					d.Gates = append(d.Gates, i.Gate)
				}
			}
			if len(d.Gates) > 1 {
				k.twice = append(k.twice, d)
			}
		}
	}
	for _, i := range p.heard {
		if !i.Gone {
			k.state.Held++
		}
	}
	return k
}

// itemsByChance: rising, of gates 5 to 8 and of few admissions.
func itemsByChance(r *rand.Rand) []api.Item {
	var list []api.Item
	for gate := 5; gate < 9; gate++ {
		for n := 1; n < 6; n++ {
			switch r.Intn(20) {
			case 0:
				list = append(list, gone(gate, n))
			case 1, 2:
				list = append(list, item(gate, n, r.Intn(12), r.Intn(4)))
			}
		}
	}
	return list
}

func TestAnyNewsByChance(t *testing.T) {
	r := rand.New(rand.NewSource(21))
	x := texts{}
	for range 30 {
		g, p := newGate(t, 7), &plainBook{number: 7}
		for range 25 {
			epoch, serial := r.Intn(12), r.Intn(4)
			switch r.Intn(8) {
			case 0:
				if epoch < p.floor+3 {
					closes(t, g, x.order(t, epoch), p.close(epoch, x.order(t, epoch)))
				}
			case 1, 2:
				if p.own < 15 {
					admits(t, g, x.ticket(t, epoch, serial), p.admit(epoch, serial))
				}
			default:
				list := itemsByChance(r)
				hears(t, g, api.News{Heard: list}, p.hear(list))
			}
			if a, b := known(g), p.known(); !reflect.DeepEqual(a, b) {
				t.Fatalf("P8, P9: %+v, want %+v", a, b)
			}
		}
	}
}

// gatesByChance: what gates know that have let people in and have met now and then.
func gatesByChance(t *testing.T, r *rand.Rand, x texts) []*Gate {
	list := []*Gate{newGate(t, 0), newGate(t, 3), newGate(t, 9), newGate(t, 15)}
	for range r.Intn(60) {
		a, b := list[r.Intn(4)], list[r.Intn(4)]
		switch r.Intn(12) {
		case 0:
			a.Close(x.order(t, 1+r.Intn(9)))
		case 1, 2, 3, 4:
			meets(t, a, b, r.Intn(5))
		default:
			a.Admit(x.ticket(t, r.Intn(12), r.Intn(6)))
		}
	}
	return list
}

func TestGatesComeTogether(t *testing.T) {
	r := rand.New(rand.NewSource(22))
	x := texts{}
	for range 80 {
		list := gatesByChance(t, r, x)
		top, made := 0, 0
		for _, g := range list {
			top = max(top, g.Look().Floor)
			made += g.Look().Own
		}
		// Round twice, and all have heard from all, whichever is first.
		for range 2 {
			for _, i := range r.Perm(4) {
				meets(t, list[i], list[(i+1)%4], math.MaxInt)
				meets(t, list[i], list[(i+2)%4], math.MaxInt)
				meets(t, list[i], list[(i+3)%4], math.MaxInt)
			}
		}
		want := known(list[0])
		if want.state.Floor != top || want.state.Known != made {
			t.Fatalf("P10: %+v, want the floor %d and %d known", want.state, top, made)
		}
		for _, g := range list[1:] {
			if k := known(g); !reflect.DeepEqual(k, want) {
				t.Fatalf("P10: %+v and %+v", k, want)
			}
		}
	}
}

// Few at a time come to the same as all at once.
func TestTellingInParts(t *testing.T) {
	r := rand.New(rand.NewSource(23))
	x := texts{}
	for range 40 {
		from := gatesByChance(t, r, x)[r.Intn(4)]
		whole, parts := newGate(t, 12), newGate(t, 12)
		meets(t, from, whole, math.MaxInt)
		rounds := (from.Look().Known + 2) / 3
		for range rounds {
			meets(t, from, parts, 3)
		}
		if n, e := from.Tell(parts.Digest(), 3); e != api.OK || rounds > 0 && (n.Order != "" || len(n.Heard) != 0) {
			t.Fatalf("P8: Tell behind all parts = %+v, %d", n, e)
		}
		if a, b := known(parts), known(whole); rounds > 0 && !reflect.DeepEqual(a, b) {
			t.Fatalf("P10: in parts %+v, at once %+v", a, b)
		}
	}
}

func TestOrderAndNumberOfNewsAreNotSeen(t *testing.T) {
	r := rand.New(rand.NewSource(24))
	x := texts{}
	for range 40 {
		var told []api.News
		list := []*Gate{newGate(t, 0), newGate(t, 3), newGate(t, 9)}
		for range 40 {
			list[r.Intn(3)].Admit(x.ticket(t, r.Intn(3), r.Intn(5)))
			from, to := list[r.Intn(3)], list[r.Intn(3)]
			n, _ := from.Tell(to.Digest(), r.Intn(6))
			told = append(told, n)
			if r.Intn(3) == 0 {
				hears(t, to, n, api.OK)
			}
		}
		one, other := newGate(t, 12), newGate(t, 12)
		for _, n := range told {
			hears(t, one, n, api.OK)
		}
		for range 2 {
			for _, i := range r.Perm(len(told)) {
				hears(t, other, told[i], api.OK)
			}
		}
		if a, b := known(one), known(other); !reflect.DeepEqual(a, b) {
			t.Fatalf("P10: %+v and %+v", a, b)
		}
	}
}

func TestWhatIsKnownIsNotLetIn(t *testing.T) {
	r := rand.New(rand.NewSource(25))
	x := texts{}
	for range 20 {
		for _, g := range gatesByChance(t, r, x) {
			before := known(g)
			for _, i := range before.all.Heard {
				if !i.Gone {
					admits(t, g, x.ticket(t, i.Epoch, i.Serial), api.ErrUsed)
				}
			}
			if k := known(g); !reflect.DeepEqual(k, before) {
				t.Fatalf("P10: %+v behind refusals, ahead of them %+v", k, before)
			}
		}
	}
}

// A full gate tells, and hears, none the less.
func TestFullGatesMeet(t *testing.T) {
	full, other := newGate(t, 15), newGate(t, 0)
	for i := range api.MaxOwn {
		admits(t, full, ticketText(t, 1, i, 0), api.OK)
	}
	admits(t, other, ticketText(t, 1, 999, 0), api.OK)
	meets(t, full, other, math.MaxInt)
	meets(t, other, full, math.MaxInt)
	if a, b := known(full), known(other); !reflect.DeepEqual(a, b) || a.state != (api.State{Known: 1001, Held: 1001}) {
		t.Errorf("P10: %+v and %+v", a.state, b.state)
	}
	doubles(t, full, double(1, 999, 0, 15))
	admits(t, other, ticketText(t, 1, 1000, 0), api.OK)
	admits(t, full, ticketText(t, 1, 1001, 0), api.ErrFull)
	meets(t, other, full, 1)
	admits(t, full, ticketText(t, 1, 1000, 0), api.ErrUsed)
}

func TestMeetingsOfGatesThatNewDidNotMake(t *testing.T) {
	for _, g := range []*Gate{nil, {}} {
		digests(t, g, api.Digest{})
		tells(t, g, api.Digest{}, 9, "")
		doubles(t, g)
		hears(t, g, api.News{Order: "C"}, api.ErrForm)
		hears(t, g, news(item(1, 0, 1, 1)), api.ErrForm)
		if n, e := g.Tell(api.Digest{Floor: -1}, 9); n.Heard != nil || e != api.ErrNumber {
			t.Errorf("P8: Tell = %+v, %d", n, e)
		}
	}
	var none *Gate
	hears(t, none, api.News{}, api.ErrForm)
	hears(t, none, news(item(1, 1, 1, 1)), api.ErrForm)
	hears(t, none, api.News{Order: orderText(t, 3)}, api.ErrForm)
	empty := &Gate{}
	hears(t, empty, api.News{Order: orderText(t, 3)}, api.ErrSign)
	hears(t, empty, news(item(0, 1, 1, 1)), api.ErrForm)
	hears(t, empty, news(item(1, 1, 1, 1)), api.OK)
	tells(t, empty, api.Digest{}, 9, "", item(1, 1, 1, 1))
}

package postern

import (
	"math"
	"math/big"
	"math/rand"
	"strings"
	"testing"

	"postern/api"
)

func newGate(t *testing.T, number int) *Gate {
	t.Helper()
	key, _ := Key(ticketSeed)
	g, e := New(number, key)
	if g == nil || e != api.OK {
		t.Fatalf("P6: New(%d) = a gate: %v, %d", number, g != nil, e)
	}
	return g
}

func admits(t *testing.T, g *Gate, ticket string, want api.Errno) {
	t.Helper()
	if e := g.Admit(ticket); e != want {
		t.Errorf("P6: Admit(%x) = %d, want %d", ticket, e, want)
	}
}

func closes(t *testing.T, g *Gate, order string, want api.Errno) {
	t.Helper()
	if e := g.Close(order); e != want {
		t.Errorf("P7: Close(%x) = %d, want %d", order, e, want)
	}
}

func stands(t *testing.T, g *Gate, want api.State) {
	t.Helper()
	if s := g.Look(); s != want {
		t.Errorf("P7: Look() = %+v, want %+v", s, want)
	}
}

func TestNewGate(t *testing.T) {
	for n := -3; n < 20; n++ {
		key, _ := Key(ticketSeed)
		g, e := New(n, key)
		if n < 0 || n > 15 {
			if g != nil || e != api.ErrNumber {
				t.Errorf("P6: New(%d) = a gate: %v, %d", n, g != nil, e)
			}
			continue
		}
		if g == nil || e != api.OK {
			t.Fatalf("P6: New(%d) = a gate: %v, %d", n, g != nil, e)
		}
		stands(t, g, api.State{})
		admits(t, g, ticketText(t, 0, 0, 0), api.OK)
		stands(t, g, api.State{Own: 1, Known: 1, Held: 1})
	}
	for _, n := range []int{math.MinInt, -1, 16, 256, math.MaxInt} {
		if g, e := New(n, "no key"); g != nil || e != api.ErrNumber {
			t.Errorf("P6: New(%d) with no key = a gate: %v, %d", n, g != nil, e)
		}
	}
}

func TestNewGateByKey(t *testing.T) {
	key, _ := Key(ticketSeed)
	for _, k := range append(small(), key, high(low(big.NewInt(4)))) {
		if g, e := New(2, k); g == nil || e != api.OK {
			t.Errorf("P6: New of the key %x = a gate: %v, %d", k, g != nil, e)
		}
	}
	for _, k := range []string{"", key[:31], key + "\x00", "\x00" + key, key + key, low(big.NewInt(2)), low(modulo(0)), high(low(modulo(0))),
		low(modulo(-1)), high(low(modulo(-1))), high(zeroPoint), high(low(modulo(1))), strings.Repeat("\xff", 32), strings.Repeat("k", 1<<20)} {
		if g, e := New(2, k); g != nil || e != api.ErrKey {
			t.Errorf("P6: New of the key %.40x = a gate: %v, %d", k, g != nil, e)
		}
	}
}

func TestAdmitForms(t *testing.T) {
	g := newGate(t, 3)
	one := ticketText(t, 1, 2, 3)
	for n := range one {
		admits(t, g, one[:n], api.ErrForm)
	}
	for _, s := range []string{one + "\x00", one + one, one[1:] + "T", " " + one[:71], orderText(t, 1), orderText(t, 1) + "12345", strings.Repeat("T", 1<<20)} {
		admits(t, g, s, api.ErrForm)
	}
	for mark := range 256 {
		if mark != 'T' {
			admits(t, g, string([]byte{byte(mark)})+one[1:], api.ErrForm)
		}
	}
	// Rightly signed, and none the less no ticket.
	for _, head := range []string{"", "T", "T123456", "T12345678", "C1234567", "t1234567", "C12", "T12"} {
		admits(t, g, byLibrary(ticketSeed, head), api.ErrForm)
	}
	stands(t, g, api.State{})
}

func TestAdmitSignatures(t *testing.T) {
	g := newGate(t, 3)
	one := ticketText(t, 1, 2, 3)
	for i := 8; i < 8*len(one); i++ {
		admits(t, g, turned(one, i), api.ErrSign)
	}
	admits(t, g, byLibrary(strings.Repeat("h", 32), one[:8]), api.ErrSign)
	admits(t, g, "T"+strings.Repeat("\x00", 71), api.ErrSign)
	order := new(big.Int).Lsh(big.NewInt(1), 252)
	more, _ := new(big.Int).SetString("27742317777372353535851937790883648493", 10)
	admits(t, g, one[:40]+low(new(big.Int).Add(number(one[40:]), order.Add(order, more))), api.ErrSign)
	stands(t, g, api.State{})
	admits(t, g, one, api.OK)
	admits(t, g, turned(one, 8*40), api.ErrSign)
	stands(t, g, api.State{Own: 1, Known: 1, Held: 1})
}

func TestAdmitUsed(t *testing.T) {
	g, h := newGate(t, 0), newGate(t, 0)
	for _, c := range []struct{ epoch, serial, class int }{{0, 0, 0}, {0, 1, 0}, {1, 0, 0}, {65535, 4294967295, 255}, {65535, 0, 7}, {0, 4294967295, 7}, {0, 65536, 0}, {256, 0, 0}} {
		before := g.Look().Own
		admits(t, g, ticketText(t, c.epoch, c.serial, c.class), api.OK)
		for _, class := range []int{c.class, 100, 255} {
			admits(t, g, ticketText(t, c.epoch, c.serial, class), api.ErrUsed)
		}
		stands(t, g, api.State{Own: before + 1, Known: before + 1, Held: before + 1})
	}
	// What one gate knows another does not.
	stands(t, h, api.State{})
	admits(t, h, ticketText(t, 0, 0, 0), api.OK)
}

func TestAdmitFull(t *testing.T) {
	g := newGate(t, 15)
	for i := range api.MaxOwn {
		admits(t, g, ticketText(t, i%7, i, 0), api.OK)
	}
	full := api.State{Own: 1000, Known: 1000, Held: 1000}
	stands(t, g, full)
	admits(t, g, ticketText(t, 1, 1000, 0), api.ErrFull)
	admits(t, g, ticketText(t, 0, 0, 0), api.ErrUsed)
	admits(t, g, turned(ticketText(t, 1, 1000, 0), 70), api.ErrSign)
	admits(t, g, "T", api.ErrForm)
	stands(t, g, full)
	// Forgetting makes no room.
	closes(t, g, orderText(t, 9), api.OK)
	stands(t, g, api.State{Floor: 9, Own: 1000, Known: 1000})
	admits(t, g, ticketText(t, 9, 1, 0), api.ErrFull)
	admits(t, g, ticketText(t, 8, 1, 0), api.ErrOver)
	stands(t, g, api.State{Floor: 9, Own: 1000, Known: 1000})
}

func TestCloseForms(t *testing.T) {
	g := newGate(t, 3)
	one := orderText(t, 7)
	for n := range one {
		closes(t, g, one[:n], api.ErrForm)
	}
	for _, s := range []string{one + "\x00", one + one, one[1:] + "C", ticketText(t, 7, 1, 1), ticketText(t, 7, 1, 1)[:67], strings.Repeat("C", 1<<20)} {
		closes(t, g, s, api.ErrForm)
	}
	for mark := range 256 {
		if mark != 'C' {
			closes(t, g, string([]byte{byte(mark)})+one[1:], api.ErrForm)
		}
	}
	for _, head := range []string{"", "C", "C1", "C123", "T12", "c12", "C1234567"} {
		closes(t, g, byLibrary(ticketSeed, head), api.ErrForm)
	}
	for i := 8; i < 8*len(one); i++ {
		closes(t, g, turned(one, i), api.ErrSign)
	}
	closes(t, g, byLibrary(strings.Repeat("h", 32), one[:3]), api.ErrSign)
	stands(t, g, api.State{})
}

func TestCloseFloors(t *testing.T) {
	g := newGate(t, 3)
	closes(t, g, orderText(t, 0), api.ErrOver)
	for _, epoch := range []int{1, 2, 255, 256, 1000, 65534, 65535} {
		closes(t, g, orderText(t, epoch), api.OK)
		stands(t, g, api.State{Floor: epoch})
		for _, over := range []int{epoch, epoch - 1, 0} {
			closes(t, g, orderText(t, over), api.ErrOver)
			closes(t, g, turned(orderText(t, over), 100), api.ErrSign)
		}
		admits(t, g, ticketText(t, epoch-1, 1, 1), api.ErrOver)
		stands(t, g, api.State{Floor: epoch})
	}
	admits(t, g, ticketText(t, 65535, 1, 1), api.OK)
	stands(t, g, api.State{Floor: 65535, Own: 1, Known: 1, Held: 1})
}

func TestCloseForgets(t *testing.T) {
	g := newGate(t, 3)
	for epoch := range 10 {
		for serial := range 3 {
			admits(t, g, ticketText(t, epoch, serial, 0), api.OK)
		}
	}
	closes(t, g, orderText(t, 4), api.OK)
	stands(t, g, api.State{Floor: 4, Own: 30, Known: 30, Held: 18})
	admits(t, g, ticketText(t, 3, 0, 0), api.ErrOver)
	admits(t, g, ticketText(t, 3, 99, 0), api.ErrOver)
	admits(t, g, ticketText(t, 4, 0, 0), api.ErrUsed)
	admits(t, g, ticketText(t, 4, 3, 0), api.OK)
	closes(t, g, orderText(t, 3), api.ErrOver)
	stands(t, g, api.State{Floor: 4, Own: 31, Known: 31, Held: 19})
	closes(t, g, orderText(t, 10), api.OK)
	stands(t, g, api.State{Floor: 10, Own: 31, Known: 31})
}

// plainGate: what a gate answers, reckoned in the plainest way.
type plainGate struct {
	floor int
	made  []api.Ticket
}

func (p *plainGate) admit(x api.Ticket) api.Errno {
	if x.Epoch < p.floor {
		return api.ErrOver
	}
	for _, m := range p.made {
		if m.Epoch == x.Epoch && m.Serial == x.Serial {
			return api.ErrUsed
		}
	}
	p.made = append(p.made, x)
	return api.OK
}

func (p *plainGate) close(epoch int) api.Errno {
	if epoch <= p.floor {
		return api.ErrOver
	}
	p.floor = epoch
	return api.OK
}

func (p *plainGate) look() api.State {
	s := api.State{Floor: p.floor, Own: len(p.made), Known: len(p.made)}
	for _, m := range p.made {
		if m.Epoch >= p.floor {
			s.Held++
		}
	}
	return s
}

func TestGateByChance(t *testing.T) {
	r := rand.New(rand.NewSource(11))
	for number := range 4 {
		g, p := newGate(t, number), &plainGate{}
		for range 250 {
			if epoch := r.Intn(3) + p.floor - 1; epoch >= 0 && r.Intn(9) == 0 {
				closes(t, g, orderText(t, epoch), p.close(epoch))
			}
			x := api.Ticket{Epoch: max(0, p.floor+r.Intn(6)-1), Serial: r.Intn(9), Class: r.Intn(2)}
			admits(t, g, ticketText(t, x.Epoch, x.Serial, x.Class), p.admit(x))
			stands(t, g, p.look())
		}
	}
}

func TestGatesThatNewDidNotMake(t *testing.T) {
	for _, g := range []*Gate{nil, {}} {
		admits(t, g, "", api.ErrForm)
		admits(t, g, ticketText(t, 1, 1, 1), api.ErrSign)
		closes(t, g, "", api.ErrForm)
		closes(t, g, orderText(t, 1), api.ErrSign)
		stands(t, g, api.State{})
	}
}

package postern

import (
	"crypto/ed25519"
	"math"
	"math/rand"
	"strings"
	"testing"

	"postern/api"
)

var ticketSeed = strings.Repeat("g", 32)

func ticketText(t *testing.T, epoch, serial, class int) string {
	t.Helper()
	s, e := Ticket(ticketSeed, api.Ticket{Epoch: epoch, Serial: serial, Class: class})
	if e != api.OK {
		t.Fatalf("P5: Ticket(%d, %d, %d) = %d", epoch, serial, class, e)
	}
	return s
}

func orderText(t *testing.T, epoch int) string {
	t.Helper()
	s, e := Order(ticketSeed, epoch)
	if e != api.OK {
		t.Fatalf("P5: Order(%d) = %d", epoch, e)
	}
	return s
}

// byLibrary: the text with the signature that the library puts behind it.
func byLibrary(seed, text string) string {
	return text + string(ed25519.Sign(ed25519.NewKeyFromSeed([]byte(seed)), []byte(text)))
}

func TestTicketText(t *testing.T) {
	for _, c := range []struct {
		ticket api.Ticket
		head   string
	}{
		{api.Ticket{}, "T\x00\x00\x00\x00\x00\x00\x00"},
		{api.Ticket{Epoch: 1, Serial: 2, Class: 3}, "T\x00\x01\x00\x00\x00\x02\x03"},
		{api.Ticket{Epoch: 0x1234, Serial: 0x56789abc, Class: 0xde}, "T\x12\x34\x56\x78\x9a\xbc\xde"},
		{api.Ticket{Epoch: 65535}, "T\xff\xff\x00\x00\x00\x00\x00"},
		{api.Ticket{Serial: 4294967295}, "T\x00\x00\xff\xff\xff\xff\x00"},
		{api.Ticket{Class: 255}, "T\x00\x00\x00\x00\x00\x00\xff"},
	} {
		if got := ticketText(t, c.ticket.Epoch, c.ticket.Serial, c.ticket.Class); got != byLibrary(ticketSeed, c.head) {
			t.Errorf("P5: Ticket(%+v) = %x", c.ticket, got)
		}
	}
}

func TestTicketsByChance(t *testing.T) {
	r := rand.New(rand.NewSource(5))
	for range 30 {
		seed := chance(r, 32)
		x := api.Ticket{Epoch: r.Intn(65536), Serial: r.Intn(1 << 32), Class: r.Intn(256)}
		head := "T" + string([]byte{byte(x.Epoch >> 8), byte(x.Epoch), byte(x.Serial >> 24), byte(x.Serial >> 16), byte(x.Serial >> 8), byte(x.Serial), byte(x.Class)})
		if got, e := Ticket(seed, x); got != byLibrary(seed, head) || e != api.OK {
			t.Errorf("P5: Ticket(%x, %+v) = %x, %d", seed, x, got, e)
		}
		if got, e := Order(seed, x.Epoch); got != byLibrary(seed, "C"+head[1:3]) || e != api.OK {
			t.Errorf("P5: Order(%x, %d) = %x, %d", seed, x.Epoch, got, e)
		}
	}
}

func TestOrderText(t *testing.T) {
	for epoch, head := range map[int]string{0: "C\x00\x00", 1: "C\x00\x01", 0x1234: "C\x12\x34", 65535: "C\xff\xff"} {
		if got := orderText(t, epoch); got != byLibrary(ticketSeed, head) {
			t.Errorf("P5: Order(%d) = %x", epoch, got)
		}
	}
}

func TestTicketsThatMayNotBe(t *testing.T) {
	for _, c := range []struct {
		most int
		put  func(int) api.Ticket
	}{
		{65535, func(n int) api.Ticket { return api.Ticket{Epoch: n, Serial: 1, Class: 1} }},
		{4294967295, func(n int) api.Ticket { return api.Ticket{Epoch: 1, Serial: n, Class: 1} }},
		{255, func(n int) api.Ticket { return api.Ticket{Epoch: 1, Serial: 1, Class: n} }},
	} {
		for _, n := range []int{math.MinInt, math.MinInt + 1, -c.most, -1, 0, c.most, c.most + 1, 2*c.most + 2, math.MaxInt} {
			want := api.ErrNumber
			if n == 0 || n == c.most {
				want = api.OK
			}
			if s, e := Ticket(ticketSeed, c.put(n)); e != want || (s == "") != (want != api.OK) {
				t.Errorf("P5: Ticket(%+v) = %x, %d", c.put(n), s, e)
			}
		}
	}
	for _, n := range []int{math.MinInt, -65536, -1, 65536, 65537, 1 << 32, math.MaxInt} {
		if s, e := Order(ticketSeed, n); s != "" || e != api.ErrNumber {
			t.Errorf("P5: Order(%d) = %x, %d", n, s, e)
		}
	}
}

func TestTicketsBySeedsThatAreNone(t *testing.T) {
	for _, seed := range []string{"", "s", ticketSeed[:31], ticketSeed + "g", ticketSeed + ticketSeed} {
		for _, n := range []int{1, -1} {
			if s, e := Ticket(seed, api.Ticket{Epoch: n, Serial: n, Class: n}); s != "" || e != api.ErrSize {
				t.Errorf("P5: Ticket by %d bytes = %x, %d", len(seed), s, e)
			}
			if s, e := Order(seed, n); s != "" || e != api.ErrSize {
				t.Errorf("P5: Order by %d bytes = %x, %d", len(seed), s, e)
			}
		}
	}
}

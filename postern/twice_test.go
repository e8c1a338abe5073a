package postern

import (
	"reflect"
	"testing"

	"postern/api"
)

func doubles(t *testing.T, g *Gate, want ...api.Twice) {
	t.Helper()
	if l := g.Twice(); !reflect.DeepEqual(l, want) {
		t.Errorf("P9: Twice() = %+v, want %+v", l, want)
	}
}

func double(epoch, serial int, gates ...int) api.Twice {
	return api.Twice{Epoch: epoch, Serial: serial, Gates: gates}
}

func TestTwice(t *testing.T) {
	g := newGate(t, 7)
	doubles(t, g)
	admits(t, g, ticketText(t, 4, 9, 0), api.OK)
	admits(t, g, ticketText(t, 4, 10, 0), api.OK)
	doubles(t, g)
	// The same epoch, or the same serial, is not both.
	hears(t, g, news(item(1, 1, 4, 11), item(1, 2, 5, 9), item(2, 1, 9, 4), gone(3, 1), gone(3, 2)), api.OK)
	doubles(t, g)
	hears(t, g, news(item(1, 3, 5, 8), item(8, 1, 4, 9), item(9, 1, 5, 8)), api.OK)
	doubles(t, g, double(4, 9, 7, 8), double(5, 8, 1, 9))
	hears(t, g, news(item(0, 1, 4, 9), item(1, 4, 4, 10), item(3, 3, 0, 0), item(15, 1, 0, 0)), api.OK)
	doubles(t, g, double(0, 0, 3, 15), double(4, 9, 0, 7, 8), double(4, 10, 1, 7), double(5, 8, 1, 9))
	// One admission that is heard of twice is one.
	hears(t, g, news(item(1, 1, 4, 11), item(7, 1, 4, 9)), api.OK)
	doubles(t, g, double(0, 0, 3, 15), double(4, 9, 0, 7, 8), double(4, 10, 1, 7), double(5, 8, 1, 9))
	// What is over is not known any more.
	closes(t, g, orderText(t, 4), api.OK)
	doubles(t, g, double(4, 9, 0, 7, 8), double(4, 10, 1, 7), double(5, 8, 1, 9))
	hears(t, g, api.News{Order: orderText(t, 5), Heard: []api.Item{item(4, 1, 5, 9), item(5, 1, 4, 10)}}, api.OK)
	doubles(t, g, double(5, 8, 1, 9), double(5, 9, 1, 4))
	closes(t, g, orderText(t, 6), api.OK)
	doubles(t, g)
}

func TestTwiceByOneGate(t *testing.T) {
	g := newGate(t, 7)
	hears(t, g, news(item(3, 1, 2, 2), item(3, 7, 2, 2), item(4, 1000, 2, 2), item(5, 1, 2, 2), item(5, 2, 2, 2), item(5, 3, 2, 2)), api.OK)
	doubles(t, g, double(2, 2, 3, 3, 4, 5, 5, 5))
	h := newGate(t, 0)
	hears(t, h, news(item(15, 999, 65535, 4294967295), item(15, 1000, 65535, 4294967295)), api.OK)
	doubles(t, h, double(65535, 4294967295, 15, 15))
}

// By epochs and serials as numbers, and by gates as numbers, not as they were heard.
func TestTwiceIsSorted(t *testing.T) {
	g := newGate(t, 7)
	var want []api.Twice
	for _, epoch := range []int{2, 10, 256, 65535} {
		for _, serial := range []int{0, 9, 10, 300, 4294967295} {
			want = append(want, double(epoch, serial, 2, 10, 11))
		}
	}
	for i := len(want) - 1; i >= 0; i-- {
		for _, gate := range []int{10, 2, 11} {
			hears(t, g, news(item(gate, i+1, want[i].Epoch, want[i].Serial)), api.OK)
		}
	}
	doubles(t, g, want...)
}

// Example 3 of the document.
func TestOneTicketAtTwoGates(t *testing.T) {
	one, two := newGate(t, 1), newGate(t, 2)
	ticket := ticketText(t, 8, 8, 8)
	admits(t, one, ticket, api.OK)
	admits(t, two, ticket, api.OK)
	meets(t, one, two, 9)
	doubles(t, two, double(8, 8, 1, 2))
	doubles(t, one)
	admits(t, one, ticket, api.ErrUsed)
	admits(t, two, ticket, api.ErrUsed)
}

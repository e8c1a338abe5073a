package postern

import (
	"math"
	"reflect"
	"slices"
	"strings"
	"testing"

	"postern/api"
)

func digests(t *testing.T, g *Gate, want api.Digest) {
	t.Helper()
	if d := g.Digest(); !reflect.DeepEqual(d, want) {
		t.Errorf("P8: Digest() = %+v, want %+v", d, want)
	}
}

func tells(t *testing.T, g *Gate, d api.Digest, most int, order string, want ...api.Item) {
	t.Helper()
	n, e := g.Tell(d, most)
	if e != api.OK || n.Order != order || !slices.Equal(n.Heard, want) {
		t.Errorf("P8: Tell(%+v, %d) = %+v, %d, want %x, %+v", d, most, n, e, order, want)
	}
}

func hears(t *testing.T, g *Gate, n api.News, want api.Errno) {
	t.Helper()
	if e := g.Hear(n); e != want {
		t.Errorf("P8: Hear(%.200v) = %d, want %d", n, e, want)
	}
}

func item(gate, admission, epoch, serial int) api.Item {
	return api.Item{Gate: gate, Admission: admission, Epoch: epoch, Serial: serial}
}

func gone(gate, admission int) api.Item {
	return api.Item{Gate: gate, Admission: admission, Gone: true}
}

func news(items ...api.Item) api.News { return api.News{Heard: items} }

func seen(gate, upto int, more ...int) api.Seen {
	return api.Seen{Gate: gate, Upto: upto, More: more}
}

func TestDigest(t *testing.T) {
	g := newGate(t, 7)
	digests(t, g, api.Digest{})
	admits(t, g, ticketText(t, 4, 1, 0), api.OK)
	admits(t, g, ticketText(t, 2, 1, 0), api.OK)
	digests(t, g, api.Digest{Seen: []api.Seen{seen(7, 2)}})
	hears(t, g, news(item(0, 1000, 4, 4), item(7, 2, 9, 9), item(15, 1, 4, 4), gone(15, 3), gone(15, 4)), api.OK)
	want := []api.Seen{seen(0, 0, 1000), seen(7, 2), seen(15, 1, 3, 4)}
	digests(t, g, api.Digest{Seen: want})
	// What is forgotten was heard of none the less.
	closes(t, g, orderText(t, 5), api.OK)
	digests(t, g, api.Digest{Floor: 5, Seen: want})
	hears(t, g, news(item(15, 2, 1, 1)), api.OK)
	want[2] = seen(15, 4)
	digests(t, g, api.Digest{Floor: 5, Seen: want})
}

func TestDigestOfAll(t *testing.T) {
	g := newGate(t, 3)
	for number := 1000; number > 0; number-- {
		hears(t, g, news(item(2, number, 1, number), item(5, number, 2, number)), api.OK)
	}
	digests(t, g, api.Digest{Seen: []api.Seen{seen(2, 1000), seen(5, 1000)}})
	tells(t, g, api.Digest{Seen: []api.Seen{seen(2, 998, 1000), seen(5, 1000)}}, math.MaxInt, "", item(2, 999, 1, 999))
	tells(t, g, api.Digest{Seen: []api.Seen{seen(2, 999), seen(4, 1000)}}, 2, "", item(2, 1000, 1, 1000), item(5, 1, 2, 1))
}

func TestTell(t *testing.T) {
	g := newGate(t, 7)
	tells(t, g, api.Digest{}, 9, "")
	admits(t, g, ticketText(t, 4, 1, 200), api.OK)
	admits(t, g, ticketText(t, 2, 1, 100), api.OK)
	hears(t, g, news(item(0, 1000, 4, 4), item(2, 5, 65535, 4294967295), gone(2, 6)), api.OK)
	all := []api.Item{item(0, 1000, 4, 4), item(2, 5, 65535, 4294967295), gone(2, 6), item(7, 1, 4, 1), item(7, 2, 2, 1)}
	for most := range 7 {
		tells(t, g, api.Digest{}, most, "", all[:min(most, 5)]...)
	}
	for _, most := range []int{1000, 1 << 40, math.MaxInt} {
		tells(t, g, api.Digest{}, most, "", all...)
		tells(t, g, api.Digest{Floor: 65535}, most, "", all...)
	}
	tells(t, g, g.Digest(), 9, "")
	tells(t, g, api.Digest{Seen: []api.Seen{seen(0, 999), seen(7, 1)}}, 9, "", all[0], all[1], all[2], all[4])
	tells(t, g, api.Digest{Seen: []api.Seen{seen(0, 1000), seen(7, 0, 2)}}, 9, "", all[1], all[2], all[3])
	tells(t, g, api.Digest{Seen: []api.Seen{seen(1, 1000), seen(2, 0, 2, 5), seen(15, 1000)}}, 9, "", all[0], all[2], all[3], all[4])
	// Those that the digest has are not counted.
	tells(t, g, api.Digest{Seen: []api.Seen{seen(0, 1000), seen(2, 5)}}, 2, "", all[2], all[3])
}

func TestTellTheOrder(t *testing.T) {
	g := newGate(t, 7)
	admits(t, g, ticketText(t, 4, 1, 0), api.OK)
	admits(t, g, ticketText(t, 5, 1, 0), api.OK)
	closes(t, g, orderText(t, 3), api.OK)
	tells(t, g, api.Digest{}, 0, orderText(t, 3))
	closes(t, g, orderText(t, 5), api.OK)
	closes(t, g, orderText(t, 4), api.ErrOver)
	closes(t, g, turned(orderText(t, 6), 100), api.ErrSign)
	hears(t, g, api.News{Order: orderText(t, 4)}, api.OK)
	for floor := range 5 {
		tells(t, g, api.Digest{Floor: floor}, 1, orderText(t, 5), gone(7, 1))
	}
	for _, floor := range []int{5, 6, 65535} {
		tells(t, g, api.Digest{Floor: floor}, 9, "", gone(7, 1), item(7, 2, 5, 1))
	}
	// An order that was heard goes on to others.
	hears(t, g, api.News{Order: orderText(t, 65535)}, api.OK)
	tells(t, g, api.Digest{Floor: 65534}, 9, orderText(t, 65535), gone(7, 1), gone(7, 2))
	tells(t, g, api.Digest{Floor: 65535, Seen: []api.Seen{seen(7, 2)}}, 9, "")
}

func TestTellRefuses(t *testing.T) {
	g := newGate(t, 7)
	admits(t, g, ticketText(t, 9, 1, 0), api.OK)
	closes(t, g, orderText(t, 5), api.OK)
	wrong := []api.Digest{{Floor: -1}, {Floor: 65536}, {Floor: math.MinInt}, {Floor: math.MaxInt}}
	for _, list := range [][]api.Seen{{{}}, {seen(-1, 1)}, {seen(16, 1)}, {seen(1, -1, 2)}, {seen(1, 1001)}, {seen(1, math.MaxInt, 5)}, {seen(1, 3, 4)}, {seen(1, 0, 1)}, {seen(1, 0, 3, 3)},
		{seen(1, 0, 3, 2)}, {seen(1, 0, 1001)}, {seen(1, 1), seen(1, 1)}, {seen(2, 1), seen(1, 1)}, {seen(1, 1), {Gate: 2, More: []int{}}}, make([]api.Seen, 1<<20)} {
		wrong = append(wrong, api.Digest{Seen: list})
	}
	for _, d := range wrong {
		for _, most := range []int{0, 9, -1} {
			if n, e := g.Tell(d, most); n.Order != "" || n.Heard != nil || e != api.ErrNumber {
				t.Errorf("P8: Tell(%.200v, %d) = %+v, %d", d, most, n, e)
			}
		}
	}
	for _, most := range []int{-1, -2, math.MinInt} {
		if n, e := g.Tell(api.Digest{}, most); n.Order != "" || n.Heard != nil || e != api.ErrNumber {
			t.Errorf("P8: Tell(.., %d) = %+v, %d", most, n, e)
		}
	}
}

func TestHear(t *testing.T) {
	g := newGate(t, 7)
	hears(t, g, api.News{}, api.OK)
	hears(t, g, api.News{Heard: []api.Item{}}, api.OK)
	stands(t, g, api.State{})
	hears(t, g, news(item(0, 1, 0, 0), item(6, 1000, 65535, 4294967295), gone(8, 2), item(15, 3, 0, 1)), api.OK)
	stands(t, g, api.State{Known: 4, Held: 3})
	admits(t, g, ticketText(t, 0, 0, 5), api.ErrUsed)
	admits(t, g, ticketText(t, 0, 1, 5), api.ErrUsed)
	admits(t, g, ticketText(t, 65535, 4294967295, 5), api.ErrUsed)
	admits(t, g, ticketText(t, 0, 2, 5), api.OK)
	stands(t, g, api.State{Own: 1, Known: 5, Held: 4})
	// What was heard of stays as it was.
	hears(t, g, news(item(0, 1, 9, 9), gone(6, 1000), item(7, 1, 9, 9), item(8, 2, 9, 9)), api.OK)
	stands(t, g, api.State{Own: 1, Known: 5, Held: 4})
	admits(t, g, ticketText(t, 9, 9, 0), api.OK)
	tells(t, g, api.Digest{}, 9, "", item(0, 1, 0, 0), item(6, 1000, 65535, 4294967295), item(7, 1, 0, 2), item(7, 2, 9, 9), gone(8, 2), item(15, 3, 0, 1))
}

func TestHearAnOrder(t *testing.T) {
	g := newGate(t, 7)
	admits(t, g, ticketText(t, 3, 1, 0), api.OK)
	admits(t, g, ticketText(t, 4, 1, 0), api.OK)
	// The order comes ahead of what is heard beside it.
	hears(t, g, api.News{Order: orderText(t, 4), Heard: []api.Item{item(1, 1, 3, 7), item(1, 2, 4, 7), gone(1, 3)}}, api.OK)
	stands(t, g, api.State{Floor: 4, Own: 2, Known: 5, Held: 2})
	tells(t, g, api.Digest{}, 9, orderText(t, 4), gone(1, 1), item(1, 2, 4, 7), gone(1, 3), gone(7, 1), item(7, 2, 4, 1))
	admits(t, g, ticketText(t, 3, 9, 0), api.ErrOver)
	closes(t, g, orderText(t, 4), api.ErrOver)
	// One that is not above the floor does nothing, and what is beside it is heard.
	for i, epoch := range []int{0, 3, 4} {
		hears(t, g, api.News{Order: orderText(t, epoch), Heard: []api.Item{item(2, i+1, 3, 8), item(3, i+1, 4, 8)}}, api.OK)
		stands(t, g, api.State{Floor: 4, Own: 2, Known: 7 + 2*i, Held: 3 + i})
	}
	hears(t, g, api.News{Order: orderText(t, 65535)}, api.OK)
	stands(t, g, api.State{Floor: 65535, Own: 2, Known: 11})
}

func TestHearRefuses(t *testing.T) {
	g := newGate(t, 7)
	admits(t, g, ticketText(t, 3, 1, 0), api.OK)
	fair := item(6, 5, 9, 9)
	order := orderText(t, 6)
	for _, wrong := range []api.Item{item(-1, 1, 1, 1), item(16, 1, 1, 1), item(math.MaxInt, 1, 1, 1), item(8, 0, 1, 1), item(8, -1, 1, 1), item(8, 1001, 1, 1), item(8, 1, -1, 1),
		item(8, 1, 65536, 1), item(8, 1, 1, -1), item(8, 1, 1, 4294967296), item(7, 2, 1, 1), item(7, 1000, 3, 1), gone(7, 2), gone(8, 0), {Gate: 8, Admission: 1, Epoch: 1, Gone: true},
		{Gate: 8, Admission: 1, Serial: 1, Gone: true}, fair, item(6, 4, 9, 9), item(5, 6, 9, 9)} {
		for _, o := range []string{"", order, "C", turned(order, 100)} {
			hears(t, g, api.News{Order: o, Heard: []api.Item{fair, wrong}}, api.ErrForm)
			hears(t, g, api.News{Order: o, Heard: []api.Item{fair, wrong, item(15, 1000, 9, 9)}}, api.ErrForm)
		}
	}
	for _, o := range []string{"C", order[:66], order + "\x00", "T" + order[1:], "c" + order[1:], ticketText(t, 6, 1, 1), byLibrary(ticketSeed, "C123"), strings.Repeat("C", 1<<20)} {
		hears(t, g, api.News{Order: o}, api.ErrForm)
		hears(t, g, api.News{Order: o, Heard: []api.Item{fair}}, api.ErrForm)
	}
	hears(t, g, api.News{Heard: make([]api.Item, 1<<20)}, api.ErrForm)
	for i := 8; i < 8*len(order); i += 5 {
		hears(t, g, api.News{Order: turned(order, i), Heard: []api.Item{fair}}, api.ErrSign)
	}
	// Also where it would do nothing.
	hears(t, g, api.News{Order: turned(orderText(t, 0), 100)}, api.ErrSign)
	hears(t, g, api.News{Order: byLibrary(strings.Repeat("h", 32), order[:3]), Heard: []api.Item{fair}}, api.ErrSign)
	stands(t, g, api.State{Own: 1, Known: 1, Held: 1})
	tells(t, g, api.Digest{}, 9, "", item(7, 1, 3, 1))
	hears(t, g, api.News{Order: order, Heard: []api.Item{fair, item(7, 1, 3, 1)}}, api.OK)
	stands(t, g, api.State{Floor: 6, Own: 1, Known: 2, Held: 1})
}

func TestTellAndHearKeepNoLists(t *testing.T) {
	g := newGate(t, 7)
	given := []api.Item{item(2, 2, 5, 5), gone(2, 4), item(3, 1, 6, 6), item(3, 3, 5, 5)}
	kept := slices.Clone(given)
	hears(t, g, api.News{Heard: given}, api.OK)
	if !slices.Equal(given, kept) {
		t.Errorf("P2: Hear changed its list: %+v", given)
	}
	clear(given)
	tells(t, g, api.Digest{}, 9, "", kept...)
	d := api.Digest{Seen: []api.Seen{seen(2, 0, 4, 6), seen(3, 1)}}
	tells(t, g, d, 9, "", kept[0], kept[3])
	if !reflect.DeepEqual(d, api.Digest{Seen: []api.Seen{seen(2, 0, 4, 6), seen(3, 1)}}) {
		t.Errorf("P2: Tell changed its digest: %+v", d)
	}
}

func TestListsOutAreNew(t *testing.T) {
	g := newGate(t, 7)
	all := []api.Item{item(2, 2, 5, 5), gone(2, 4), item(3, 3, 6, 6), item(3, 5, 5, 5), item(4, 2, 6, 6)}
	hears(t, g, api.News{Heard: all}, api.OK)
	fair := []api.Seen{seen(2, 0, 2, 4), seen(3, 0, 3, 5), seen(4, 0, 2)}
	double := []api.Twice{{Epoch: 5, Serial: 5, Gates: []int{2, 3}}, {Epoch: 6, Serial: 6, Gates: []int{3, 4}}}
	before := g.Digest()
	d := g.Digest()
	for i := range d.Seen {
		d.Seen[i].More = spoiled(d.Seen[i].More, -7)
	}
	if len(d.Seen[1].More) != 2 || !reflect.DeepEqual(before.Seen, fair) {
		t.Errorf("P2: a digest from before: %+v", before)
	}
	spoiled(d.Seen, api.Seen{})
	digests(t, g, api.Digest{Seen: fair})
	n, _ := g.Tell(api.Digest{}, 9)
	spoiled(n.Heard, api.Item{})
	tells(t, g, api.Digest{}, 9, "", all...)
	twice := g.Twice()
	for i := range twice {
		spoiled(twice[i].Gates, -7)
		for j := i + 1; j < len(twice); j++ {
			if !slices.Equal(twice[j].Gates, double[j].Gates) {
				t.Errorf("P2: lists of one answer share memory: %+v", twice)
			}
		}
	}
	spoiled(twice, api.Twice{})
	if l := g.Twice(); !reflect.DeepEqual(l, double) {
		t.Errorf("P2: Twice() = %+v, want %+v", l, double)
	}
}

// spoiled: the list, written over with x, its spare room too.
func spoiled[E any](list []E, x E) []E {
	whole := list[:cap(list)]
	for i := range whole {
		whole[i] = x
	}
	return list
}

package talk

import (
	"math"
	"math/rand"
	"reflect"
	"testing"

	"postern/api"
	"postern/book"
)

func of(gate int, numbers ...int) []book.Admission {
	var list []book.Admission
	for _, n := range numbers {
		list = append(list, book.Admission{Gate: gate, Number: n})
	}
	return list
}

func TestDigest(t *testing.T) {
	for _, c := range []struct {
		heard []book.Admission
		want  []api.Seen
	}{
		{nil, nil},
		{of(0, 1), []api.Seen{{Gate: 0, Upto: 1}}},
		{of(15, 2), []api.Seen{{Gate: 15, More: []int{2}}}},
		{of(3, 1, 2, 3), []api.Seen{{Gate: 3, Upto: 3}}},
		{of(3, 1, 2, 4), []api.Seen{{Gate: 3, Upto: 2, More: []int{4}}}},
		{of(3, 1, 3, 4, 6), []api.Seen{{Gate: 3, Upto: 1, More: []int{3, 4, 6}}}},
		{of(3, 2, 3, 1000), []api.Seen{{Gate: 3, More: []int{2, 3, 1000}}}},
		{append(of(3, 1, 2), of(4, 3)...), []api.Seen{{Gate: 3, Upto: 2}, {Gate: 4, More: []int{3}}}},
		{append(of(0, 3), of(1, 1, 4)...), []api.Seen{{Gate: 0, More: []int{3}}, {Gate: 1, Upto: 1, More: []int{4}}}},
	} {
		want := api.Digest{Floor: 9, Seen: c.want}
		if d := Digest(9, c.heard); !reflect.DeepEqual(d, want) {
			t.Errorf("P8: Digest(%+v) = %+v, want %+v", c.heard, d, want)
		}
	}
}

func TestDigestsAreDigests(t *testing.T) {
	r := rand.New(rand.NewSource(1))
	for range 200 {
		var heard []book.Admission
		in := map[book.Admission]bool{}
		for gate := range 16 {
			chance := r.Intn(4)
			for n := 1; n <= 1000; n++ {
				if r.Intn(3) < chance {
					heard = append(heard, book.Admission{Gate: gate, Number: n})
					in[book.Admission{Gate: gate, Number: n}] = true
				}
			}
		}
		d := Digest(r.Intn(65536), heard)
		if !IsDigest(d) {
			t.Fatalf("P8: no digest: %+v", d)
		}
		for gate := range 17 {
			for n := range 1002 {
				if a := (book.Admission{Gate: gate, Number: n}); n > 0 && Has(d, a) != in[a] {
					t.Fatalf("P8: Has(%+v, %+v) = %v", d, a, !in[a])
				}
			}
		}
	}
}

func TestIsDigest(t *testing.T) {
	for _, floor := range []int{0, 1, 65534, 65535} {
		if !IsDigest(api.Digest{Floor: floor}) {
			t.Errorf("P8: a floor of %d is one", floor)
		}
	}
	for _, floor := range []int{math.MinInt, -1, 65536, math.MaxInt} {
		if IsDigest(api.Digest{Floor: floor}) {
			t.Errorf("P8: a floor of %d is none", floor)
		}
	}
	for _, seen := range [][]api.Seen{
		{},
		{{Gate: 0, Upto: 1}},
		{{Gate: 15, Upto: 1000}},
		{{Gate: 15, Upto: 1000, More: []int{}}},
		{{Gate: 0, Upto: 998, More: []int{1000}}},
		{{Gate: 0, More: []int{2}}},
		{{Gate: 0, More: []int{2, 3, 4, 1000}}},
		{{Gate: 0, Upto: 1, More: []int{3}}, {Gate: 1, More: []int{2}}, {Gate: 15, Upto: 7}},
	} {
		if !IsDigest(api.Digest{Seen: seen}) {
			t.Errorf("P8: a digest: %+v", seen)
		}
	}
	for _, seen := range [][]api.Seen{
		{{}},
		{{Gate: 3}},
		{{Gate: 3, More: []int{}}},
		{{Gate: -1, Upto: 1}},
		{{Gate: 16, Upto: 1}},
		{{Gate: math.MinInt, Upto: 1}},
		{{Gate: math.MaxInt, Upto: 1}},
		{{Gate: 3, Upto: -1}},
		{{Gate: 3, Upto: -1, More: []int{2}}},
		{{Gate: 3, Upto: math.MinInt, More: []int{2}}},
		{{Gate: 3, Upto: 1001}},
		{{Gate: 3, Upto: math.MaxInt}},
		{{Gate: 3, Upto: math.MaxInt, More: []int{math.MinInt + 1}}},
		{{Gate: 3, Upto: math.MaxInt, More: []int{5}}},
		{{Gate: 3, More: []int{1}}},
		{{Gate: 3, More: []int{0}}},
		{{Gate: 3, More: []int{-5}}},
		{{Gate: 3, More: []int{1001}}},
		{{Gate: 3, More: []int{2, math.MaxInt}}},
		{{Gate: 3, More: []int{2, math.MaxInt, math.MinInt}}},
		{{Gate: 3, More: []int{5, 5}}},
		{{Gate: 3, More: []int{5, 4}}},
		{{Gate: 3, Upto: 4, More: []int{4}}},
		{{Gate: 3, Upto: 4, More: []int{5}}},
		{{Gate: 3, Upto: 4, More: []int{6, 3}}},
		{{Gate: 3, Upto: 999, More: []int{1001}}},
		{{Gate: 3, Upto: 1000, More: []int{1002}}},
		{{Gate: 3, Upto: 1}, {Gate: 3, Upto: 1}},
		{{Gate: 3, Upto: 1}, {Gate: 2, Upto: 1}},
		{{Gate: 1, Upto: 1}, {Gate: 3, Upto: 1}, {Gate: 2, Upto: 1}},
		{{Gate: 1, Upto: 1}, {Gate: 2}},
		{{Gate: 1, Upto: 1}, {Gate: 16, Upto: 1}},
		make([]api.Seen, 1<<20),
	} {
		if IsDigest(api.Digest{Seen: seen}) {
			t.Errorf("P8: no digest: %.200v", seen)
		}
	}
}

func TestItem(t *testing.T) {
	a, p := book.Admission{Gate: 2, Number: 3}, book.Pass{Epoch: 4, Serial: 5}
	if i := Item(a, p, true); i != (api.Item{Gate: 2, Admission: 3, Epoch: 4, Serial: 5}) {
		t.Errorf("P8: Item = %+v", i)
	}
	for _, p := range []book.Pass{p, {}} {
		if i := Item(a, p, false); i != (api.Item{Gate: 2, Admission: 3, Gone: true}) {
			t.Errorf("P8: Item of one whose pass is not known = %+v", i)
		}
	}
}

func TestAreItems(t *testing.T) {
	for _, list := range [][]api.Item{
		nil,
		{},
		{{Gate: 0, Admission: 1}},
		{{Gate: 15, Admission: 1000, Epoch: 65535, Serial: 4294967295}},
		{{Gate: 3, Admission: 5, Gone: true}},
		{{Gate: 3, Admission: 5, Epoch: 9}, {Gate: 3, Admission: 6, Epoch: 1}, {Gate: 4, Admission: 1}, {Gate: 15, Admission: 1, Gone: true}},
	} {
		if !AreItems(list) {
			t.Errorf("P8: items: %+v", list)
		}
	}
	fair := api.Item{Gate: 3, Admission: 5, Epoch: 4, Serial: 4}
	for _, wrong := range []api.Item{
		{},
		{Gate: 4},
		{Gate: -1, Admission: 1},
		{Gate: 16, Admission: 1},
		{Gate: math.MaxInt, Admission: 1},
		{Gate: math.MinInt, Admission: 1},
		{Gate: 4, Admission: -1},
		{Gate: 4, Admission: 1001},
		{Gate: 4, Admission: math.MaxInt},
		{Gate: 4, Admission: 1, Epoch: -1},
		{Gate: 4, Admission: 1, Epoch: 65536},
		{Gate: 4, Admission: 1, Serial: -1},
		{Gate: 4, Admission: 1, Serial: 4294967296},
		{Gate: 4, Admission: 1, Serial: math.MinInt},
		{Gate: 4, Admission: 1, Epoch: 1, Gone: true},
		{Gate: 4, Admission: 1, Serial: 1, Gone: true},
		{Gate: 4, Admission: 1, Epoch: 1, Serial: 1, Gone: true},
		{Gate: 4, Admission: 1, Epoch: -1, Gone: true},
	} {
		for _, list := range [][]api.Item{{wrong}, {fair, wrong}, {wrong, fair}, {fair, wrong, {Gate: 5, Admission: 1}}} {
			if AreItems(list) {
				t.Errorf("P8: no items: %+v", list)
			}
		}
	}
	for _, next := range []api.Item{fair, {Gate: 3, Admission: 4}, {Gate: 2, Admission: 6}, {Gate: 2, Admission: 5}, {Gate: 3, Admission: 5, Gone: true}, {Gate: 0, Admission: 1000}} {
		for _, list := range [][]api.Item{{fair, next}, {{Gate: 0, Admission: 1}, fair, next}, {fair, next, {Gate: 9, Admission: 1}}} {
			if AreItems(list) {
				t.Errorf("P8: not rising: %+v", list)
			}
		}
	}
}

package book

import (
	"math/rand"
	"slices"
	"testing"
)

func TestEmptyBook(t *testing.T) {
	var b Book
	if b.Floor() != 0 || b.Heard() != 0 || b.Held() != 0 || b.Used(Pass{}) {
		t.Errorf("P6: an empty book: %+v", b)
	}
	b.Raise(5)
	if b.Floor() != 5 || b.Heard() != 0 || b.Held() != 0 {
		t.Errorf("P7: an empty book with a floor: %+v", b)
	}
	b.Add(Admission{1, 1}, Pass{5, 5})
	if b.Heard() != 1 || b.Held() != 1 || !b.Used(Pass{5, 5}) || b.Used(Pass{5, 6}) || b.Used(Pass{6, 5}) || b.Used(Pass{}) {
		t.Errorf("P6: a book of one: %+v", b)
	}
}

func TestOnePassOfManyAdmissions(t *testing.T) {
	var b Book
	for i := range 10 {
		b.Add(Admission{i % 3, i}, Pass{4, 4})
	}
	b.Add(Admission{1, 100}, Pass{5, 4})
	if b.Heard() != 11 || b.Held() != 11 || !b.Used(Pass{4, 4}) {
		t.Errorf("P7: one pass, ten admissions: %+v", b)
	}
	b.Raise(4)
	if b.Heard() != 11 || b.Held() != 11 || !b.Used(Pass{4, 4}) {
		t.Errorf("P7: with the floor at their epoch: %+v", b)
	}
	b.Raise(5)
	if b.Heard() != 11 || b.Held() != 1 || b.Used(Pass{4, 4}) || !b.Used(Pass{5, 4}) {
		t.Errorf("P7: with the floor above it: %+v", b)
	}
}

func TestNoTwoBooksShare(t *testing.T) {
	var a, b Book
	a.Add(Admission{1, 1}, Pass{1, 1})
	b.Add(Admission{1, 2}, Pass{2, 2})
	b.Raise(2)
	if a.Used(Pass{2, 2}) || b.Used(Pass{1, 1}) || a.Floor() != 0 || a.Held() != 1 {
		t.Errorf("P2: %+v and %+v", a, b)
	}
}

func TestForgettingByChance(t *testing.T) {
	r := rand.New(rand.NewSource(3))
	var b Book
	var passes []Pass
	for floor := 0; floor < 60; floor += 1 + r.Intn(5) {
		b.Raise(floor)
		for range r.Intn(30) {
			passes = append(passes, Pass{Epoch: floor + r.Intn(12), Serial: r.Intn(4)})
			b.Add(Admission{r.Intn(16), len(passes)}, passes[len(passes)-1])
		}
		held := 0
		for _, p := range passes {
			if b.Used(p) != (p.Epoch >= floor) {
				t.Fatalf("P7: floor %d: Used(%+v) = %v", floor, p, p.Epoch < floor)
			}
			if p.Epoch >= floor {
				held++
			}
		}
		if b.Heard() != len(passes) || b.Held() != held || b.Floor() != floor {
			t.Fatalf("P7: floor %d: %d heard of, %d held, want %d, %d", floor, b.Heard(), b.Held(), len(passes), held)
		}
	}
}

func TestNote(t *testing.T) {
	var b Book
	b.Note(Admission{2, 7})
	if !b.Has(Admission{2, 7}) || b.Has(Admission{7, 2}) || b.Has(Admission{}) || b.Heard() != 1 || b.Held() != 0 || b.Used(Pass{}) {
		t.Errorf("P8: a book with a note: %+v", b)
	}
	if p, ok := b.Pass(Admission{2, 7}); ok || p != (Pass{}) {
		t.Errorf("P8: the pass of a note: %+v, %v", p, ok)
	}
	b.Add(Admission{2, 8}, Pass{3, 4})
	if p, ok := b.Pass(Admission{2, 8}); !ok || p != (Pass{3, 4}) || !b.Has(Admission{2, 8}) || b.Heard() != 2 || b.Held() != 1 {
		t.Errorf("P8: a note and an admission: %+v", b)
	}
	b.Raise(4)
	if p, ok := b.Pass(Admission{2, 8}); ok || p != (Pass{}) || !b.Has(Admission{2, 8}) || b.Heard() != 2 {
		t.Errorf("P8: with the floor above it: %+v", b)
	}
}

func TestListsOfAnEmptyBook(t *testing.T) {
	var b Book
	if len(b.Admissions()) != 0 || len(b.Entries()) != 0 || b.Has(Admission{}) {
		t.Errorf("P8: an empty book: %+v", b)
	}
}

func TestListsAreSorted(t *testing.T) {
	r := rand.New(rand.NewSource(4))
	for range 20 {
		var b Book
		var admissions []Admission
		var entries []Entry
		for gate := range 4 {
			for number := 1; number < 9; number++ {
				a := Admission{gate, number}
				admissions = append(admissions, a)
				p := Pass{number * gate % 3, (number + gate) % 2}
				entries = append(entries, Entry{a, p})
			}
		}
		slices.SortStableFunc(entries, func(x, y Entry) int { return (x.Epoch*10 + x.Serial) - (y.Epoch*10 + y.Serial) })
		for _, i := range r.Perm(len(entries)) {
			b.Add(entries[i].Admission, entries[i].Pass)
		}
		if l := b.Admissions(); !slices.Equal(l, admissions) {
			t.Fatalf("P8: Admissions() = %+v", l)
		}
		if l := b.Entries(); !slices.Equal(l, entries) {
			t.Fatalf("P9: Entries() = %+v, want %+v", l, entries)
		}
		b.Raise(1)
		if l := b.Admissions(); !slices.Equal(l, admissions) {
			t.Fatalf("P8: Admissions() with a floor = %+v", l)
		}
		if l := b.Entries(); !slices.Equal(l, slices.DeleteFunc(entries, func(e Entry) bool { return e.Epoch < 1 })) {
			t.Fatalf("P9: Entries() with a floor = %+v", l)
		}
	}
}

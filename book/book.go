// Package book: what a gate knows of admissions.
package book

import (
	"cmp"
	"maps"
	"slices"
)

// Admission is one of a gate's: its first, its second, ..
type Admission struct {
	Gate, Number int
}

// Pass is what makes a ticket another one. (Its class does not.)
type Pass struct {
	Epoch, Serial int
}

// Entry is an admission with its pass.
type Entry struct {
	Admission
	Pass
}

// Book of admissions. An empty one is ready for use.
type Book struct {
	floor int
	heard map[Admission]struct{}
	held  map[Admission]Pass
	// used has the passes of held once more, since each ticket is asked for by its pass.
	used map[Pass]struct{}
}

// Floor is the lowest epoch that is not over.
func (b *Book) Floor() int { return b.floor }

// Heard is of how many admissions the book knows that there were these.
func (b *Book) Heard() int { return len(b.heard) }

// Held is of how many of these it knows the pass.
func (b *Book) Held() int { return len(b.held) }

// Has tells whether it knows that there was this admission.
func (b *Book) Has(a Admission) bool {
	_, ok := b.heard[a]
	return ok
}

// Pass of an admission, if it is known.
func (b *Book) Pass(a Admission) (Pass, bool) {
	p, ok := b.held[a]
	return p, ok
}

// Used tells whether it knows an admission with this pass.
func (b *Book) Used(p Pass) bool {
	_, ok := b.used[p]
	return ok
}

// Admissions are all it knows of, sorted by gates and numbers.
func (b *Book) Admissions() []Admission {
	return slices.SortedFunc(maps.Keys(b.heard), byAdmission)
}

// Entries are all with a known pass, sorted by passes, and those of one pass by gates and numbers.
func (b *Book) Entries() []Entry {
	list := make([]Entry, 0, len(b.held))
	for a, p := range b.held {
		list = append(list, Entry{a, p})
	}
	slices.SortFunc(list, byPass)
	return list
}

// Add writes an admission down that is not in the book, and whose epoch is not over.
func (b *Book) Add(a Admission, p Pass) {
	b.Note(a)
	b.held[a] = p
	b.used[p] = struct{}{}
}

// Note writes down that there was an admission that is not in the book, but no pass.
func (b *Book) Note(a Admission) {
	if b.heard == nil {
		b.heard = make(map[Admission]struct{})
		b.held = make(map[Admission]Pass)
		b.used = make(map[Pass]struct{})
	}
	b.heard[a] = struct{}{}
}

// Raise sets the floor, and forgets the passes below it.
func (b *Book) Raise(floor int) {
	b.floor = floor
	for a, p := range b.held {
		if p.Epoch < floor {
			delete(b.held, a)
			delete(b.used, p)
		}
	}
}

func byAdmission(a Admission, b Admission) int {
	return cmp.Or(cmp.Compare(a.Gate, b.Gate), cmp.Compare(a.Number, b.Number))
}

func byPass(a Entry, b Entry) int {
	return cmp.Or(cmp.Compare(a.Epoch, b.Epoch), cmp.Compare(a.Serial, b.Serial), byAdmission(a.Admission, b.Admission))
}

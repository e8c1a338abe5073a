// Package book: what a gate knows of admissions.
package book

// Admission is one of a gate's: its first, its second, ..
type Admission struct {
	Gate, Number int
}

// Pass is what makes a ticket another one. (Its class does not.)
type Pass struct {
	Epoch, Serial int
}

// Book of admissions. An empty one is ready for use.
type Book struct {
	floor int
	heard map[Admission]struct{}
	held  map[Admission]Pass
	// used has the passes of held once more, since each ticket is asked for by its pass.
	used map[Pass]struct{}
}

// Floor is the lowest epoch that is not over.
func (b *Book) Floor() int { return b.floor }

// Heard is of how many admissions the book knows that there were these.
func (b *Book) Heard() int { return len(b.heard) }

// Held is of how many of these it knows the pass.
func (b *Book) Held() int { return len(b.held) }

// Used tells whether it knows an admission with this pass.
func (b *Book) Used(p Pass) bool {
	_, ok := b.used[p]
	return ok
}

// Add writes an admission down that is not in the book, and whose epoch is not over.
func (b *Book) Add(a Admission, p Pass) {
	if b.heard == nil {
		b.heard = make(map[Admission]struct{})
		b.held = make(map[Admission]Pass)
		b.used = make(map[Pass]struct{})
	}
	b.heard[a] = struct{}{}
	b.held[a] = p
	b.used[p] = struct{}{}
}

// Raise sets the floor, and forgets the passes below it.
func (b *Book) Raise(floor int) {
	b.floor = floor
	for a, p := range b.held {
		if p.Epoch < floor {
			delete(b.held, a)
			delete(b.used, p)
		}
	}
}

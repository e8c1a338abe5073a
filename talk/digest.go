// Package talk: the forms in which gates tell one another what they know.
package talk

import (
	"slices"

	"postern/api"
	"postern/book"
	"postern/bounds"
)

// Digest of a floor and of admissions, which are sorted.
func Digest(floor int, heard []book.Admission) api.Digest {
	d := api.Digest{Floor: floor}
	for _, a := range heard {
		last := len(d.Seen) - 1
		if last < 0 || d.Seen[last].Gate != a.Gate {
			d.Seen = append(d.Seen, api.Seen{Gate: a.Gate})
			last++
		}
		see(&d.Seen[last], a.Number)
	}
	return d
}

// see takes up the next number: behind a gap none can be Upto + 1, since they rise.
func see(s *api.Seen, number int) {
	if number == s.Upto+1 {
		s.Upto = number
	} else {
		s.More = append(s.More, number)
	}
}

// IsDigest tells whether a gate could have such a digest.
func IsDigest(d api.Digest) bool {
	if !bounds.Epoch(d.Floor) {
		return false
	}
	least := 0
	for _, s := range d.Seen {
		if s.Gate < least || !bounds.Gate(s.Gate) || !isSeen(s) {
			return false
		}
		least = s.Gate + 1
	}
	return true
}

func isSeen(s api.Seen) bool {
	if s.Upto == 0 && len(s.More) == 0 {
		return false
	}
	if s.Upto != 0 && !bounds.Admission(s.Upto) {
		return false
	}
	least := s.Upto + 2
	for _, n := range s.More {
		if n < least || !bounds.Admission(n) {
			return false
		}
		least = n + 1
	}
	return true
}

// Has tells whether the admission is in what a digest has seen.
func Has(d api.Digest, a book.Admission) bool {
	for _, s := range d.Seen {
		if s.Gate == a.Gate {
			_, more := slices.BinarySearch(s.More, a.Number)
			return more || a.Number <= s.Upto
		}
	}
	return false
}

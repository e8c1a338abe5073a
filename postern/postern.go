// Package postern: tickets that are signed, and gates that tell one another: see DOC.md.
package postern

import (
	"postern/api"
	"postern/bounds"
	"postern/hash"
	"postern/paper"
	"postern/signing"
)

// Hash of all parts (P3).
func Hash(parts ...string) string { return hash.Of(parts...) }

// Key of a seed (P4).
func Key(seed string) (string, api.Errno) {
	if len(seed) != signing.SeedSize {
		return "", api.ErrSize
	}
	return signing.Key(seed), api.OK
}

// Sign signs a text (P4).
func Sign(seed string, text string) (string, api.Errno) {
	if len(seed) != signing.SeedSize {
		return "", api.ErrSize
	}
	return signing.Sign(seed, text), api.OK
}

// Right asks a signature (P4).
func Right(key string, text string, signature string) bool {
	return signing.Right(key, text, signature)
}

// All asks many (P4).
func All(checks []api.Check) []bool { return askAll(checks) }

// Ticket signs a ticket (P5).
func Ticket(seed string, t api.Ticket) (string, api.Errno) {
	if len(seed) != signing.SeedSize {
		return "", api.ErrSize
	}
	if !bounds.Epoch(t.Epoch) || !bounds.Serial(t.Serial) || !bounds.Class(t.Class) {
		return "", api.ErrNumber
	}
	return paper.Ticket(seed, t), api.OK
}

// Order signs an order (P5).
func Order(seed string, epoch int) (string, api.Errno) {
	if len(seed) != signing.SeedSize {
		return "", api.ErrSize
	}
	if !bounds.Epoch(epoch) {
		return "", api.ErrNumber
	}
	return paper.Order(seed, epoch), api.OK
}

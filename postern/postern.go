// Package postern: tickets that are signed, and gates that tell one another: see DOC.md.
package postern

import (
	"postern/api"
	"postern/hash"
	"postern/signing"
)

// Hash of all parts (P3).
func Hash(parts ...string) string { return hash.Of(parts...) }

// Key of a seed (P4).
func Key(seed string) (string, api.Errno) {
	if len(seed) != signing.SeedSize {
		return "", api.ErrSize
	}
	return signing.Key(seed), api.OK
}

// Sign signs a text (P4).
func Sign(seed string, text string) (string, api.Errno) {
	if len(seed) != signing.SeedSize {
		return "", api.ErrSize
	}
	return signing.Sign(seed, text), api.OK
}

// Right asks a signature (P4).
func Right(key string, text string, signature string) bool {
	return signing.Right(key, text, signature)
}

// All asks many (P4).
func All(checks []api.Check) []bool { return askAll(checks) }

// Ticket signs a ticket (P5).
func Ticket(seed string, t api.Ticket) (string, api.Errno) { return "", api.OK }

// Order signs an order (P5).
func Order(seed string, epoch int) (string, api.Errno) { return "", api.OK }

// Gate lets people in.
type Gate struct{}

// New makes a gate (P6).
func New(number int, key string) (*Gate, api.Errno) { return nil, api.OK }

// Admit lets a ticket in (P6).
func (g *Gate) Admit(ticket string) api.Errno { return api.OK }

// Close takes an order (P7).
func (g *Gate) Close(order string) api.Errno { return api.OK }

// Look tells how the gate stands (P7).
func (g *Gate) Look() api.State { return api.State{} }

// Digest tells what it has heard of (P8).
func (g *Gate) Digest() api.Digest { return api.Digest{} }

// Tell tells news (P8).
func (g *Gate) Tell(d api.Digest, most int) (api.News, api.Errno) { return api.News{}, api.OK }

// Hear hears them (P8).
func (g *Gate) Hear(n api.News) api.Errno { return api.OK }

// Twice tells what was let in more than once (P9).
func (g *Gate) Twice() []api.Twice { return nil }

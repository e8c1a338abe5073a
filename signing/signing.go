// Package signing: keys, signatures, and whether these are right (Ed25519 of RFC 8032).
package signing

import (
	"postern/curve"
	"postern/hash"
	"postern/scalar"
	"postern/wide"
)

const (
	// SeedSize is how many bytes a seed has.
	SeedSize = 32
	// KeySize is how many bytes a key has.
	KeySize = curve.Size
	// Size is how many bytes a signature has.
	Size = curve.Size + wide.Size
)

// Key is the seed's key. The seed has SeedSize bytes.
func Key(seed string) string {
	number, _ := halves(seed)
	return timesBase(number)
}

// Sign is the signature of the text by the seed. The seed has SeedSize bytes.
func Sign(seed string, text string) string {
	number, second := halves(seed)
	r := scalar.FromHash(hash.Of(second, text))
	point := timesBase(r)
	k := scalar.FromHash(hash.Of(point, timesBase(number), text))
	return point + scalar.AddMul(r, k, number).Bytes()
}

// Right tells whether the signature is right for the key and the text.
func Right(key string, text string, signature string) bool {
	if len(key) != KeySize || len(signature) != Size {
		return false
	}
	point := signature[:curve.Size]
	s := wide.FromBytes(signature[curve.Size:])
	if !s.Below(scalar.Order()) {
		return false
	}
	a, ok := curve.FromBytes(key)
	if !ok {
		return false
	}
	k := scalar.FromHash(hash.Of(point, key, text))
	sum := curve.Sum(curve.Term{Times: s, Point: curve.Base()}, curve.Term{Times: k, Point: a.Neg()})
	return sum.Bytes() == point
}

// halves is the seed's number, and the second half of its hash.
func halves(seed string) (number wide.Number, second string) {
	h := hash.Of(seed)
	number = wide.FromBytes(h[:wide.Size])
	number[0] &^= 7
	number[3] &^= 1 << 63
	number[3] |= 1 << 62
	return number, h[wide.Size:]
}

// timesBase is the bytes of n times the base.
func timesBase(n wide.Number) string {
	return curve.Sum(curve.Term{Times: n, Point: curve.Base()}).Bytes()
}

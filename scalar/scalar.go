// Package scalar reckons modulo L, which is how often the base is added to itself until the sum is 0, 1.
package scalar

import "postern/wide"

// Order is L.
func Order() wide.Number {
	return wide.Number{0x5812631a5cf5d3ed, 0x14def9dea2f79cd6, 0, 0x1000000000000000}
}

// FromHash is the hash's 64 bytes as a number, the lowest byte first, modulo L.
func FromHash(hash string) wide.Number {
	low := wide.FromBytes(hash)
	high := wide.FromBytes(hash[min(len(hash), wide.Size):])
	return reduce(wide.Join(low, high))
}

// AddMul is r + k n modulo L. r is below L.
func AddMul(r, k, n wide.Number) wide.Number {
	// Two numbers below L have a sum below 2^254.
	sum, _ := wide.Add(r, reduce(wide.Mul(k, n)))
	return wide.Less(sum, Order())
}

// reduce is n modulo L, taken bit by bit from the highest one.
func reduce(n wide.Double) wide.Number {
	var rest wide.Number
	for i := 511; i >= 0; i-- {
		rest, _ = wide.Add(rest, rest)
		rest[0] |= n[i/64] >> (i % 64) & 1
		rest = wide.Less(rest, Order())
	}
	return rest
}

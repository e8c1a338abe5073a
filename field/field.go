// Package field reckons modulo P = 2^255 - 19.
package field

import (
	"math/bits"

	"postern/wide"
)

// Word is a number from 0 to P - 1, its lowest 64 bits first.
// No call makes one of P or more, so == tells whether two are the same.
type Word wide.Number

// lowBits are all but the highest one.
const lowBits = 1<<63 - 1

// prime is P.
func prime() wide.Number {
	return wide.Number{0xffffffffffffffed, 0xffffffffffffffff, 0xffffffffffffffff, 0x7fffffffffffffff}
}

// rootOfMinusOne is one of the two words whose square is P - 1.
func rootOfMinusOne() Word {
	return Word{0xc4ee1b274a0ea0b0, 0x2f431806ad2fe478, 0x2b4d00993dfbd7a7, 0x2b8324804fc1df0b}
}

// One is the word 1.
func One() Word {
	return Word{1}
}

// FromNumber is n as a word; false, if it is not below P.
func FromNumber(n wide.Number) (Word, bool) {
	if !n.Below(prime()) {
		return Word{}, false
	}
	return Word(n), true
}

// Number is the word as a number from 0 to P - 1.
func (a Word) Number() wide.Number {
	return wide.Number(a)
}

// Odd tells whether the lowest bit is set.
func (a Word) Odd() bool {
	return a[0]&1 == 1
}

// Add is a + b.
func (a Word) Add(b Word) Word {
	// Both are below 2^255: nothing goes beyond 256 bits.
	s0, carry := bits.Add64(a[0], b[0], 0)
	s1, carry := bits.Add64(a[1], b[1], carry)
	s2, carry := bits.Add64(a[2], b[2], carry)
	return settle(s0, s1, s2, a[3]+b[3]+carry)
}

// Sub is a - b.
func (a Word) Sub(b Word) Word {
	r0, borrow := bits.Sub64(a[0], b[0], 0)
	r1, borrow := bits.Sub64(a[1], b[1], borrow)
	r2, borrow := bits.Sub64(a[2], b[2], borrow)
	r3, borrow := bits.Sub64(a[3], b[3], borrow)
	// What went round 2^256 shall go round P = 2^255 - 19: 19 less, without the highest bit.
	r0, borrow = bits.Sub64(r0, 19*borrow, 0)
	r1, borrow = bits.Sub64(r1, 0, borrow)
	r2, borrow = bits.Sub64(r2, 0, borrow)
	return Word{r0, r1, r2, (r3 - borrow) & lowBits}
}

// Neg is -a.
func (a Word) Neg() Word {
	return Word{}.Sub(a)
}

// Mul is a b.
func (a Word) Mul(b Word) Word {
	a0, a1, a2, a3 := a[0], a[1], a[2], a[3]
	w0, r1, r2, r3, r4 := addRow(0, 0, 0, 0, a0, a1, a2, a3, b[0])
	w1, r1, r2, r3, r4 := addRow(r1, r2, r3, r4, a0, a1, a2, a3, b[1])
	w2, r1, r2, r3, r4 := addRow(r1, r2, r3, r4, a0, a1, a2, a3, b[2])
	w3, w4, w5, w6, w7 := addRow(r1, r2, r3, r4, a0, a1, a2, a3, b[3])
	// 2^256 is 38 modulo P, and 2^255 is 19.
	w0, w1, w2, w3, w4 = addRow(w0, w1, w2, w3, w4, w5, w6, w7, 38)
	over := w4<<1 | w3>>63
	w0, carry := bits.Add64(w0, 19*over, 0)
	w1, carry = bits.Add64(w1, 0, carry)
	w2, carry = bits.Add64(w2, 0, carry)
	return settle(w0, w1, w2, w3&lowBits+carry)
}

// addRow is p + a n, which always has room in five words.
func addRow(p0, p1, p2, p3, a0, a1, a2, a3, n uint64) (r0, r1, r2, r3, r4 uint64) {
	h0, l0 := bits.Mul64(a0, n)
	h1, l1 := bits.Mul64(a1, n)
	h2, l2 := bits.Mul64(a2, n)
	h3, l3 := bits.Mul64(a3, n)
	r0, carry := bits.Add64(p0, l0, 0)
	r1, carry = bits.Add64(p1, l1, carry)
	r2, carry = bits.Add64(p2, l2, carry)
	r3, carry = bits.Add64(p3, l3, carry)
	r4 = h3 + carry
	r1, carry = bits.Add64(r1, h0, 0)
	r2, carry = bits.Add64(r2, h1, carry)
	r3, carry = bits.Add64(r3, h2, carry)
	return r0, r1, r2, r3, r4 + carry
}

// settle is the number w modulo P, if it is below 2 P.
func settle(w0, w1, w2, w3 uint64) Word {
	// It is P or more just if it and 19 are 2^255 or more.
	r0, carry := bits.Add64(w0, 19, 0)
	r1, carry := bits.Add64(w1, 0, carry)
	r2, carry := bits.Add64(w2, 0, carry)
	r3 := w3 + carry
	if r3>>63 == 0 {
		return Word{w0, w1, w2, w3}
	}
	return Word{r0, r1, r2, r3 & lowBits}
}

// Square is a a.
func (a Word) Square() Word {
	return a.Mul(a)
}

// Inverse is 1 / a, and 0 for 0.
func (a Word) Inverse() Word {
	// a^(P-2), and P - 2 is 8 (2^252 - 3) + 3.
	return a.power().squares(3).Mul(a).Mul(a.Square())
}

// Root is a word whose square is u / v; false, if there is none. v is not 0.
func Root(u, v Word) (Word, bool) {
	v3 := v.Square().Mul(v)
	v7 := v3.Square().Mul(v)
	root := u.Mul(v3).Mul(u.Mul(v7).power())
	// The square of root is u / v, or that times a fourth root of 1.
	switch v.Mul(root.Square()) {
	case u:
		return root, true
	case u.Neg():
		return root.Mul(rootOfMinusOne()), true
	}
	return Word{}, false
}

// power is a^(2^252 - 3); 2^252 - 3 is (P - 5) / 8.
func (a Word) power() Word {
	// ones of n is a^(2^n - 1).
	ones2 := join(a, 1, a)
	ones4 := join(ones2, 2, ones2)
	ones5 := join(ones4, 1, a)
	ones10 := join(ones5, 5, ones5)
	ones20 := join(ones10, 10, ones10)
	ones40 := join(ones20, 20, ones20)
	ones50 := join(ones40, 10, ones10)
	ones100 := join(ones50, 50, ones50)
	ones200 := join(ones100, 100, ones100)
	ones250 := join(ones200, 50, ones50)
	return join(ones250, 2, a)
}

// join puts the n bits of b's exponent behind those of a's.
func join(a Word, n int, b Word) Word {
	return a.squares(n).Mul(b)
}

// squares squares a n times.
func (a Word) squares(n int) Word {
	for range n {
		a = a.Square()
	}
	return a
}

// Package wide: numbers of 256 and of 512 bits.
package wide

import "math/bits"

// Number has 256 bits, the lowest 64 first.
type Number [4]uint64

// Double has 512 bits, the lowest 64 first.
type Double [8]uint64

// Size is how many bytes a Number has.
const Size = 32

// FromBytes reads up to 32 bytes, the lowest first.
func FromBytes(b string) Number {
	var n Number
	for i := range min(len(b), Size) {
		n[i/8] |= uint64(b[i]) << (8 * (i % 8))
	}
	return n
}

// Bytes is the number's 32 bytes, the lowest first.
func (n Number) Bytes() string {
	var b [Size]byte
	for i := range b {
		b[i] = byte(n[i/8] >> (8 * (i % 8)))
	}
	return string(b[:])
}

// Below tells whether n is less than m.
func (n Number) Below(m Number) bool {
	_, borrow := Sub(n, m)
	return borrow != 0
}

// Join makes a number of 512 bits from its halves.
func Join(low, high Number) Double {
	return Double{low[0], low[1], low[2], low[3], high[0], high[1], high[2], high[3]}
}

// Add is a + b, and what goes beyond 256 bits (0 or 1).
func Add(a, b Number) (Number, uint64) {
	var sum Number
	var carry uint64
	sum[0], carry = bits.Add64(a[0], b[0], 0)
	sum[1], carry = bits.Add64(a[1], b[1], carry)
	sum[2], carry = bits.Add64(a[2], b[2], carry)
	sum[3], carry = bits.Add64(a[3], b[3], carry)
	return sum, carry
}

// Sub is a - b modulo 2^256, and 1 if b is greater than a, else 0.
func Sub(a, b Number) (Number, uint64) {
	var rest Number
	var borrow uint64
	rest[0], borrow = bits.Sub64(a[0], b[0], 0)
	rest[1], borrow = bits.Sub64(a[1], b[1], borrow)
	rest[2], borrow = bits.Sub64(a[2], b[2], borrow)
	rest[3], borrow = bits.Sub64(a[3], b[3], borrow)
	return rest, borrow
}

// Less is a - m, or a if m is greater.
func Less(a, m Number) Number {
	rest, borrow := Sub(a, m)
	if borrow != 0 {
		return a
	}
	return rest
}

// Mul is a b.
func Mul(a, b Number) Double {
	var out Double
	for i := range a {
		var carry uint64
		for j := range b {
			carry, out[i+j] = mulAdd(a[i], b[j], out[i+j], carry)
		}
		out[i+len(b)] = carry
	}
	return out
}

// mulAdd is x y + p + q, which always has room in two words.
func mulAdd(x, y, p, q uint64) (high, low uint64) {
	high, low = bits.Mul64(x, y)
	low, carry := bits.Add64(low, p, 0)
	high += carry
	low, carry = bits.Add64(low, q, 0)
	return high + carry, low
}

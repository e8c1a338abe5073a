// Package curve: points x, y with y^2 - x^2 = 1 + D x^2 y^2, and their sums.
package curve

import (
	"postern/field"
	"postern/wide"
)

// Size is how many bytes a point has.
const Size = 32

// Point is the point x/z, y/z, with t = x y / z: so sums need no division.
type Point struct {
	x, y, z, t field.Word
}

// Term is Times times Point.
type Term struct {
	Times wide.Number
	Point Point
}

// factor is D = -121665 / 121666.
func factor() field.Word {
	return field.Word{0x75eb4dca135978a3, 0x00700a4d4141d8ab, 0x8cc740797779e898, 0x52036cee2b6ffe73}
}

// twiceFactor is 2 D.
func twiceFactor() field.Word {
	return field.Word{0xebd69b9426b2f159, 0x00e0149a8283b156, 0x198e80f2eef3d130, 0x2406d9dc56dffce7}
}

// Zero is the point 0, 1, which adds nothing.
func Zero() Point {
	return affine(field.Word{}, field.One())
}

// Base is B, the point whose y is 4 / 5, and whose x is even.
func Base() Point {
	return affine(
		field.Word{0xc9562d608f25d51a, 0x692cc7609525a7b2, 0xc0a4e231fdd6dc5c, 0x216936d3cd6e53fe},
		field.Word{0x6666666666666658, 0x6666666666666666, 0x6666666666666666, 0x6666666666666666},
	)
}

func affine(x, y field.Word) Point {
	return Point{x: x, y: y, z: field.One(), t: x.Mul(y)}
}

// FromBytes is the point whose bytes these are; false, if there is none.
func FromBytes(b string) (Point, bool) {
	if len(b) != Size {
		return Point{}, false
	}
	n := wide.FromBytes(b)
	odd := n[3]>>63 == 1
	n[3] &= 1<<63 - 1
	y, ok := field.FromNumber(n)
	if !ok {
		return Point{}, false
	}
	x, ok := across(y, odd)
	if !ok {
		return Point{}, false
	}
	return affine(x, y), true
}

// across is the x, odd or even as asked, of the point with this y; false, if there is none.
func across(y field.Word, odd bool) (field.Word, bool) {
	y2 := y.Square()
	// -1 / D is no square, so D y^2 + 1 is never 0.
	x, ok := field.Root(y2.Sub(field.One()), factor().Mul(y2).Add(field.One()))
	if !ok {
		return field.Word{}, false
	}
	if x.Odd() != odd {
		x = x.Neg()
	}
	// -0 is 0: there is no odd x then.
	return x, x.Odd() == odd
}

// Bytes is the point's bytes.
func (p Point) Bytes() string {
	inverse := p.z.Inverse()
	n := p.y.Mul(inverse).Number()
	if p.x.Mul(inverse).Odd() {
		n[3] |= 1 << 63
	}
	return n.Bytes()
}

// Neg is the point with -x.
func (p Point) Neg() Point {
	return Point{x: p.x.Neg(), y: p.y, z: p.z, t: p.t.Neg()}
}

// Add is the sum of two points.
func (p Point) Add(q Point) Point {
	a := p.y.Sub(p.x).Mul(q.y.Sub(q.x))
	b := p.y.Add(p.x).Mul(q.y.Add(q.x))
	c := p.t.Mul(twiceFactor()).Mul(q.t)
	d := p.z.Mul(q.z)
	d = d.Add(d)
	return fromQuotients(b.Sub(a), d.Sub(c), d.Add(c), b.Add(a))
}

// Double is the sum of the point and itself: what Add answers, in fewer steps.
func (p Point) Double() Point {
	a := p.x.Square()
	b := p.y.Square()
	c := p.z.Square()
	c = c.Add(c)
	e := p.x.Add(p.y).Square().Sub(a).Sub(b)
	g := b.Sub(a)
	return fromQuotients(e, g.Sub(c), g, a.Add(b).Neg())
}

// fromQuotients is the point e/g, h/f.
func fromQuotients(e, f, g, h field.Word) Point {
	return Point{x: e.Mul(f), y: g.Mul(h), z: f.Mul(g), t: e.Mul(h)}
}

// Sum is the sum of all terms. They share the doublings: four for each four bits.
func Sum(terms ...Term) Point {
	tables := make([][16]Point, len(terms))
	for i, term := range terms {
		tables[i] = multiples(term.Point)
	}
	sum := Zero()
	for i := 63; i >= 0; i-- {
		sum = sum.Double().Double().Double().Double()
		for j, term := range terms {
			digit := term.Times[i/16] >> (4 * (i % 16)) & 15
			sum = sum.Add(tables[j][digit])
		}
	}
	return sum
}

// multiples is 0 to 15 times the point.
func multiples(p Point) [16]Point {
	var table [16]Point
	table[0] = Zero()
	for i := range 15 {
		table[i+1] = table[i].Add(p)
	}
	return table
}

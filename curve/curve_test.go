package curve

import (
	"math/big"
	"math/rand"
	"slices"
	"strings"
	"testing"

	"postern/field"
	"postern/scalar"
	"postern/wide"
)

// pair is a point as the document has it: x and y.
type pair struct{ x, y *big.Int }

func modulus() *big.Int {
	p := new(big.Int).Lsh(big.NewInt(1), 255)
	return p.Sub(p, big.NewInt(19))
}

// divide: a / b modulo P.
func divide(a, b *big.Int) *big.Int {
	q := new(big.Int).ModInverse(new(big.Int).Mod(b, modulus()), modulus())
	q.Mul(q, a)
	return q.Mod(q, modulus())
}

func times(a ...*big.Int) *big.Int {
	out := big.NewInt(1)
	for _, n := range a {
		out.Mod(out.Mul(out, n), modulus())
	}
	return out
}

func plus(a, b *big.Int) *big.Int { return new(big.Int).Add(a, b) }

func minus(a, b *big.Int) *big.Int { return new(big.Int).Sub(a, b) }

var one = big.NewInt(1)

var bigFactor = divide(big.NewInt(-121665), big.NewInt(121666))

// sum: of two points, by the document's rule.
func sum(a, b pair) pair {
	m := times(bigFactor, a.x, a.y, b.x, b.y)
	return pair{
		divide(plus(times(a.x, b.y), times(a.y, b.x)), plus(one, m)),
		divide(plus(times(a.y, b.y), times(a.x, b.x)), minus(one, m)),
	}
}

// pairBytes: a point's bytes, by the document's rule.
func pairBytes(a pair) string {
	b := a.y.FillBytes(make([]byte, 32))
	slices.Reverse(b)
	b[31] |= byte(a.x.Bit(0)) << 7
	return string(b)
}

func toBig(w field.Word) *big.Int {
	b := []byte(w.Number().Bytes())
	slices.Reverse(b)
	return new(big.Int).SetBytes(b)
}

func toPair(p Point) pair {
	return pair{divide(toBig(p.x), toBig(p.z)), divide(toBig(p.y), toBig(p.z))}
}

func lies(a pair) bool {
	x2, y2 := times(a.x, a.x), times(a.y, a.y)
	return new(big.Int).Mod(minus(minus(y2, x2), plus(one, times(bigFactor, x2, y2))), modulus()).Sign() == 0
}

func low(n *big.Int) string {
	b := n.FillBytes(make([]byte, 32))
	slices.Reverse(b)
	return string(b)
}

func high(s string) string { return s[:31] + string([]byte{s[31] | 128}) }

// small: the points that eight times are 0, 1.
func small(t *testing.T) []Point {
	t.Helper()
	for y := int64(2); ; y++ {
		p, ok := FromBytes(low(big.NewInt(y)))
		if !ok {
			continue
		}
		p = Sum(Term{scalar.Order(), p})
		if p.Double().Double().Bytes() == Zero().Bytes() {
			continue
		}
		var out []Point
		for i := range uint64(8) {
			out = append(out, Sum(Term{wide.Number{i}, p}))
		}
		return out
	}
}

// points: of small order, multiples of the base, and sums of both.
func points(t *testing.T) []Point {
	out := small(t)
	r := rand.New(rand.NewSource(1))
	for i := range 6 {
		p := Sum(Term{wide.Number{r.Uint64(), r.Uint64(), r.Uint64(), r.Uint64()}, Base()})
		out = append(out, p, p.Add(out[i+1]))
	}
	return append(out, Base(), Base().Neg())
}

func TestConstants(t *testing.T) {
	if toBig(factor()).Cmp(bigFactor) != 0 || twiceFactor() != factor().Add(factor()) {
		t.Error("P4: D is wrong")
	}
	b := toPair(Base())
	if b.y.Cmp(divide(big.NewInt(4), big.NewInt(5))) != 0 || b.x.Bit(0) != 0 || !lies(b) {
		t.Error("P4: the base is wrong")
	}
	if Sum(Term{scalar.Order(), Base()}).Bytes() != low(one) {
		t.Error("P4: L times the base is not 0, 1")
	}
}

func TestSumsOfPoints(t *testing.T) {
	all := points(t)
	for _, p := range all {
		a := toPair(p)
		if !lies(a) || p.Bytes() != pairBytes(a) || p.t.Mul(p.z) != p.x.Mul(p.y) {
			t.Errorf("P4: %x is no point, or has other bytes", p)
		}
		if p.Double().Bytes() != pairBytes(sum(a, a)) {
			t.Errorf("P4: the double of %x is wrong", p.Bytes())
		}
		if p.Add(p.Neg()).Bytes() != Zero().Bytes() {
			t.Errorf("P4: %x less itself is not 0, 1", p.Bytes())
		}
		for _, q := range all {
			if p.Add(q).Bytes() != pairBytes(sum(a, toPair(q))) {
				t.Errorf("P4: the sum of %x and %x is wrong", p.Bytes(), q.Bytes())
			}
		}
	}
}

// slowTimes: n times a point, bit by bit.
func slowTimes(n wide.Number, p Point) Point {
	out := Zero()
	for i := 255; i >= 0; i-- {
		out = out.Add(out)
		if n[i/64]>>(i%64)&1 == 1 {
			out = out.Add(p)
		}
	}
	return out
}

func TestSum(t *testing.T) {
	r := rand.New(rand.NewSource(2))
	most := uint64(1<<64 - 1)
	numbers := []wide.Number{{}, {1}, {2}, {15}, {16}, {17}, {0, 1}, {0, 0, 0, 1 << 63}, {most, most, most, most}, scalar.Order()}
	for range 3 {
		numbers = append(numbers, wide.Number{r.Uint64(), r.Uint64(), r.Uint64(), r.Uint64()})
	}
	all := points(t)
	for i, n := range numbers {
		for j, p := range all {
			m, q := numbers[(i+j)%len(numbers)], all[(j+3)%len(all)]
			a, b := slowTimes(n, p), slowTimes(m, q)
			if Sum(Term{n, p}).Bytes() != a.Bytes() || Sum(Term{n, p}, Term{m, q}).Bytes() != a.Add(b).Bytes() {
				t.Errorf("P4: %x times %x, or that and %x times %x, is wrong", n, p.Bytes(), m, q.Bytes())
			}
		}
	}
	if Sum().Bytes() != Zero().Bytes() {
		t.Error("P4: the sum of nothing is not 0, 1")
	}
}

func TestFromBytes(t *testing.T) {
	for _, p := range points(t) {
		q, ok := FromBytes(p.Bytes())
		if !ok || toPair(q).x.Cmp(toPair(p).x) != 0 || toPair(q).y.Cmp(toPair(p).y) != 0 || q.t != q.x.Mul(q.y) || q.z != field.One() {
			t.Errorf("P4: FromBytes(%x) = %x, %v", p.Bytes(), q, ok)
		}
	}
	r := rand.New(rand.NewSource(3))
	found := 0
	for range 200 {
		y := new(big.Int).Rand(r, modulus())
		y2 := times(y, y)
		x2 := divide(minus(y2, one), plus(times(bigFactor, y2), one))
		want := big.Jacobi(x2, modulus()) >= 0
		for _, s := range []string{low(y), high(low(y))} {
			p, ok := FromBytes(s)
			if ok != want || ok && p.Bytes() != s || !ok && p != (Point{}) {
				t.Errorf("P4: FromBytes(%x) = %x, %v", s, p, ok)
			}
		}
		if want {
			found++
		}
	}
	if found == 0 || found == 200 {
		t.Errorf("the test has %d points of 200", found)
	}
}

func TestNoPointsBytes(t *testing.T) {
	last := minus(modulus(), one)
	refused := []string{"", strings.Repeat("\x00", 31), low(one) + "\x00", low(one)[:31], high(low(one)), high(low(last)), low(big.NewInt(2)), high(low(big.NewInt(2)))}
	for i := range int64(19) {
		s := low(plus(modulus(), big.NewInt(i)))
		refused = append(refused, s, high(s))
	}
	for _, s := range refused {
		if p, ok := FromBytes(s); ok || p != (Point{}) {
			t.Errorf("P4: FromBytes(%x) = %x, %v", s, p, ok)
		}
	}
	for _, s := range []string{low(one), low(last), strings.Repeat("\x00", 32), high(strings.Repeat("\x00", 32))} {
		if p, ok := FromBytes(s); !ok || p.Bytes() != s {
			t.Errorf("P4: FromBytes(%x) = %x, %v", s, p, ok)
		}
	}
}

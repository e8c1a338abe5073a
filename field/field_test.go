package field

import (
	"math/big"
	"math/rand"
	"slices"
	"testing"

	"postern/wide"
)

// modulus is P, by its rule.
func modulus() *big.Int {
	p := new(big.Int).Lsh(big.NewInt(1), 255)
	return p.Sub(p, big.NewInt(19))
}

func toBig(a Word) *big.Int {
	b := []byte(a.Number().Bytes())
	slices.Reverse(b)
	return new(big.Int).SetBytes(b)
}

// number: n, which has at most 256 bits.
func number(n *big.Int) wide.Number {
	b := n.FillBytes(make([]byte, 32))
	slices.Reverse(b)
	return wide.FromBytes(string(b))
}

func word(t *testing.T, n *big.Int) Word {
	t.Helper()
	w, ok := FromNumber(number(n))
	if !ok {
		t.Fatalf("FromNumber(%x) is refused", n)
	}
	return w
}

// words: those at the edges, and some by chance.
func words(t *testing.T) []Word {
	var out []Word
	for i := range int64(40) {
		out = append(out, word(t, big.NewInt(i)), word(t, new(big.Int).Sub(modulus(), big.NewInt(i+1))))
	}
	for _, i := range []uint{63, 64, 127, 128, 191, 192, 254} {
		power := new(big.Int).Lsh(big.NewInt(1), i)
		out = append(out, word(t, power), word(t, new(big.Int).Sub(power, big.NewInt(1))))
	}
	r := rand.New(rand.NewSource(1))
	for range 60 {
		out = append(out, word(t, new(big.Int).Rand(r, modulus())))
	}
	return out
}

func TestReckoning(t *testing.T) {
	p := modulus()
	same := func(got Word, want *big.Int) bool { return toBig(got).Cmp(want.Mod(want, p)) == 0 }
	for _, a := range words(t) {
		x := toBig(a)
		for _, b := range words(t) {
			y := toBig(b)
			if !same(a.Add(b), new(big.Int).Add(x, y)) {
				t.Errorf("P4: %x + %x = %x", a, b, a.Add(b))
			}
			if !same(a.Sub(b), new(big.Int).Sub(x, y)) {
				t.Errorf("P4: %x - %x = %x", a, b, a.Sub(b))
			}
			if !same(a.Mul(b), new(big.Int).Mul(x, y)) {
				t.Errorf("P4: %x times %x = %x", a, b, a.Mul(b))
			}
		}
		if !same(a.Neg(), new(big.Int).Neg(x)) || !same(a.Square(), new(big.Int).Mul(x, x)) || a.Odd() != (x.Bit(0) == 1) {
			t.Errorf("P4: Neg, Square or Odd of %x is wrong", a)
		}
		if !same(a.Inverse(), new(big.Int).Exp(x, new(big.Int).Sub(p, big.NewInt(2)), p)) {
			t.Errorf("P4: Inverse of %x = %x", a, a.Inverse())
		}
	}
}

func TestRoot(t *testing.T) {
	divisor := word(t, big.NewInt(7))
	found, missed := 0, 0
	for _, u := range words(t) {
		for _, v := range []Word{One(), divisor, divisor.Neg()} {
			quotient := toBig(u.Mul(v.Inverse()))
			root, ok := Root(u, v)
			if ok != (big.Jacobi(quotient, modulus()) >= 0) {
				t.Errorf("P4: Root(%x, %x) = %x, %v", u, v, root, ok)
			}
			if ok && root.Square().Mul(v) != u || !ok && root != (Word{}) {
				t.Errorf("P4: Root(%x, %x) = %x, %v", u, v, root, ok)
			}
			if ok {
				found++
			} else {
				missed++
			}
		}
	}
	if found == 0 || missed == 0 {
		t.Errorf("the test has %d squares and %d others", found, missed)
	}
	if rootOfMinusOne().Square() != One().Neg() {
		t.Error("P4: the root of -1 is wrong")
	}
}

func TestFromNumberIsBelowP(t *testing.T) {
	top := new(big.Int).Lsh(big.NewInt(1), 256)
	for _, n := range []*big.Int{
		modulus(), new(big.Int).Add(modulus(), big.NewInt(1)), new(big.Int).Add(modulus(), big.NewInt(18)),
		new(big.Int).Lsh(big.NewInt(1), 255), new(big.Int).Sub(top, big.NewInt(1)),
	} {
		if w, ok := FromNumber(number(n)); ok || w != (Word{}) {
			t.Errorf("P4: FromNumber(%x) = %x, %v", n, w, ok)
		}
	}
	for _, a := range words(t) {
		if w, ok := FromNumber(a.Number()); !ok || w != a {
			t.Errorf("P4: FromNumber(%x) = %x, %v", a, w, ok)
		}
	}
}

package wide

import (
	"math/big"
	"math/rand"
	"slices"
	"testing"
)

const most = 1<<64 - 1

// numbers: edges, and some by chance.
func numbers() []Number {
	out := []Number{{}, {1}, {most}, {0, 1}, {0, 0, 0, 1 << 63}, {most, most, most, most}, {most, most, most, most >> 1}, {0, most, 0, most}}
	r := rand.New(rand.NewSource(1))
	for range 20 {
		out = append(out, Number{r.Uint64(), r.Uint64(), r.Uint64(), r.Uint64()})
	}
	return out
}

// great: the number of these words, the lowest first.
func great(words ...uint64) *big.Int {
	n := new(big.Int)
	for _, w := range slices.Backward(words) {
		n.Add(n.Lsh(n, 64), new(big.Int).SetUint64(w))
	}
	return n
}

func TestSumsAndProducts(t *testing.T) {
	for _, a := range numbers() {
		for _, b := range numbers() {
			x, y := great(a[:]...), great(b[:]...)
			sum, carry := Add(a, b)
			if great(append(sum[:], carry)...).Cmp(new(big.Int).Add(x, y)) != 0 {
				t.Errorf("Add(%x, %x) = %x, %d", a, b, sum, carry)
			}
			rest, borrow := Sub(a, b)
			back, carry := Add(rest, b)
			if back != a || carry != borrow || (borrow != 0) != (x.Cmp(y) < 0) || a.Below(b) != (x.Cmp(y) < 0) {
				t.Errorf("Sub(%x, %x) = %x, %d", a, b, rest, borrow)
			}
			if less := Less(a, b); borrow == 0 && less != rest || borrow != 0 && less != a {
				t.Errorf("Less(%x, %x) = %x", a, b, less)
			}
			if product := Mul(a, b); great(product[:]...).Cmp(new(big.Int).Mul(x, y)) != 0 {
				t.Errorf("Mul(%x, %x) = %x", a, b, product)
			}
		}
	}
}

func TestBytes(t *testing.T) {
	for _, n := range numbers() {
		b := []byte(n.Bytes())
		slices.Reverse(b)
		if len(b) != Size || new(big.Int).SetBytes(b).Cmp(great(n[:]...)) != 0 || FromBytes(n.Bytes()) != n {
			t.Errorf("the bytes of %x, highest first: %x", n, b)
		}
	}
	if FromBytes("") != (Number{}) || FromBytes("\x01\x02") != (Number{0x201}) {
		t.Error("FromBytes of few bytes is wrong")
	}
	if FromBytes(Number{7, 6, 5, 4}.Bytes()+"more") != (Number{7, 6, 5, 4}) {
		t.Error("FromBytes of many bytes is wrong")
	}
	if Join(Number{1, 2, 3, 4}, Number{5, 6, 7, 8}) != (Double{1, 2, 3, 4, 5, 6, 7, 8}) {
		t.Error("Join is wrong")
	}
}

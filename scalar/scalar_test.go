package scalar

import (
	"math/big"
	"math/rand"
	"slices"
	"strings"
	"testing"

	"postern/wide"
)

// modulus is L, by its rule.
func modulus() *big.Int {
	l, _ := new(big.Int).SetString("27742317777372353535851937790883648493", 10)
	return l.Add(l, new(big.Int).Lsh(big.NewInt(1), 252))
}

// great: the number whose bytes these are, the lowest first.
func great(s string) *big.Int {
	b := []byte(s)
	slices.Reverse(b)
	return new(big.Int).SetBytes(b)
}

// low: the bytes of n, the lowest first.
func low(n *big.Int, size int) string {
	b := n.FillBytes(make([]byte, size))
	slices.Reverse(b)
	return string(b)
}

func chance(r *rand.Rand, n int) string {
	b := make([]byte, n)
	r.Read(b)
	return string(b)
}

func TestOrder(t *testing.T) {
	if great(Order().Bytes()).Cmp(modulus()) != 0 {
		t.Errorf("P4: L = %x", Order())
	}
}

func TestFromHash(t *testing.T) {
	l := modulus()
	hashes := []string{strings.Repeat("\xff", 64), strings.Repeat("\x00", 64), low(l, 64), low(new(big.Int).Mul(l, l), 64)}
	for _, i := range []int64{-1, 1} {
		hashes = append(hashes, low(new(big.Int).Add(l, big.NewInt(i)), 64), low(new(big.Int).Add(new(big.Int).Mul(l, l), big.NewInt(i)), 64))
	}
	r := rand.New(rand.NewSource(1))
	for range 200 {
		hashes = append(hashes, chance(r, 64))
	}
	for _, h := range hashes {
		got := great(FromHash(h).Bytes())
		if got.Cmp(new(big.Int).Mod(great(h), l)) != 0 {
			t.Errorf("P4: %x modulo L = %x", h, got)
		}
	}
}

func TestAddMul(t *testing.T) {
	l := modulus()
	r := rand.New(rand.NewSource(1))
	last := low(new(big.Int).Sub(l, big.NewInt(1)), 32)
	full := strings.Repeat("\xff", 32)
	cases := [][3]string{{last, last, full}, {last, low(big.NewInt(1), 32), low(big.NewInt(1), 32)}, {last, full, full}, {"", full, full}, {last, "", full}}
	for range 200 {
		cases = append(cases, [3]string{low(new(big.Int).Mod(great(chance(r, 40)), l), 32), chance(r, 32), chance(r, 32)})
	}
	for _, c := range cases {
		got := great(AddMul(wide.FromBytes(c[0]), wide.FromBytes(c[1]), wide.FromBytes(c[2])).Bytes())
		want := new(big.Int).Mul(great(c[1]), great(c[2]))
		want.Mod(want.Add(want, great(c[0])), l)
		if got.Cmp(want) != 0 {
			t.Errorf("P4: AddMul(%x, %x, %x) = %x, want %x", c[0], c[1], c[2], got, want)
		}
	}
}

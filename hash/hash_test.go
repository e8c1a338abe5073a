package hash

import (
	"crypto/sha512"
	"encoding/hex"
	"math/big"
	"math/rand"
	"slices"
	"strings"
	"testing"
)

// text: n bytes, the same for the same n.
func text(n int) string {
	b := make([]byte, n)
	rand.New(rand.NewSource(int64(n))).Read(b)
	return string(b)
}

func want(s string) string {
	h := sha512.Sum512([]byte(s))
	return string(h[:])
}

// primes: the first n.
func primes(n int) []int64 {
	var out []int64
	for x := int64(2); len(out) < n; x++ {
		if !slices.ContainsFunc(out, func(p int64) bool { return x%p == 0 }) {
			out = append(out, x)
		}
	}
	return out
}

// isRoot asks whether w is the first 64 bits behind the point of p's root of that degree.
func isRoot(w uint64, p int64, degree int64) bool {
	whole := int64(0)
	power := func(x *big.Int) *big.Int { return new(big.Int).Exp(x, big.NewInt(degree), nil) }
	for power(big.NewInt(whole+1)).Cmp(big.NewInt(p)) <= 0 {
		whole++
	}
	root := new(big.Int).Lsh(big.NewInt(whole), 64)
	root.Add(root, new(big.Int).SetUint64(w))
	moved := new(big.Int).Lsh(big.NewInt(p), uint(64*degree))
	next := new(big.Int).Add(root, big.NewInt(1))
	return power(root).Cmp(moved) <= 0 && power(next).Cmp(moved) > 0
}

func TestTablesAreRootsOfPrimes(t *testing.T) {
	p := primes(rounds)
	for i, w := range start().words {
		if !isRoot(w, p[i], 2) {
			t.Errorf("P3: H%d = %x", i, w)
		}
	}
	for i, w := range roundWords {
		if !isRoot(w, p[i], 3) {
			t.Errorf("P3: K%d = %x", i, w)
		}
	}
}

func TestKnownHashes(t *testing.T) {
	for _, c := range [][2]string{
		{"", "cf83e1357eefb8bdf1542850d66d8007d620e4050b5715dc83f4a921d36ce9ce47d0d13c5d85f2b0ff8318d2877eec2f63b931bd47417a81a538327af927da3e"},
		{"abc", "ddaf35a193617abacc417349ae20413112e6fa4e89a97ea20a9eeee64b55d39a2192992a274fc1a836ba3c23a3feebbd454d4423643ce80e2a9ac94fa54ca49f"},
		{strings.Repeat("a", 1000000), "e718483d0ce769644e2e42c7bc15b4638e1f98b13b2044285632a803afa973ebde0ff244877ea60a4cb0432ce577c31beb009c5c2c49aa2e4eadb217ad8cc09b"},
	} {
		if got := hex.EncodeToString([]byte(Of(c[0]))); got != c[1] {
			t.Errorf("P3: the hash of %d bytes = %s, want %s", len(c[0]), got, c[1])
		}
	}
}

func TestLengthsAroundBlocks(t *testing.T) {
	for n := range 4*blockSize + 2 {
		if s := text(n); Of(s) != want(s) {
			t.Errorf("P3: the hash of %d bytes is wrong", n)
		}
	}
}

func TestPartsStandBehindEachOther(t *testing.T) {
	for _, n := range []int{0, 1, 111, 112, 113, 127, 128, 129, 239, 240, 241, 255, 256, 257} {
		s := text(n)
		for cut := range n + 1 {
			if Of(s[:cut], s[cut:]) != want(s) || Of("", s[:cut], "", "", s[cut:], "") != want(s) {
				t.Errorf("P3: the hash of %d and %d bytes is wrong", cut, n-cut)
			}
		}
		if Of(strings.Split(s, "")...) != want(s) {
			t.Errorf("P3: the hash of %d parts is wrong", n)
		}
	}
	if Of("ab", "c") == Of("c", "ab") {
		t.Error("P3: the order of the parts does not count")
	}
}

func TestNoPartsAndEmptyParts(t *testing.T) {
	for _, parts := range [][]string{nil, {}, {""}, {"", "", ""}} {
		if Of(parts...) != want("") {
			t.Errorf("P3: the hash of %d empty parts is wrong", len(parts))
		}
	}
}

func TestPartsAreNotChanged(t *testing.T) {
	parts := []string{"one", "", "three"}
	given := slices.Clone(parts)
	if Of(parts...) != Of(parts...) || !slices.Equal(parts, given) {
		t.Error("P2: Hash changed its parts, or answers otherwise the second time")
	}
}

func TestNumberOfBitsHasSixteenBytes(t *testing.T) {
	var s state
	s.finish(1<<63 + 1<<61 + 5)
	if got := hex.EncodeToString(s.block[blockSize-lengthSize:]); got != "00000000000000050000000000000028" {
		t.Errorf("P3: the number of bits = %s", got)
	}
}

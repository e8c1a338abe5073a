package postern

import (
	"crypto/ed25519"
	"crypto/sha512"
	"encoding/hex"
	"math/big"
	"math/rand"
	"slices"
	"strconv"
	"strings"
	"testing"

	"postern/api"
	"postern/curve"
	"postern/scalar"
	"postern/wide"
)

func chance(r *rand.Rand, n int) string {
	b := make([]byte, n)
	r.Read(b)
	return string(b)
}

func unhex(t *testing.T, s string) string {
	t.Helper()
	b, err := hex.DecodeString(strings.ReplaceAll(s, " ", ""))
	if err != nil {
		t.Fatal(err)
	}
	return string(b)
}

// low: a number's 32 bytes, the lowest first.
func low(n *big.Int) string {
	b := n.FillBytes(make([]byte, 32))
	slices.Reverse(b)
	return string(b)
}

// number: whose bytes these are, the lowest first.
func number(s string) *big.Int {
	b := []byte(s)
	slices.Reverse(b)
	return new(big.Int).SetBytes(b)
}

func high(s string) string { return s[:31] + string([]byte{s[31] | 128}) }

func turned(s string, bit int) string {
	b := []byte(s)
	b[bit/8] ^= 1 << (bit % 8)
	return string(b)
}

// modulo: P - less.
func modulo(less int64) *big.Int {
	p := new(big.Int).Lsh(big.NewInt(1), 255)
	return p.Sub(p, big.NewInt(19+less))
}

var nothing = strings.Repeat("\x00", 32)

var zeroPoint = low(big.NewInt(1))

func TestHashOfParts(t *testing.T) {
	if h := Hash(); !strings.HasPrefix(hex.EncodeToString([]byte(h)), "cf83e1357eefb8bd") || len(h) != 64 || Hash("", "") != h {
		t.Errorf("P3: Hash of nothing = %x", h)
	}
	r := rand.New(rand.NewSource(1))
	for _, n := range []int{1, 3, 111, 112, 127, 128, 129, 240, 256, 1000, 100000} {
		s := chance(r, n)
		want := sha512.Sum512([]byte(s))
		if Hash(s) != string(want[:]) || Hash(s[:n/3], "", s[n/3:]) != string(want[:]) {
			t.Errorf("P3: Hash of %d bytes is wrong", n)
		}
	}
}

func TestKnownSignatures(t *testing.T) {
	// of RFC 8032, section 7.1; the last text is a hash.
	for i, c := range [][4]string{
		{"9d61b19d effd5a60 ba844af4 92ec2cc4 4449c569 7b326919 703bac03 1cae7f60", "d75a9801 82b10ab7 d54bfed3 c964073a 0ee172f3 daa62325 af021a68 f707511a", "",
			"e5564300c360ac729086e2cc806e828a84877f1eb8e5d974d873e065224901555fb8821590a33bacc61e39701cf9b46bd25bf5f0595bbe24655141438e7a100b"},
		{"833fe62409237b9d62ec77587520911e9a759cec1d19755b7da901b96dca3d42", "ec172b93ad5e563bf4932c70e1245034c35467ef2efd4d64ebf819683467e2bf", hex.EncodeToString([]byte(Hash("abc"))),
			"dc2a4459e7369633a52b1bf277839a00201009a3efbf3ecb69bea2186c26b58909351fc9ac90b3ecfdfbc7c66431e0303dca179c138ac17ad9bef1177331a704"},
	} {
		seed, key, text, signature := unhex(t, c[0]), unhex(t, c[1]), unhex(t, c[2]), unhex(t, c[3])
		if got, e := Key(seed); got != key || e != api.OK {
			t.Errorf("P4: number %d: Key = %x, %d", i, got, e)
		}
		if got, e := Sign(seed, text); got != signature || e != api.OK {
			t.Errorf("P4: number %d: Sign = %x, %d", i, got, e)
		}
		if !Right(key, text, signature) {
			t.Errorf("P4: number %d: Right = false", i)
		}
	}
}

func TestSignaturesByChance(t *testing.T) {
	r := rand.New(rand.NewSource(7))
	for _, n := range []int{0, 1, 2, 3, 31, 47, 48, 63, 64, 79, 80, 81, 95, 96, 127, 128, 200, 1023, 5000} {
		seed, text := chance(r, 32), chance(r, n)
		private := ed25519.NewKeyFromSeed([]byte(seed))
		key, e1 := Key(seed)
		signature, e2 := Sign(seed, text)
		if key != string(private[32:]) || signature != string(ed25519.Sign(private, []byte(text))) || e1 != api.OK || e2 != api.OK {
			t.Errorf("P4: of the seed %x, %d bytes: %x, %x, %d, %d", seed, n, key, signature, e1, e2)
		}
		if !Right(key, text, signature) {
			t.Errorf("P4: Right(%x, %x, %x) = false", key, text, signature)
		}
		other, _ := Key(chance(r, 32))
		if Right(other, text, signature) || Right(key, text+"\x00", signature) || Right(key, "x"+text, signature) {
			t.Errorf("P4: right for another key or text: %x", signature)
		}
	}
}

func TestOtherLengths(t *testing.T) {
	long := strings.Repeat("s", 100)
	for _, n := range []int{0, 1, 31, 33, 64, 100} {
		if k, e := Key(long[:n]); k != "" || e != api.ErrSize {
			t.Errorf("P4: Key of %d bytes = %x, %d", n, k, e)
		}
		if s, e := Sign(long[:n], "text"); s != "" || e != api.ErrSize {
			t.Errorf("P4: Sign by %d bytes = %x, %d", n, s, e)
		}
	}
	key, _ := Key(long[:32])
	signature, _ := Sign(long[:32], "text")
	for _, k := range []string{"", key[:1], key[:31], key + "\x00", "\x00" + key, key + key} {
		if Right(k, "text", signature) {
			t.Errorf("P4: right for a key of %d bytes", len(k))
		}
	}
	for _, s := range []string{"", signature[:1], signature[:32], signature[:63], signature + "\x00", "\x00" + signature, signature + signature} {
		if Right(key, "text", s) {
			t.Errorf("P4: right with %d bytes", len(s))
		}
	}
}

func TestTurnedBits(t *testing.T) {
	const text = "turned"
	seed := strings.Repeat("t", 32)
	key, _ := Key(seed)
	signature, _ := Sign(seed, text)
	for i := range 8 * len(signature) {
		if Right(key, text, turned(signature, i)) {
			t.Errorf("P4: right with bit %d of the signature turned", i)
		}
	}
	for i := range 8 * len(key) {
		if Right(turned(key, i), text, signature) {
			t.Errorf("P4: right with bit %d of the key turned", i)
		}
	}
	for i := range 8 * len(text) {
		if Right(key, turned(text, i), signature) {
			t.Errorf("P4: right with bit %d of the text turned", i)
		}
	}
}

func TestEdgesOfS(t *testing.T) {
	order := number(scalar.Order().Bytes())
	seed := strings.Repeat("s", 32)
	key, _ := Key(seed)
	signature, _ := Sign(seed, "text")
	s := number(signature[32:])
	for i := range int64(16) {
		more := new(big.Int).Add(s, new(big.Int).Mul(order, big.NewInt(i)))
		if more.BitLen() > 256 {
			break
		}
		if Right(key, "text", signature[:32]+low(more)) != (i == 0) {
			t.Errorf("P4: s and %d times L: Right = %v", i, i != 0)
		}
	}
	// The key 0, 1 takes nothing away: R is s times the base, whatever the text.
	minus := curve.Base().Neg().Bytes()
	last := low(new(big.Int).Sub(order, big.NewInt(1)))
	for i, c := range []struct {
		signature string
		want      bool
	}{
		{zeroPoint + nothing, true}, {zeroPoint + low(order), false}, {zeroPoint + low(new(big.Int).Lsh(order, 1)), false},
		{minus + last, true}, {curve.Base().Bytes() + low(big.NewInt(1)), true}, {curve.Base().Bytes() + low(new(big.Int).Add(order, big.NewInt(1))), false},
		{zeroPoint + strings.Repeat("\xff", 32), false}, {curve.Base().Bytes() + nothing, false},
	} {
		if got := Right(zeroPoint, "any", c.signature); got != c.want {
			t.Errorf("P4: number %d: Right = %v", i, got)
		}
	}
}

func TestKeysThatAreNoPoints(t *testing.T) {
	// Were they taken for the points of small order that they are like, some of these would be right.
	above := []string{low(modulo(0)), high(low(modulo(0))), low(modulo(-1)), high(low(modulo(-1))), high(zeroPoint), high(low(modulo(1))), low(big.NewInt(2))}
	for i := range int64(19) {
		above = append(above, low(modulo(-i)))
	}
	for _, key := range above {
		for i := range 16 {
			if Right(key, strconv.Itoa(i), zeroPoint+nothing) {
				t.Errorf("P4: Right of the key %x, which is none", key)
			}
		}
	}
	for _, point := range []string{high(zeroPoint), low(modulo(-1)), high(low(modulo(-1)))} {
		if Right(zeroPoint, "any", point+nothing) {
			t.Errorf("P4: Right with an R of %x, which is no point's bytes", point)
		}
	}
}

// small: the bytes of the points that eight times are 0, 1.
func small() []string {
	for y := uint64(2); ; y++ {
		p, ok := curve.FromBytes(wide.Number{y}.Bytes())
		if !ok {
			continue
		}
		p = curve.Sum(curve.Term{Times: scalar.Order(), Point: p})
		if p.Double().Double().Bytes() == zeroPoint {
			continue
		}
		var out []string
		for i := range uint64(8) {
			out = append(out, curve.Sum(curve.Term{Times: wide.Number{i}, Point: p}).Bytes())
		}
		return out
	}
}

func TestKeysOfSmallOrder(t *testing.T) {
	right, wrong := 0, 0
	seed := strings.Repeat("k", 32)
	own, _ := Key(seed)
	ownPoint, _ := curve.FromBytes(own)
	for _, s := range small() {
		p, ok := curve.FromBytes(s)
		if !ok {
			t.Fatalf("P4: %x is no point", s)
		}
		for _, key := range []string{s, p.Add(ownPoint).Bytes()} {
			for i := range 12 {
				text := strconv.Itoa(i)
				signed, _ := Sign(seed, text)
				for _, signature := range []string{zeroPoint + nothing, s + nothing, signed} {
					want := ed25519.Verify([]byte(key), []byte(text), []byte(signature))
					if Right(key, text, signature) != want {
						t.Errorf("P4: Right(%x, %q, %x) = %v", key, text, signature, !want)
					}
					if want {
						right++
					} else {
						wrong++
					}
				}
			}
		}
	}
	if right < 20 || wrong < 20 {
		t.Errorf("the test has %d right ones and %d others", right, wrong)
	}
}

/- Plain mathematics: SHA-512 as the document tells it, on lists of bytes and words of 64 bits. It imports nothing of the program. -/
namespace Go.Proofs.YtkmpokneflgmbaaDoor
namespace Sha

def rotr (x : BitVec 64) (n : Nat) : BitVec 64 := x >>> n ||| x <<< (64 - n)
def lowS (x : BitVec 64) : BitVec 64 := rotr x 1 ^^^ rotr x 8 ^^^ x >>> 7
def highS (x : BitVec 64) : BitVec 64 := rotr x 19 ^^^ rotr x 61 ^^^ x >>> 6
def bigE (x : BitVec 64) : BitVec 64 := rotr x 14 ^^^ rotr x 18 ^^^ rotr x 41
def bigA (x : BitVec 64) : BitVec 64 := rotr x 28 ^^^ rotr x 34 ^^^ rotr x 39
def ch (e f g : BitVec 64) : BitVec 64 := (e &&& f) ^^^ (~~~ e &&& g)
def maj (a b c : BitVec 64) : BitVec 64 := (a &&& b) ^^^ (a &&& c) ^^^ (b &&& c)

/-- A byte more behind a word. -/
def more (x : BitVec 64) (c : UInt8) : BitVec 64 := 256#64 * x + BitVec.ofNat 64 c.toNat
def wordOf (l : List UInt8) : BitVec 64 := l.foldl more 0#64
def wordAt (l : List UInt8) (p : Nat) : BitVec 64 := wordOf ((l.drop p).take 8)

/-- A word's eight bytes, the highest first: byte i. -/
def byteOf (x : BitVec 64) (i : Nat) : UInt8 := UInt8.ofNat (x >>> (56 - 8 * i)).toNat
def bytesOf (x : BitVec 64) : List UInt8 := [byteOf x 0, byteOf x 1, byteOf x 2, byteOf x 3, byteOf x 4, byteOf x 5, byteOf x 6, byteOf x 7]

/-- The words W of a block whose first sixteen are b. -/
def nextW (b : Nat → BitVec 64) (l : List (BitVec 64)) (n : Nat) : BitVec 64 :=
  if n < 16 then b n else highS (l.getD (n - 2) 0#64) + l.getD (n - 7) 0#64 + lowS (l.getD (n - 15) 0#64) + l.getD (n - 16) 0#64
def wl (b : Nat → BitVec 64) : Nat → List (BitVec 64)
  | 0 => []
  | n + 1 => wl b n ++ [nextW b (wl b n) n]
def W (b : Nat → BitVec 64) (n : Nat) : BitVec 64 := nextW b (wl b n) n

structure St where
  a : BitVec 64
  b : BitVec 64
  c : BitVec 64
  d : BitVec 64
  e : BitVec 64
  f : BitVec 64
  g : BitVec 64
  h : BitVec 64

def St.list (s : St) : List (BitVec 64) := [s.a, s.b, s.c, s.d, s.e, s.f, s.g, s.h]
def St.add (s t : St) : St := ⟨s.a + t.a, s.b + t.b, s.c + t.c, s.d + t.d, s.e + t.e, s.f + t.f, s.g + t.g, s.h + t.h⟩

def tOf (s : St) (k w : BitVec 64) : BitVec 64 := s.h + bigE s.e + ch s.e s.f s.g + k + w
def uOf (s : St) : BitVec 64 := bigA s.a + maj s.a s.b s.c
def round (s : St) (k w : BitVec 64) : St := ⟨tOf s k w + uOf s, s.a, s.b, s.c, s.d + tOf s k w, s.e, s.f, s.g⟩

def start : St := ⟨0x6a09e667f3bcc908#64, 0xbb67ae8584caa73b#64, 0x3c6ef372fe94f82b#64, 0xa54ff53a5f1d36f1#64, 0x510e527fade682d1#64, 0x9b05688c2b3e6c1f#64, 0x1f83d9abfb41bd6b#64, 0x5be0cd19137e2179#64⟩
def K : List (BitVec 64) := [
  0x428a2f98d728ae22#64, 0x7137449123ef65cd#64, 0xb5c0fbcfec4d3b2f#64, 0xe9b5dba58189dbbc#64,
  0x3956c25bf348b538#64, 0x59f111f1b605d019#64, 0x923f82a4af194f9b#64, 0xab1c5ed5da6d8118#64,
  0xd807aa98a3030242#64, 0x12835b0145706fbe#64, 0x243185be4ee4b28c#64, 0x550c7dc3d5ffb4e2#64,
  0x72be5d74f27b896f#64, 0x80deb1fe3b1696b1#64, 0x9bdc06a725c71235#64, 0xc19bf174cf692694#64,
  0xe49b69c19ef14ad2#64, 0xefbe4786384f25e3#64, 0x0fc19dc68b8cd5b5#64, 0x240ca1cc77ac9c65#64,
  0x2de92c6f592b0275#64, 0x4a7484aa6ea6e483#64, 0x5cb0a9dcbd41fbd4#64, 0x76f988da831153b5#64,
  0x983e5152ee66dfab#64, 0xa831c66d2db43210#64, 0xb00327c898fb213f#64, 0xbf597fc7beef0ee4#64,
  0xc6e00bf33da88fc2#64, 0xd5a79147930aa725#64, 0x06ca6351e003826f#64, 0x142929670a0e6e70#64,
  0x27b70a8546d22ffc#64, 0x2e1b21385c26c926#64, 0x4d2c6dfc5ac42aed#64, 0x53380d139d95b3df#64,
  0x650a73548baf63de#64, 0x766a0abb3c77b2a8#64, 0x81c2c92e47edaee6#64, 0x92722c851482353b#64,
  0xa2bfe8a14cf10364#64, 0xa81a664bbc423001#64, 0xc24b8b70d0f89791#64, 0xc76c51a30654be30#64,
  0xd192e819d6ef5218#64, 0xd69906245565a910#64, 0xf40e35855771202a#64, 0x106aa07032bbd1b8#64,
  0x19a4c116b8d2d0c8#64, 0x1e376c085141ab53#64, 0x2748774cdf8eeb99#64, 0x34b0bcb5e19b48a8#64,
  0x391c0cb3c5c95a63#64, 0x4ed8aa4ae3418acb#64, 0x5b9cca4f7763e373#64, 0x682e6ff3d6b2b8a3#64,
  0x748f82ee5defb2fc#64, 0x78a5636f43172f60#64, 0x84c87814a1f0ab72#64, 0x8cc702081a6439ec#64,
  0x90befffa23631e28#64, 0xa4506cebde82bde9#64, 0xbef9a3f7b2c67915#64, 0xc67178f2e372532b#64,
  0xca273eceea26619c#64, 0xd186b8c721c0c207#64, 0xeada7dd6cde0eb1e#64, 0xf57d4f7fee6ed178#64,
  0x06f067aa72176fba#64, 0x0a637dc5a2c898a6#64, 0x113f9804bef90dae#64, 0x1b710b35131c471b#64,
  0x28db77f523047d84#64, 0x32caab7b40c72493#64, 0x3c9ebe0a15c9bebc#64, 0x431d67c49c100d4c#64,
  0x4cc5d4becb3e42b6#64, 0x597f299cfc657e2a#64, 0x5fcb6fab3ad6faec#64, 0x6c44198c4a475817#64]
def kAt (n : Nat) : BitVec 64 := K.getD n 0#64

def rounds (b : Nat → BitVec 64) (s : St) : Nat → St
  | 0 => s
  | n + 1 => round (rounds b s n) (kAt n) (W b n)
def compress (s : St) (b : Nat → BitVec 64) : St := s.add (rounds b s 80)

/-- The words of block n of a text. -/
def blockAt (l : List UInt8) (n : Nat) : Nat → BitVec 64 := fun j => wordAt l (128 * n + 8 * j)
def chain (l : List UInt8) : Nat → St
  | 0 => start
  | n + 1 => compress (chain l n) (blockAt l n)
def out (s : St) : List UInt8 := bytesOf s.a ++ bytesOf s.b ++ bytesOf s.c ++ bytesOf s.d ++ bytesOf s.e ++ bytesOf s.f ++ bytesOf s.g ++ bytesOf s.h

/-- How many noughts lie behind the byte 128 (the eight high bytes of the length among them). -/
def gap (n : Nat) : Nat := (128 - (n + 17) % 128) % 128 + 8
def padded (l : List UInt8) : List UInt8 := l ++ [128] ++ List.replicate (gap l.length) 0 ++ bytesOf (BitVec.ofNat 64 (8 * l.length))
def sha (l : List UInt8) : List UInt8 := out (chain (padded l) ((padded l).length / 128))

theorem wl_length (b : Nat → BitVec 64) (n : Nat) : (wl b n).length = n := by
  induction n with
  | zero => rfl
  | succ n ih => simp [wl, ih]
theorem wl_get (b : Nat → BitVec 64) (n j : Nat) (h : j < n) : (wl b n).getD j 0#64 = W b j := by
  induction n with
  | zero => omega
  | succ n ih =>
    by_cases e : j < n
    · rw [← ih e]
      simp only [wl, List.getD_eq_getElem?_getD]
      rw [List.getElem?_append_left (by rw [wl_length]; exact e)]
    · obtain rfl : j = n := by omega
      simp only [wl, List.getD_eq_getElem?_getD]
      rw [List.getElem?_append_right (by rw [wl_length]; omega), wl_length]
      simp [W]
theorem W_low (b : Nat → BitVec 64) (n : Nat) (h : n < 16) : W b n = b n := by simp [W, nextW, h]
theorem W_high (b : Nat → BitVec 64) (n : Nat) (h : 16 ≤ n) : W b n = highS (W b (n - 2)) + W b (n - 7) + lowS (W b (n - 15)) + W b (n - 16) := by
  have : ¬ n < 16 := by omega
  simp only [W, nextW, this, if_false]
  rw [wl_get b n _ (by omega), wl_get b n _ (by omega), wl_get b n _ (by omega), wl_get b n _ (by omega)]
  rfl
theorem K_length : K.length = 80 := rfl
theorem bytesOf_length (x : BitVec 64) : (bytesOf x).length = 8 := rfl
theorem out_length (s : St) : (out s).length = 64 := by simp [out, bytesOf_length]
theorem padded_length (l : List UInt8) : (padded l).length = l.length + 9 + gap l.length := by simp [padded, bytesOf_length]; omega
theorem padded_mod (l : List UInt8) : (padded l).length % 128 = 0 := by rw [padded_length]; unfold gap; omega
theorem sha_length (l : List UInt8) : (sha l).length = 64 := out_length _
end Sha
end Go.Proofs.YtkmpokneflgmbaaDoor

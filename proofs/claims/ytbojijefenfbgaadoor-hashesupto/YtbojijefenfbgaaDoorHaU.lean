/- Words of 64 bits as Go's uint64 values: each operation of the model on them is the operation on BitVec 64. -/
/- Plain mathematics: SHA-512 as the document tells it, on lists of bytes and words of 64 bits. It imports nothing of the program. -/
/- Laws of one operation each, for rows of one-cell elements whose whole block is told. -/
/- Walks of the program's own small functions of the hash: RotateLeft64, right, turn, spreadEarly, spreadLate, word, putWord. -/
import Derived.WalkKit
import Derived.WalkSpells
import Derived.WalkLawsBesides
import Derived.Deep.MidRow
import Derived.Test.YtbojijefenfbgaaDoorProg
import Derived.BigQuiet
import Derived.KernelRfl
namespace Go.Proofs.YtbojijefenfbgaaDoor
/-- The number of a word. (A plain definition, so that the walk does not open it.) -/
def un (x : BitVec 64) : Int := (x.toNat : Int)
namespace UV
theorem un_lo (x : BitVec 64) : 0 ≤ un x := by unfold un; omega
theorem un_hi (x : BitVec 64) : un x < 18446744073709551616 := by unfold un; have := x.isLt; omega
theorem un_ofNat (n : Nat) (h : n < 18446744073709551616) : un (BitVec.ofNat 64 n) = (n : Int) := by
  unfold un; rw [BitVec.toNat_ofNat]; rw [Nat.mod_eq_of_lt (by omega)]
theorem toNat_un (x : BitVec 64) : (un x).toNat = x.toNat := by unfold un; simp
theorem u_wrap (n : Nat) : IntKind.u64.wrap (n : Int) = un (BitVec.ofNat 64 n) := by
  unfold un; rw [IntKind.wrap_u64, BitVec.toNat_ofNat]; rfl
theorem u_wrap_un (x : BitVec 64) : IntKind.u64.wrap (un x) = un x := by
  unfold un; rw [IntKind.wrap_u64]; have := x.isLt; omega
theorem u_add (x y : BitVec 64) : IntKind.u64.wrap (un x + un y) = un (x + y) := by
  unfold un; rw [IntKind.wrap_u64, BitVec.toNat_add]; rfl
theorem u_mul (x y : BitVec 64) : IntKind.u64.wrap (un x * un y) = un (x * y) := by
  unfold un; rw [IntKind.wrap_u64, BitVec.toNat_mul]; rfl
theorem u_sub (x y : BitVec 64) : IntKind.u64.wrap (un x - un y) = un (x - y) := by
  unfold un; rw [IntKind.wrap_u64, BitVec.toNat_sub]; have := x.isLt; have := y.isLt; omega
theorem u_xor (x y : BitVec 64) : bits .xor .u64 (un x) (un y) = un (x ^^^ y) := by
  unfold un; rw [bits_xor_u64_nat _ _ x.isLt y.isLt, BitVec.toNat_xor]
theorem u_and (x y : BitVec 64) : bits .and .u64 (un x) (un y) = un (x &&& y) := by
  unfold un; rw [bits_and_u64_nat _ _ x.isLt y.isLt, BitVec.toNat_and]
theorem u_or (x y : BitVec 64) : bits .or .u64 (un x) (un y) = un (x ||| y) := by
  unfold un; rw [bits_or_u64_nat _ _ x.isLt y.isLt, BitVec.toNat_or]
theorem u_shr (x : BitVec 64) (n : Nat) : un x / 2 ^ n = un (x >>> n) := by
  unfold un; rw [BitVec.toNat_ushiftRight, Nat.shiftRight_eq_div_pow, Int.natCast_ediv]; simp
theorem u_shl (x : BitVec 64) (n : Nat) : IntKind.u64.wrap (un x * 2 ^ n) = un (x <<< n) := by
  unfold un; rw [IntKind.wrap_u64, BitVec.toNat_shiftLeft, Nat.shiftLeft_eq]
  have : ((x.toNat : Int) * 2 ^ n) = ((x.toNat * 2 ^ n : Nat) : Int) := by simp
  rw [this]; rfl
theorem u_not (x : BitVec 64) : bits .xor .u64 18446744073709551615 (un x) = un (~~~ x) := by
  unfold un
  have := bits_xor_u64_nat 18446744073709551615 x.toNat (by omega) x.isLt
  rw [show ((18446744073709551615 : Nat) : Int) = 18446744073709551615 from rfl] at this
  rw [this]
  have h : ~~~ x = BitVec.ofNat 64 18446744073709551615 ^^^ x := by
    rw [show BitVec.ofNat 64 18446744073709551615 = BitVec.allOnes 64 from rfl, BitVec.allOnes_xor]
  rw [h, BitVec.toNat_xor]; rfl
theorem u_notm (x : BitVec 64) : bits .xor .u64 IntKind.u64.max (un x) = un (~~~ x) := by rw [show IntKind.u64.max = 18446744073709551615 from rfl, u_not]
theorem u_mul_lit (n : Nat) (x : BitVec 64) : IntKind.u64.wrap ((OfNat.ofNat n : Int) * un x) = un (BitVec.ofNat 64 n * x) := by
  unfold un; rw [IntKind.wrap_u64, BitVec.toNat_mul, BitVec.toNat_ofNat]
  show ((n : Int) * (x.toNat : Int)) % 18446744073709551616 = _
  rw [Nat.mod_mul_mod]
  have : ((n : Int) * (x.toNat : Int)) = ((n * x.toNat : Nat) : Int) := by simp
  rw [this]; rfl
theorem un_inj {x y : BitVec 64} (h : un x = un y) : x = y := by
  unfold un at h; exact BitVec.eq_of_toNat_eq (by omega)
end UV
end Go.Proofs.YtbojijefenfbgaaDoor
namespace Go.Proofs.YtbojijefenfbgaaDoor
namespace Sha

def rotr (x : BitVec 64) (n : Nat) : BitVec 64 := x >>> n ||| x <<< (64 - n)
def lowS (x : BitVec 64) : BitVec 64 := rotr x 1 ^^^ rotr x 8 ^^^ x >>> 7
def highS (x : BitVec 64) : BitVec 64 := rotr x 19 ^^^ rotr x 61 ^^^ x >>> 6
def bigE (x : BitVec 64) : BitVec 64 := rotr x 14 ^^^ rotr x 18 ^^^ rotr x 41
def bigA (x : BitVec 64) : BitVec 64 := rotr x 28 ^^^ rotr x 34 ^^^ rotr x 39
def ch (e f g : BitVec 64) : BitVec 64 := (e &&& f) ^^^ (~~~ e &&& g)
def maj (a b c : BitVec 64) : BitVec 64 := (a &&& b) ^^^ (a &&& c) ^^^ (b &&& c)

/-- A byte more behind a word. -/
def more (x : BitVec 64) (c : UInt8) : BitVec 64 := 256#64 * x + BitVec.ofNat 64 c.toNat
def wordOf (l : List UInt8) : BitVec 64 := l.foldl more 0#64
def wordAt (l : List UInt8) (p : Nat) : BitVec 64 := wordOf ((l.drop p).take 8)

/-- A word's eight bytes, the highest first: byte i. -/
def byteOf (x : BitVec 64) (i : Nat) : UInt8 := UInt8.ofNat (x >>> (56 - 8 * i)).toNat
def bytesOf (x : BitVec 64) : List UInt8 := [byteOf x 0, byteOf x 1, byteOf x 2, byteOf x 3, byteOf x 4, byteOf x 5, byteOf x 6, byteOf x 7]

/-- The words W of a block whose first sixteen are b. -/
def nextW (b : Nat → BitVec 64) (l : List (BitVec 64)) (n : Nat) : BitVec 64 :=
  if n < 16 then b n else highS (l.getD (n - 2) 0#64) + l.getD (n - 7) 0#64 + lowS (l.getD (n - 15) 0#64) + l.getD (n - 16) 0#64
def wl (b : Nat → BitVec 64) : Nat → List (BitVec 64)
  | 0 => []
  | n + 1 => wl b n ++ [nextW b (wl b n) n]
def W (b : Nat → BitVec 64) (n : Nat) : BitVec 64 := nextW b (wl b n) n

structure St where
  a : BitVec 64
  b : BitVec 64
  c : BitVec 64
  d : BitVec 64
  e : BitVec 64
  f : BitVec 64
  g : BitVec 64
  h : BitVec 64

def St.list (s : St) : List (BitVec 64) := [s.a, s.b, s.c, s.d, s.e, s.f, s.g, s.h]
def St.add (s t : St) : St := ⟨s.a + t.a, s.b + t.b, s.c + t.c, s.d + t.d, s.e + t.e, s.f + t.f, s.g + t.g, s.h + t.h⟩

def tOf (s : St) (k w : BitVec 64) : BitVec 64 := s.h + bigE s.e + ch s.e s.f s.g + k + w
def uOf (s : St) : BitVec 64 := bigA s.a + maj s.a s.b s.c
def round (s : St) (k w : BitVec 64) : St := ⟨tOf s k w + uOf s, s.a, s.b, s.c, s.d + tOf s k w, s.e, s.f, s.g⟩

def start : St := ⟨0x6a09e667f3bcc908#64, 0xbb67ae8584caa73b#64, 0x3c6ef372fe94f82b#64, 0xa54ff53a5f1d36f1#64, 0x510e527fade682d1#64, 0x9b05688c2b3e6c1f#64, 0x1f83d9abfb41bd6b#64, 0x5be0cd19137e2179#64⟩
def K : List (BitVec 64) := [
  0x428a2f98d728ae22#64, 0x7137449123ef65cd#64, 0xb5c0fbcfec4d3b2f#64, 0xe9b5dba58189dbbc#64,
  0x3956c25bf348b538#64, 0x59f111f1b605d019#64, 0x923f82a4af194f9b#64, 0xab1c5ed5da6d8118#64,
  0xd807aa98a3030242#64, 0x12835b0145706fbe#64, 0x243185be4ee4b28c#64, 0x550c7dc3d5ffb4e2#64,
  0x72be5d74f27b896f#64, 0x80deb1fe3b1696b1#64, 0x9bdc06a725c71235#64, 0xc19bf174cf692694#64,
  0xe49b69c19ef14ad2#64, 0xefbe4786384f25e3#64, 0x0fc19dc68b8cd5b5#64, 0x240ca1cc77ac9c65#64,
  0x2de92c6f592b0275#64, 0x4a7484aa6ea6e483#64, 0x5cb0a9dcbd41fbd4#64, 0x76f988da831153b5#64,
  0x983e5152ee66dfab#64, 0xa831c66d2db43210#64, 0xb00327c898fb213f#64, 0xbf597fc7beef0ee4#64,
  0xc6e00bf33da88fc2#64, 0xd5a79147930aa725#64, 0x06ca6351e003826f#64, 0x142929670a0e6e70#64,
  0x27b70a8546d22ffc#64, 0x2e1b21385c26c926#64, 0x4d2c6dfc5ac42aed#64, 0x53380d139d95b3df#64,
  0x650a73548baf63de#64, 0x766a0abb3c77b2a8#64, 0x81c2c92e47edaee6#64, 0x92722c851482353b#64,
  0xa2bfe8a14cf10364#64, 0xa81a664bbc423001#64, 0xc24b8b70d0f89791#64, 0xc76c51a30654be30#64,
  0xd192e819d6ef5218#64, 0xd69906245565a910#64, 0xf40e35855771202a#64, 0x106aa07032bbd1b8#64,
  0x19a4c116b8d2d0c8#64, 0x1e376c085141ab53#64, 0x2748774cdf8eeb99#64, 0x34b0bcb5e19b48a8#64,
  0x391c0cb3c5c95a63#64, 0x4ed8aa4ae3418acb#64, 0x5b9cca4f7763e373#64, 0x682e6ff3d6b2b8a3#64,
  0x748f82ee5defb2fc#64, 0x78a5636f43172f60#64, 0x84c87814a1f0ab72#64, 0x8cc702081a6439ec#64,
  0x90befffa23631e28#64, 0xa4506cebde82bde9#64, 0xbef9a3f7b2c67915#64, 0xc67178f2e372532b#64,
  0xca273eceea26619c#64, 0xd186b8c721c0c207#64, 0xeada7dd6cde0eb1e#64, 0xf57d4f7fee6ed178#64,
  0x06f067aa72176fba#64, 0x0a637dc5a2c898a6#64, 0x113f9804bef90dae#64, 0x1b710b35131c471b#64,
  0x28db77f523047d84#64, 0x32caab7b40c72493#64, 0x3c9ebe0a15c9bebc#64, 0x431d67c49c100d4c#64,
  0x4cc5d4becb3e42b6#64, 0x597f299cfc657e2a#64, 0x5fcb6fab3ad6faec#64, 0x6c44198c4a475817#64]
def kAt (n : Nat) : BitVec 64 := K.getD n 0#64

def rounds (b : Nat → BitVec 64) (s : St) : Nat → St
  | 0 => s
  | n + 1 => round (rounds b s n) (kAt n) (W b n)
def compress (s : St) (b : Nat → BitVec 64) : St := s.add (rounds b s 80)

/-- The words of block n of a text. -/
def blockAt (l : List UInt8) (n : Nat) : Nat → BitVec 64 := fun j => wordAt l (128 * n + 8 * j)
def chain (l : List UInt8) : Nat → St
  | 0 => start
  | n + 1 => compress (chain l n) (blockAt l n)
def out (s : St) : List UInt8 := bytesOf s.a ++ bytesOf s.b ++ bytesOf s.c ++ bytesOf s.d ++ bytesOf s.e ++ bytesOf s.f ++ bytesOf s.g ++ bytesOf s.h

/-- How many noughts lie behind the byte 128 (the eight high bytes of the length among them). -/
def gap (n : Nat) : Nat := (128 - (n + 17) % 128) % 128 + 8
def padded (l : List UInt8) : List UInt8 := l ++ [128] ++ List.replicate (gap l.length) 0 ++ bytesOf (BitVec.ofNat 64 (8 * l.length))
def sha (l : List UInt8) : List UInt8 := out (chain (padded l) ((padded l).length / 128))

theorem wl_length (b : Nat → BitVec 64) (n : Nat) : (wl b n).length = n := by
  induction n with
  | zero => rfl
  | succ n ih => simp [wl, ih]
theorem wl_get (b : Nat → BitVec 64) (n j : Nat) (h : j < n) : (wl b n).getD j 0#64 = W b j := by
  induction n with
  | zero => omega
  | succ n ih =>
    by_cases e : j < n
    · rw [← ih e]
      simp only [wl, List.getD_eq_getElem?_getD]
      rw [List.getElem?_append_left (by rw [wl_length]; exact e)]
    · obtain rfl : j = n := by omega
      simp only [wl, List.getD_eq_getElem?_getD]
      rw [List.getElem?_append_right (by rw [wl_length]; omega), wl_length]
      simp [W]
theorem W_low (b : Nat → BitVec 64) (n : Nat) (h : n < 16) : W b n = b n := by simp [W, nextW, h]
theorem W_high (b : Nat → BitVec 64) (n : Nat) (h : 16 ≤ n) : W b n = highS (W b (n - 2)) + W b (n - 7) + lowS (W b (n - 15)) + W b (n - 16) := by
  have : ¬ n < 16 := by omega
  simp only [W, nextW, this, if_false]
  rw [wl_get b n _ (by omega), wl_get b n _ (by omega), wl_get b n _ (by omega), wl_get b n _ (by omega)]
  rfl
theorem K_length : K.length = 80 := rfl
theorem bytesOf_length (x : BitVec 64) : (bytesOf x).length = 8 := rfl
theorem out_length (s : St) : (out s).length = 64 := by simp [out, bytesOf_length]
theorem padded_length (l : List UInt8) : (padded l).length = l.length + 9 + gap l.length := by simp [padded, bytesOf_length]; omega
theorem padded_mod (l : List UInt8) : (padded l).length % 128 = 0 := by rw [padded_length]; unfold gap; omega
theorem sha_length (l : List UInt8) : (sha l).length = 64 := out_length _
end Sha
end Go.Proofs.YtbojijefenfbgaaDoor
namespace Go.Proofs.YtbojijefenfbgaaDoor
open Go.RowKit
namespace Own

/-- A block's cells by a function. (A plain definition, so that the walk does not open it.) -/
def mkRow (n : Nat) (f : Nat → Value) : Array Value := Array.ofFn (n := n) (fun j => f j.val)
theorem mkRow_size (n : Nat) (f : Nat → Value) : (mkRow n f).size = n := by simp [mkRow]
theorem mkRow_get {n : Nat} {f : Nat → Value} {j : Nat} (h : j < n) : (mkRow n f)[j]? = some (f j) := by simp [mkRow, h]
theorem mkRow_get_out {n : Nat} {f : Nat → Value} {j : Nat} (h : n ≤ j) : (mkRow n f)[j]? = none := by simp [mkRow, h]
theorem mkRow_congr {n : Nat} {f g : Nat → Value} (h : ∀ j, j < n → f j = g j) : mkRow n f = mkRow n g := by
  apply Array.ext_getElem?
  intro i
  by_cases hi : i < n
  · rw [mkRow_get hi, mkRow_get hi, h i hi]
  · rw [mkRow_get_out (by omega), mkRow_get_out (by omega)]
theorem mkRow_set {n : Nat} {f : Nat → Value} {j : Nat} (v : Value) : (mkRow n f).setIfInBounds j v = mkRow n (fun i => if i = j then v else f i) := by
  apply Array.ext_getElem?
  intro i
  rw [Array.getElem?_setIfInBounds]
  by_cases hi : i < n
  · by_cases e : j = i
    · subst e; rw [mkRow_get (f := fun i => if i = j then v else f i) hi, if_pos rfl, if_pos (by rw [mkRow_size]; exact hi), if_pos rfl]
    · rw [mkRow_get (f := fun i => if i = j then v else f i) hi, if_neg e, mkRow_get hi, if_neg (Ne.symm e)]
  · rw [mkRow_get_out (f := fun i => if i = j then v else f i) (by omega)]
    by_cases e : j = i
    · subst e; rw [if_pos rfl, if_neg (by rw [mkRow_size]; exact hi)]
    · rw [if_neg e, mkRow_get_out (by omega)]
/-- n noughts. -/
def zeros (n : Nat) (z : Value) : Array Value := mkRow n (fun _ => z)
theorem made_zeros (n : Nat) (z : Value) (hz : z.cells = #[z]) : madeCells z.cells (n * 1) = zeros n z := by
  rw [hz]
  apply Array.ext_getElem?
  intro i
  simp only [madeCells, zeros, Nat.mul_one]
  by_cases h : i < n
  · rw [mkRow_get h]; simp [h, Nat.mod_one]
  · rw [mkRow_get_out (by omega)]; simp [h]
/-- A list's cells are a row. -/
theorem mkRow_list (l : List Value) (n : Nat) (h : l.length = n) (f : Nat → Value) (hf : ∀ j (hj : j < l.length), f j = l[j]) : l.toArray = mkRow n f := by
  apply Array.ext_getElem?
  intro i
  by_cases hi : i < n
  · rw [mkRow_get hi, hf i (by omega)]; simp [h, hi]
  · rw [mkRow_get_out (by omega)]; simp; omega
/-- What is known of a block, of the world behind a store into it. -/
theorem row_store {w : World} {g n : Nat} {f : Nat → Value} {t : TypeId} (hg : w.heap[g]? = some (.cells (mkRow n f) t (0, 0))) (i : Nat) (v : Value) :
    (w.setCell ⟨g, i, none⟩ v).heap[g]? = some (.cells (mkRow n (fun j => if j = i then v else f j)) t (0, 0)) := by
  rw [heap_setCell_same w g i _ t v hg, mkRow_set]
theorem row_cell {w : World} {g n : Nat} {f : Nat → Value} {t : TypeId} (hg : w.heap[g]? = some (.cells (mkRow n f) t (0, 0))) (j : Nat) (h : j < n) : w.cell? ⟨g, j, none⟩ = some (f j) := by
  rw [cell_of_row w g j _ t _ hg, mkRow_get h]
theorem row_frozen {w : World} {g n : Nat} {f : Nat → Value} {t : TypeId} (hg : w.heap[g]? = some (.cells (mkRow n f) t (0, 0))) (j : Nat) : w.frozen? ⟨g, j, none⟩ = false := frozen_of_row w g j _ t hg

/-- 'make([]T, n)': the new block, told whole. -/
theorem wpList_make_at {P : Program} (w : World) {ops : Array Oper} {rest : List Oper} {o : Oper} {a : Act} {Q : Exit → Act → World → Prop}
    (hg : o.guard = none) (l c : Operand) (t : TypeId) (hop : o.op = Op.makeSlice t l c)
    (e : TypeId) (z : Value) (by1 : Nat) (h1 : P.underlying t = some (.slice e)) (h2 : (P.info? e).map (fun i => (i.zero, i.size, i.bytes)) = some (some z, 1, by1)) (hz : z.cells = #[z])
    (kl kc : IntKind) (L C : Int) (n : Nat) (hl : a.eval l = .int kl L) (hc : a.eval c = .int kc C) (hL : L = (n : Int)) (hC : C = (n : Int)) (b2 : by1 * n ≤ 281474976710656) (b3 : n ≤ 281474976710656)
    (hK : wpList P ops Q rest (a.put o.dst (.slice (some ⟨w.heap.size, 0, none⟩) n n)) (w.alloc (.cells (zeros n z) e))) :
    wpList P ops Q (o :: rest) a w := by
  refine wpList_plain hg fun K hK' => ?_
  obtain ⟨i, hi, hz0, hz1, hz2⟩ := info_parts h2
  subst hL hC
  have hrun := run_make (P := P) w t e i z h1 hi hz0 kl kc (n : Int) (n : Int) (by omega) (by omega) (by rw [hz2]; omega) (by omega)
  rw [hz1] at hrun
  simp only [Int.toNat_natCast] at hrun
  rw [made_zeros n z hz] at hrun
  unfold Oper.wp
  simp [execOp, hop, hl, hc, hrun, Result.andThen]
  exact hK' _ _ hK

theorem push_fold (l : List UInt8) (r : ByteArray) : (l.map (fun c => ((c.toNat : Nat) : Int))).foldl (fun r n => r.push (UInt8.ofNat n.toNat)) r = ⟨r.data ++ l.toArray⟩ := by
  induction l generalizing r with
  | nil => simp
  | cons c l ih =>
    simp only [List.map_cons, List.foldl_cons]
    rw [ih]
    simp [ByteArray.push]

/-- 'string(b)': the bytes of a slice. -/
theorem wpList_string_at {P : Program} (w : World) {ops : Array Oper} {rest : List Oper} {o : Oper} {a : Act} {Q : Exit → Act → World → Prop}
    (hg : o.guard = none) (x : Operand) (src dst e : TypeId) (hop : o.op = Op.convert src dst x)
    (hs : P.underlying src = some (.slice e)) (he : P.underlying e = some (.int .u8)) (hd : P.underlying dst = some .string)
    (b off cap : Nat) (l : List UInt8) (hx : a.eval x = .slice (some ⟨b, off, none⟩) l.length cap) (hc : ∀ j (h : j < l.length), w.cell? ⟨b, off + j, none⟩ = some (.int .u8 (l[j].toNat : Int)))
    (hK : wpList P ops Q rest (a.put o.dst (.string ⟨l.toArray⟩)) w) :
    wpList P ops Q (o :: rest) a w := by
  refine wpList_plain hg fun K hK' => ?_
  have hl := run_loadCells_list (P := P) (w := w) ⟨b, off, none⟩ ((l.map (fun c => ((c.toNat : Nat) : Int))).map (Value.int .u8)) (fun j v hv => by
    simp only [List.map_map, List.getElem?_map, Option.map_eq_some_iff] at hv
    obtain ⟨c, hc1, rfl⟩ := hv
    obtain ⟨h, rfl⟩ := List.getElem?_eq_some_iff.1 hc1
    have := hc j h
    rw [Addr.add_mid]; simpa using this)
  simp only [List.length_map] at hl
  have hr := run_bytesToString (P := P) w ⟨b, off, none⟩ l.length cap _ hl
  rw [push_fold] at hr
  have h2 := run_convert_bytes_string (P := P) w src dst e (some ⟨b, off, none⟩) l.length cap hs he hd
  rw [hr] at h2
  unfold Oper.wp
  simp [execOp, hop, hx, h2, Result.andThen]
  refine hK' _ _ ?_
  simpa using hK
/-- 'var x T' of an array or struct: its noughts in a new block. -/
theorem wpList_alloc_at {P : Program} (w : World) {ops : Array Oper} {rest : List Oper} {o : Oper} {a : Act} {Q : Exit → Act → World → Prop}
    (hg : o.guard = none) (t : TypeId) (hop : o.op = Op.alloc t) (zs : Array Value) (h2 : (P.info? t).map (fun i => i.zero) = some (some (.agg zs)))
    (hK : wpList P ops Q rest (a.put o.dst (.pointer (some ⟨w.heap.size, 0, none⟩))) (w.alloc (.cells zs t))) :
    wpList P ops Q (o :: rest) a w := by
  refine wpList_plain hg fun K hK' => ?_
  obtain ⟨i, hi, hz⟩ := Option.map_eq_some_iff.1 h2
  unfold Oper.wp
  simp [execOp, hop, Instr.alloc, zeroValue, typeInfo, hi, hz, newVar, newRow, Value.cells, Result.andThen]
  exact hK' _ _ hK

/-- An array or struct written out. -/
theorem wpList_build_at {P : Program} {ops : Array Oper} {rest : List Oper} {o : Oper} {a : Act} {w : World} {Q : Exit → Act → World → Prop} (hg : o.guard = none) (t : TypeId) (parts : Array (Nat × Operand)) (ho : o.op = .build t parts)
    (cs : Array Value) (hf : P.built t (parts.map fun (i, x) => (i, a.eval x)).toList = some cs)
    (h : wpList P ops Q rest (a.put o.dst (.agg cs)) w) : wpList P ops Q (o :: rest) a w :=
  wpList_build hg t parts ho (by rw [hf]; rfl) (by rw [hf]; exact h)

theorem setRow_alloc (w : World) (zs cs : Array Value) (t : TypeId) : (w.alloc (.cells zs t)).setRow w.heap.size cs = w.alloc (.cells cs t) := by
  have h : ((w.alloc (.cells zs t)).setRow w.heap.size cs).heap = (w.alloc (.cells cs t)).heap := by
    apply Array.ext_getElem?
    intro i
    by_cases hi : i = w.heap.size
    · subst hi; rw [setRow_heap _ _ zs cs t (0, 0) (heap_alloc_new _ _), heap_alloc_new]
    · show (Array.modify _ _ _)[i]? = _
      rw [Array.getElem?_modify, if_neg (Ne.symm hi)]
      show (w.heap.push _)[i]? = (w.heap.push _)[i]?
      rw [Array.getElem?_push, Array.getElem?_push, if_neg hi, if_neg hi]
  show ({ (w.alloc (.cells zs t)).setRow w.heap.size cs with heap := ((w.alloc (.cells zs t)).setRow w.heap.size cs).heap } : World) = _
  rw [h]; rfl

/-- 'var x T = v' of an array or struct: the store behind the alloc. -/
theorem wpList_store_new {P : Program} {ops : Array Oper} {rest : List Oper} {o : Oper} {a : Act} {w : World} {Q : Exit → Act → World → Prop} (hgd : o.guard = none) (ty : TypeId) (x y : Operand) (ho : o.op = .store ty x y)
    (zs cells : Array Value) (t : TypeId) (hx : a.eval x = .pointer (some ⟨w.heap.size, 0, none⟩)) (hy : a.eval y = .agg cells)
    (hi : (P.info? ty).map (·.size) = some cells.size) (hold : zs.size = cells.size) (h1 : cells.all (·.oneCell') = true)
    (h : wpList P ops Q rest (a.put o.dst undef) (w.alloc (.cells cells t))) : wpList P ops Q (o :: rest) a (w.alloc (.cells zs t)) :=
  wpList_store_row hgd ty x y ho w.heap.size cells hx hy t zs (heap_alloc_new _ _) hi hold h1 (by rw [setRow_alloc]; exact h)

/-- A call that hands back an array or struct: its result's block is told. -/
theorem ret_row {P : Program} {fn : Func} {p : Tmp} {ty : TypeId} (h : fn.results = #[.cell p ty]) {post : Ending → World → Prop} {a : Act} {w : World} (hd : a.defers = []) (g : Nat) (t : TypeId) (cs : Array Value) (fr : Nat × Nat) (d : TypeDesc)
    (hp : a.tmps.getD p undef = .pointer (some ⟨g, 0, none⟩)) (hg : w.heap[g]? = some (.cells cs t fr))
    (hu : P.underlying ty = some d) (hr : (match d with | .struct _ | .array _ _ => true | _ => false) = true) (hi : (P.info? ty).map (·.size) = some cs.size)
    (hpost : post (.returned (.agg cs)) w) : bodyPost P fn post .ret a w :=
  bodyPost_ret (v := .agg cs) (results_cell_row h a.tmps w g t cs fr d hp hg hu hr hi) hd hpost

theorem all_one {n : Nat} {f : Nat → Value} (h : ∀ j, j < n → (f j).oneCell' = true) : (mkRow n f).all (·.oneCell') = true := by
  rw [Array.all_eq_true_iff_forall_mem]
  intro v hv
  obtain ⟨j, hj, rfl⟩ := Array.mem_iff_getElem.1 hv
  rw [mkRow_size] at hj
  have := mkRow_get (f := f) hj
  rw [Array.getElem?_eq_some_iff] at this
  obtain ⟨_, e⟩ := this
  rw [e]; exact h j hj
theorem run_make_at {P : Program} (W : World) (t e : TypeId) (z : Value) (by1 : Nat) (h1 : P.underlying t = some (.slice e)) (h2 : (P.info? e).map (fun i => (i.zero, i.size, i.bytes)) = some (some z, 1, by1)) (hz : z.cells = #[z])
    (kl kc : IntKind) (L C : Int) (n : Nat) (hL : L = (n : Int)) (hC : C = (n : Int)) (b2 : by1 * n ≤ 281474976710656) (b3 : n ≤ 281474976710656) :
    Sem.run P (Instr.makeSlice t (.int kl L) (.int kc C)) W = .ok (.slice (some ⟨W.heap.size, 0, none⟩) n n) (W.alloc (.cells (zeros n z) e)) := by
  obtain ⟨i, hi, hz0, hz1, hz2⟩ := info_parts h2
  subst hL hC
  have hrun := run_make (P := P) W t e i z h1 hi hz0 kl kc (n : Int) (n : Int) (by omega) (by omega) (by rw [hz2]; omega) (by omega)
  rw [hz1] at hrun
  simp only [Int.toNat_natCast] at hrun
  rw [made_zeros n z hz] at hrun
  exact hrun
theorem run_string_at {P : Program} (W : World) (src dst e : TypeId) (hs : P.underlying src = some (.slice e)) (he : P.underlying e = some (.int .u8)) (hd : P.underlying dst = some .string)
    (b off n cap : Nat) (l : List UInt8) (hn : n = l.length) (hc : ∀ j (h : j < l.length), W.cell? ⟨b, off + j, none⟩ = some (.int .u8 (l[j].toNat : Int))) :
    Sem.run P (convert src dst (.slice (some ⟨b, off, none⟩) n cap)) W = .ok (.string ⟨l.toArray⟩) W := by
  subst hn
  have hl := run_loadCells_list (P := P) (w := W) ⟨b, off, none⟩ ((l.map (fun c => ((c.toNat : Nat) : Int))).map (Value.int .u8)) (fun j v hv => by
    simp only [List.map_map, List.getElem?_map, Option.map_eq_some_iff] at hv
    obtain ⟨c, hc1, rfl⟩ := hv
    obtain ⟨h, rfl⟩ := List.getElem?_eq_some_iff.1 hc1
    have := hc j h
    rw [Addr.add_mid]; simpa using this)
  simp only [List.length_map] at hl
  have hr := run_bytesToString (P := P) W ⟨b, off, none⟩ l.length cap _ hl
  rw [push_fold] at hr
  have h2 := run_convert_bytes_string (P := P) W src dst e (some ⟨b, off, none⟩) l.length cap hs he hd
  rw [hr] at h2
  simpa using h2
end Own
end Go.Proofs.YtbojijefenfbgaaDoor
namespace Go.Proofs.YtbojijefenfbgaaDoor
open Go.RowKit
namespace Hs
attribute [local go_sem] UV.u_add UV.u_mul UV.u_sub UV.u_xor UV.u_and UV.u_or UV.u_shr UV.u_shl UV.u_not UV.u_notm UV.u_wrap_un

theorem and63 (n : Int) (h1 : 1 ≤ n) (h2 : n ≤ 63) : bits .and .u64 (IntKind.u64.wrap (-n)) 63 = 64 - n := by
  rw [IntKind.wrap_u64]
  have e : (-n) % 18446744073709551616 = ((18446744073709551616 - n.toNat : Nat) : Int) := by omega
  rw [e]
  have := bits_and_u64_nat (18446744073709551616 - n.toNat) 63 (by omega) (by omega)
  rw [show ((63 : Nat) : Int) = 63 from rfl] at this
  rw [this, show (63 : Nat) = 2 ^ 6 - 1 from rfl, Nat.and_two_pow_sub_one_eq_mod]
  omega

theorem ret_u64 {a b : BitVec 64} (h : a = b) : Ending.returned (.int .u64 (un a)) = .returned (.int .u64 (un b)) := by rw [h]

set_option maxHeartbeats 400000 in
theorem rot_any (x : BitVec 64) (n : Int) (h1 : 1 ≤ n) (h2 : n ≤ 63) (w : World) :
    Calls Tryd.prog 114 #[.int .u64 (un x), .int .i64 (-n)] w fun e w' => e = .returned (.int .u64 (un (Sha.rotr x n.toNat))) ∧ w' = w := by
  have hb := and63 n h1 h2
  go_enter Tryd.func114, Tryd.ntmps114
  go_wp2
  go_ret
  exact ⟨ret_u64 (by unfold Sha.rotr; rw [show (64 - (64 - n)).toNat = n.toNat by omega, show (64 - n).toNat = 64 - n.toNat by omega, BitVec.or_comm]), rfl⟩

set_option maxHeartbeats 400000 in
theorem right_any (x : BitVec 64) (n : Int) (h1 : 1 ≤ n) (h2 : n ≤ 63) (w : World) :
    Calls Tryd.prog 110 #[.int .u64 (un x), .int .i64 n] w fun e w' => e = .returned (.int .u64 (un (Sha.rotr x n.toNat))) ∧ w' = w := by
  go_enter Tryd.func110, Tryd.ntmps110
  go_wp2_with (go_at_call 114; refine (rot_any _ _ h1 h2 _).mono ?_; rintro e w' ⟨rfl, rfl⟩)
  go_ret
  exact ⟨rfl, rfl⟩

set_option maxHeartbeats 400000 in
theorem turn_any (x : BitVec 64) (k m n : Int) (k1 : 1 ≤ k) (k2 : k ≤ 63) (m1 : 1 ≤ m) (m2 : m ≤ 63) (n1 : 1 ≤ n) (n2 : n ≤ 63) (w : World) :
    Calls Tryd.prog 88 #[.int .u64 (un x), .int .i64 k, .int .i64 m, .int .i64 n] w fun e w' => e = .returned (.int .u64 (un (Sha.rotr x k.toNat ^^^ Sha.rotr x m.toNat ^^^ Sha.rotr x n.toNat))) ∧ w' = w := by
  go_enter Tryd.func88, Tryd.ntmps88
  go_wp2_with (go_at_call 110; refine (right_any _ _ (by assumption) (by assumption) _).mono ?_; rintro e w' ⟨rfl, rfl⟩)
  go_ret
  exact ⟨rfl, rfl⟩

theorem shr7 (x : BitVec 64) : un x / (128 : Int) = un (x >>> 7) := UV.u_shr x 7
theorem shr6 (x : BitVec 64) : un x / (64 : Int) = un (x >>> 6) := UV.u_shr x 6

set_option maxHeartbeats 400000 in
theorem spreadEarly_any (x : BitVec 64) (w : World) :
    Calls Tryd.prog 109 #[.int .u64 (un x)] w fun e w' => e = .returned (.int .u64 (un (Sha.lowS x))) ∧ w' = w := by
  have hx := shr7 x
  go_enter Tryd.func109, Tryd.ntmps109
  go_wp2_with (go_at_call 110; refine (right_any _ _ (by decide) (by decide) _).mono ?_; rintro e w' ⟨rfl, rfl⟩)
  go_ret
  exact ⟨rfl, rfl⟩

set_option maxHeartbeats 400000 in
theorem spreadLate_any (x : BitVec 64) (w : World) :
    Calls Tryd.prog 108 #[.int .u64 (un x)] w fun e w' => e = .returned (.int .u64 (un (Sha.highS x))) ∧ w' = w := by
  have hx := shr6 x
  go_enter Tryd.func108, Tryd.ntmps108
  go_wp2_with (go_at_call 110; refine (right_any _ _ (by decide) (by decide) _).mono ?_; rintro e w' ⟨rfl, rfl⟩)
  go_ret
  exact ⟨rfl, rfl⟩

theorem shl_or (x : BitVec 64) (c : UInt8) : x <<< 8 ||| BitVec.ofNat 64 c.toNat = Sha.more x c := by
  apply BitVec.eq_of_toNat_eq
  have hc : c.toNat < 256 := c.toNat_lt
  have hx := x.isLt
  simp only [Sha.more, BitVec.toNat_or, BitVec.toNat_shiftLeft, BitVec.toNat_add, BitVec.toNat_mul, BitVec.toNat_ofNat]
  rw [Nat.shiftLeft_eq]
  have e1 : x.toNat * 2 ^ 8 % 2 ^ 64 = (x.toNat % 2 ^ 56) <<< 8 := by rw [Nat.shiftLeft_eq]; omega
  rw [e1, Nat.mod_eq_of_lt (show c.toNat < 2 ^ 64 by omega), ← Nat.shiftLeft_add_eq_or_of_lt (show c.toNat < 2 ^ 8 by omega), Nat.shiftLeft_eq]
  omega

/-- A slice of eight bytes and more, as a word. -/
theorem word_step (x : BitVec 64) (c : UInt8) : bits .or .u64 (IntKind.u64.wrap (un x * 256)) (IntKind.u64.wrap (c.toNat : Int)) = un (Sha.more x c) := by
  rw [show IntKind.u64.wrap (un x * 256) = un (x <<< 8) from UV.u_shl x 8, UV.u_wrap, UV.u_or, shl_or]
set_option maxHeartbeats 400000 in
theorem word_any (w : World) (b o len cap : Nat) (l : List UInt8) (hl : l.length = 8) (_hlen : len ≤ 1000) (hcap : cap ≤ 1000) (h8 : 8 ≤ cap) (hc : ∀ j (h : j < l.length), w.cell? ⟨b, o + j, none⟩ = some (.int .u8 (l[j].toNat : Int))) :
    Calls Tryd.prog 107 #[.slice (some ⟨b, o, none⟩) len cap] w fun e w' => e = .returned (.int .u64 (un (Sha.wordOf l))) ∧ w' = w := by
  have HC : Hid _ := hc
  clear hc
  go_enter Tryd.func107, Tryd.ntmps107
  go_wp2
  go_loop [3, 9] (fun x i => ∃ k : Nat, k ≤ 8 ∧ i = .int .i64 k ∧ x = .int .u64 (un (Sha.wordOf (l.take k)))) (fun _ i => 8 - (intOf i).toNat)
  case atStart => exact ⟨0, Nat.zero_le _, rfl, rfl⟩
  case round =>
    obtain ⟨k, hk, rfl, rfl⟩ := hrel
    by_cases hlt : k < 8
    · have hk' : k < l.length := by omega
      have hcell := HC.out k hk'
      have hsn : Hid (Sha.wordOf (l.take (k + 1)) = Sha.more (Sha.wordOf (l.take k)) l[k]) := by
        show _ = _
        rw [List.take_succ_eq_append_getElem hk', Sha.wordOf, List.foldl_append]; rfl
      clear hl
      generalize l[k] = c at *
      go_wp2
      exact ⟨⟨k + 1, by omega, by go_num, by rw [hsn.out, ← word_step]⟩, by simp [intOf]; omega⟩
    · obtain rfl : k = 8 := by omega
      go_wp2
      go_ret
      exact ⟨ret_u64 (by rw [List.take_of_length_le (by omega)]), rfl⟩

/-- Nothing is changed but block b. -/
structure Only (b : Nat) (w w' : World) : Prop where
  os : w'.os = w.os
  tape : w'.tape = w.tape
  output : w'.output = w.output
  size : w.heap.size ≤ w'.heap.size
  block : ∀ k, k < w.heap.size → k ≠ b → w'.heap[k]? = w.heap[k]?
theorem Only.refl (b : Nat) (w : World) : Only b w w := ⟨rfl, rfl, rfl, Nat.le_refl _, fun _ _ _ => rfl⟩
theorem Only.trans {b : Nat} {u v w : World} (h : Only b u v) (k : Only b v w) : Only b u w :=
  ⟨k.os.trans h.os, k.tape.trans h.tape, k.output.trans h.output, Nat.le_trans h.size k.size, fun i hi hb => (k.block i (Nat.lt_of_lt_of_le hi h.size) hb).trans (h.block i hi hb)⟩
theorem Only.of_below {b : Nat} {u v : World} (h : Below u.heap.size u v) : Only b u v := ⟨h.os, h.tape, h.output, h.size, fun k hk _ => h.block k hk⟩
theorem Only.below {b : Nat} {u v : World} (h : Only b u v) (B : Nat) (hB : B ≤ b) (hs : B ≤ u.heap.size) : Below B u v := ⟨h.os, h.tape, h.output, h.size, fun k hk => h.block k (by omega) (by omega)⟩
theorem Only.setCell (w : World) (b i : Nat) (v : Value) : Only b w (w.setCell ⟨b, i, none⟩ v) :=
  ⟨rfl, rfl, rfl, by simp [World.setCell], fun k _ hb => heap_setCell_other _ _ _ _ hb⟩
theorem Only.drew {b : Nat} {u v : World} (h : Only b u v) : Only b u v.drew := ⟨h.os, h.tape, h.output, h.size, h.block⟩

/-- The row f with eight bytes of a word from place o on. -/
def putF (f : Nat → Value) (o : Nat) (x : BitVec 64) (k j : Nat) : Value := if o ≤ j ∧ j < o + k then .int .u8 ((Sha.byteOf x (j - o)).toNat : Int) else f j
theorem put_step {n o k : Nat} {f : Nat → Value} {x : BitVec 64} : Own.mkRow n (fun j => if j = o + k then .int .u8 ((Sha.byteOf x k).toNat : Int) else putF f o x k j) = Own.mkRow n (putF f o x (k + 1)) := by
  refine Own.mkRow_congr (fun j hj => ?_)
  unfold putF
  by_cases e : j = o + k
  · rw [if_pos e, if_pos (by omega), show j - o = k by omega]
  · rw [if_neg e]
    by_cases h : o ≤ j ∧ j < o + k
    · rw [if_pos h, if_pos (by omega)]
    · rw [if_neg h, if_neg (by omega)]
theorem rem_byte (x : BitVec 64) (k : Nat) : un (x >>> (56 - 8 * k)) % 256 = ((Sha.byteOf x k).toNat : Int) := by
  unfold un Sha.byteOf; simp
set_option maxHeartbeats 400000 in
theorem putWord_any (w : World) (b o len cap n : Nat) (f : Nat → Value) (t : TypeId) (x : BitVec 64) (hlen : len ≤ 1000) (h8 : 8 ≤ len) (hn : o + 8 ≤ n) (_hn2 : n ≤ 1000)
    (hf : ∀ j, o ≤ j → j < o + 8 → ∃ v : Int, f j = .int .u8 v)
    (hrow : w.heap[b]? = some (.cells (Own.mkRow n f) t (0, 0))) :
    Calls Tryd.prog 63 #[.slice (some ⟨b, o, none⟩) len cap, .int .u64 (un x)] w fun e w' => e = .returned (.tuple #[]) ∧ Only b w w' ∧ w'.heap[b]? = some (.cells (Own.mkRow n (putF f o x 8)) t (0, 0)) := by
  have HR : Hid _ := hrow
  have HF : Hid _ := hf
  clear hrow hf
  go_enter Tryd.func63, Tryd.ntmps63
  go_wp2
  go_loopw [5] (fun i wr => ∃ k : Nat, k ≤ 8 ∧ i = .int .i64 k ∧ Only b w wr ∧ wr.heap[b]? = some (.cells (Own.mkRow n (putF f o x k)) t (0, 0))) (fun i _ => 8 - (intOf i).toNat)
  case atStart => exact ⟨0, Nat.zero_le _, rfl, Only.refl _ _, by rw [HR.out, Own.mkRow_congr (g := putF f o x 0) (fun j _ => by unfold putF; rw [if_neg (by omega)])]⟩
  case round =>
    obtain ⟨k, hk, rfl, ho, hr⟩ := hrel
    have HO : Hid _ := ho
    have HR2 : Hid _ := hr
    clear ho hr HR
    by_cases hlt : k < 8
    · have hz := Own.row_frozen HR2.out (o + k)
      have hc := Own.row_cell HR2.out (o + k) (by omega)
      obtain ⟨v, hv⟩ := HF.out (o + k) (by omega) (by omega)
      have hv2 : putF f o x k (o + k) = .int .u8 v := by unfold putF; rw [if_neg (by omega), hv]
      rw [hv2] at hc
      clear hv hv2
      go_wp2
      exact ⟨⟨k + 1, by omega, by go_num, HO.out.trans (Only.setCell _ _ _ _), by rw [Own.row_store HR2.out, rem_byte, put_step]⟩, by simp [intOf]; omega⟩
    · obtain rfl : k = 8 := by omega
      go_wp2
      go_end0
      exact ⟨rfl, HO.out, HR2.out⟩
end Hs
end Go.Proofs.YtbojijefenfbgaaDoor

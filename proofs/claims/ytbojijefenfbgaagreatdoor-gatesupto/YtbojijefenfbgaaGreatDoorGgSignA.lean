/- Walks of the program's signing: timesBase. Plain mathematics: SHA-512 as the document tells it, on lists of bytes and words of 64 bits. It imports nothing of the program. Walks of the program's own small functions of the hash: RotateLeft64, right, turn, spreadEarly, spreadLate, word, putWord. Walks of the document's own small functions of the hash: turn, word, bytes, roots, cubes. -/
import Derived.Test.YtbojijefenfbgaaGreatDoorGgWideE
import Derived.Great.BuildSlice
import Derived.Test.YtbojijefenfbgaaGreatDoorProg
import Derived.Test.YtbojijefenfbgaaGreatDoorGgQFloat
import Derived.Test.YtbojijefenfbgaaGreatDoorGgOwn
import Derived.WalkKit
import Derived.WalkSpells
import Derived.WalkLawsBesides
import Derived.BigQuiet
import Derived.KernelRfl
namespace Go.Proofs.YtbojijefenfbgaaGreatDoor
open Go.RowKit
namespace Gw
open Fw Bt Ww Sw Cw Ed
theorem pw_sixteen (e : E) : ∃ v0 v1 v2 v3 v4 v5 v6 v7 v8 v9 v10 v11 v12 v13 v14 v15 : Value, pw e = #[v0, v1, v2, v3, v4, v5, v6, v7, v8, v9, v10, v11, v12, v13, v14, v15] := by
 obtain ⟨a0, a1, a2, a3, ha, _⟩ := fw_four e.x
 obtain ⟨b0, b1, b2, b3, hb, _⟩ := fw_four e.y
 obtain ⟨c0, c1, c2, c3, hc, _⟩ := fw_four e.z
 obtain ⟨d0, d1, d2, d3, hd, _⟩ := fw_four e.t
 refine ⟨a0, a1, a2, a3, b0, b1, b2, b3, c0, c1, c2, c3, d0, d1, d2, d3, ?_⟩
 rw [pw_def, ha, hb, hc, hd]
 rfl
theorem built_tm (q : Q) (e : E) : Tryz.prog.built 192 [(0, .agg q.cells), (1, .agg (pw e))] = some (tw (q, e)) := by
 unfold tw
 obtain ⟨v0, v1, v2, v3, v4, v5, v6, v7, v8, v9, v10, v11, v12, v13, v14, v15, h⟩ := pw_sixteen e
 simp only [h]
 kernel_rfl
theorem y_tm {W : World} {K : Act → Prop} {l : List Oper} {o : Oper} {a : Act} (hg : o.guard = none) (parts : Array (Nat × Operand)) (ho : o.op = .build 192 parts) (q : Q) (e : E) (hf : (parts.map fun (i, x) => (i, a.eval x)).toList = [(0, .agg q.cells), (1, .agg (pw e))])
  (h : Qt.Lex Tryz.prog W K l (a.put o.dst (.agg (tw (q, e))))) : Qt.Lex Tryz.prog W K (o :: l) a := by
 refine Qt.y_val hg (.agg (tw (q, e))) (fun w' _ => ?_) h
 have hr := run_build (P := Tryz.prog) w' 192 (parts.map fun (i, x) => (i, a.eval x)) (tw (q, e)) (by rw [hf]; exact built_tm q e)
 unfold execOp
 simp only [ho, Sem.run_bind, Sem.run_pure, Result.andThen_ok, hr]
theorem fill_two (t u : Q × E) : Instr.fill (fun i => some (i * 20, 20)) ((Array.range (2 * 20)).map ((Value.agg tmZero).cells[· % (Value.agg tmZero).cells.size]!)) [(0, .agg (tw t)), (1, .agg (tw u))] = some (tw t ++ tw u) := by
 unfold tw
 obtain ⟨v0, v1, v2, v3, v4, v5, v6, v7, v8, v9, v10, v11, v12, v13, v14, v15, h⟩ := pw_sixteen t.2
 obtain ⟨u0, u1, u2, u3, u4, u5, u6, u7, u8, u9, u10, u11, u12, u13, u14, u15, h'⟩ := pw_sixteen u.2
 simp only [h, h']
 kernel_rfl
end Gw
end Go.Proofs.YtbojijefenfbgaaGreatDoor
namespace Go.Proofs.YtbojijefenfbgaaGreatDoor
namespace Sha
def rotr (x : BitVec 64) (n : Nat) : BitVec 64 := x >>> n ||| x <<< (64 - n)
def lowS (x : BitVec 64) : BitVec 64 := rotr x 1 ^^^ rotr x 8 ^^^ x >>> 7
def highS (x : BitVec 64) : BitVec 64 := rotr x 19 ^^^ rotr x 61 ^^^ x >>> 6
def bigE (x : BitVec 64) : BitVec 64 := rotr x 14 ^^^ rotr x 18 ^^^ rotr x 41
def bigA (x : BitVec 64) : BitVec 64 := rotr x 28 ^^^ rotr x 34 ^^^ rotr x 39
def ch (e f g : BitVec 64) : BitVec 64 := (e &&& f) ^^^ (~~~ e &&& g)
def maj (a b c : BitVec 64) : BitVec 64 := (a &&& b) ^^^ (a &&& c) ^^^ (b &&& c)
def more (x : BitVec 64) (c : UInt8) : BitVec 64 := 256#64 * x + BitVec.ofNat 64 c.toNat
def wordOf (l : List UInt8) : BitVec 64 := l.foldl more 0#64
def wordAt (l : List UInt8) (p : Nat) : BitVec 64 := wordOf ((l.drop p).take 8)
def byteOf (x : BitVec 64) (i : Nat) : UInt8 := UInt8.ofNat (x >>> (56 - 8 * i)).toNat
def bytesOf (x : BitVec 64) : List UInt8 := [byteOf x 0, byteOf x 1, byteOf x 2, byteOf x 3, byteOf x 4, byteOf x 5, byteOf x 6, byteOf x 7]
def nextW (b : Nat → BitVec 64) (l : List (BitVec 64)) (n : Nat) : BitVec 64 :=
 if n < 16 then b n else highS (l.getD (n - 2) 0#64) + l.getD (n - 7) 0#64 + lowS (l.getD (n - 15) 0#64) + l.getD (n - 16) 0#64
def wl (b : Nat → BitVec 64) : Nat → List (BitVec 64)
 | 0 => []
 | n + 1 => wl b n ++ [nextW b (wl b n) n]
def W (b : Nat → BitVec 64) (n : Nat) : BitVec 64 := nextW b (wl b n) n
structure St where
 a : BitVec 64
 b : BitVec 64
 c : BitVec 64
 d : BitVec 64
 e : BitVec 64
 f : BitVec 64
 g : BitVec 64
 h : BitVec 64
def St.list (s : St) : List (BitVec 64) := [s.a, s.b, s.c, s.d, s.e, s.f, s.g, s.h]
def St.add (s t : St) : St := ⟨s.a + t.a, s.b + t.b, s.c + t.c, s.d + t.d, s.e + t.e, s.f + t.f, s.g + t.g, s.h + t.h⟩
def tOf (s : St) (k w : BitVec 64) : BitVec 64 := s.h + bigE s.e + ch s.e s.f s.g + k + w
def uOf (s : St) : BitVec 64 := bigA s.a + maj s.a s.b s.c
def round (s : St) (k w : BitVec 64) : St := ⟨tOf s k w + uOf s, s.a, s.b, s.c, s.d + tOf s k w, s.e, s.f, s.g⟩
def start : St := ⟨0x6a09e667f3bcc908#64, 0xbb67ae8584caa73b#64, 0x3c6ef372fe94f82b#64, 0xa54ff53a5f1d36f1#64, 0x510e527fade682d1#64, 0x9b05688c2b3e6c1f#64, 0x1f83d9abfb41bd6b#64, 0x5be0cd19137e2179#64⟩
def K : List (BitVec 64) := [
 0x428a2f98d728ae22#64, 0x7137449123ef65cd#64, 0xb5c0fbcfec4d3b2f#64, 0xe9b5dba58189dbbc#64,
 0x3956c25bf348b538#64, 0x59f111f1b605d019#64, 0x923f82a4af194f9b#64, 0xab1c5ed5da6d8118#64,
 0xd807aa98a3030242#64, 0x12835b0145706fbe#64, 0x243185be4ee4b28c#64, 0x550c7dc3d5ffb4e2#64,
 0x72be5d74f27b896f#64, 0x80deb1fe3b1696b1#64, 0x9bdc06a725c71235#64, 0xc19bf174cf692694#64,
 0xe49b69c19ef14ad2#64, 0xefbe4786384f25e3#64, 0x0fc19dc68b8cd5b5#64, 0x240ca1cc77ac9c65#64,
 0x2de92c6f592b0275#64, 0x4a7484aa6ea6e483#64, 0x5cb0a9dcbd41fbd4#64, 0x76f988da831153b5#64,
 0x983e5152ee66dfab#64, 0xa831c66d2db43210#64, 0xb00327c898fb213f#64, 0xbf597fc7beef0ee4#64,
 0xc6e00bf33da88fc2#64, 0xd5a79147930aa725#64, 0x06ca6351e003826f#64, 0x142929670a0e6e70#64,
 0x27b70a8546d22ffc#64, 0x2e1b21385c26c926#64, 0x4d2c6dfc5ac42aed#64, 0x53380d139d95b3df#64,
 0x650a73548baf63de#64, 0x766a0abb3c77b2a8#64, 0x81c2c92e47edaee6#64, 0x92722c851482353b#64,
 0xa2bfe8a14cf10364#64, 0xa81a664bbc423001#64, 0xc24b8b70d0f89791#64, 0xc76c51a30654be30#64,
 0xd192e819d6ef5218#64, 0xd69906245565a910#64, 0xf40e35855771202a#64, 0x106aa07032bbd1b8#64,
 0x19a4c116b8d2d0c8#64, 0x1e376c085141ab53#64, 0x2748774cdf8eeb99#64, 0x34b0bcb5e19b48a8#64,
 0x391c0cb3c5c95a63#64, 0x4ed8aa4ae3418acb#64, 0x5b9cca4f7763e373#64, 0x682e6ff3d6b2b8a3#64,
 0x748f82ee5defb2fc#64, 0x78a5636f43172f60#64, 0x84c87814a1f0ab72#64, 0x8cc702081a6439ec#64,
 0x90befffa23631e28#64, 0xa4506cebde82bde9#64, 0xbef9a3f7b2c67915#64, 0xc67178f2e372532b#64,
 0xca273eceea26619c#64, 0xd186b8c721c0c207#64, 0xeada7dd6cde0eb1e#64, 0xf57d4f7fee6ed178#64,
 0x06f067aa72176fba#64, 0x0a637dc5a2c898a6#64, 0x113f9804bef90dae#64, 0x1b710b35131c471b#64,
 0x28db77f523047d84#64, 0x32caab7b40c72493#64, 0x3c9ebe0a15c9bebc#64, 0x431d67c49c100d4c#64,
 0x4cc5d4becb3e42b6#64, 0x597f299cfc657e2a#64, 0x5fcb6fab3ad6faec#64, 0x6c44198c4a475817#64]
def kAt (n : Nat) : BitVec 64 := K.getD n 0#64
def rounds (b : Nat → BitVec 64) (s : St) : Nat → St
 | 0 => s
 | n + 1 => round (rounds b s n) (kAt n) (W b n)
def compress (s : St) (b : Nat → BitVec 64) : St := s.add (rounds b s 80)
def blockAt (l : List UInt8) (n : Nat) : Nat → BitVec 64 := fun j => wordAt l (128 * n + 8 * j)
def chain (l : List UInt8) : Nat → St
 | 0 => start
 | n + 1 => compress (chain l n) (blockAt l n)
def out (s : St) : List UInt8 := bytesOf s.a ++ bytesOf s.b ++ bytesOf s.c ++ bytesOf s.d ++ bytesOf s.e ++ bytesOf s.f ++ bytesOf s.g ++ bytesOf s.h
def gap (n : Nat) : Nat := (128 - (n + 17) % 128) % 128 + 8
def padded (l : List UInt8) : List UInt8 := l ++ [128] ++ List.replicate (gap l.length) 0 ++ bytesOf (BitVec.ofNat 64 (8 * l.length))
def sha (l : List UInt8) : List UInt8 := out (chain (padded l) ((padded l).length / 128))
theorem wl_length (b : Nat → BitVec 64) (n : Nat) : (wl b n).length = n := by
 induction n with
 | zero => rfl
 | succ n ih => simp [wl, ih]
theorem wl_get (b : Nat → BitVec 64) (n j : Nat) (h : j < n) : (wl b n).getD j 0#64 = W b j := by
 induction n with
 | zero => omega
 | succ n ih =>
  by_cases e : j < n
  ·rw [← ih e]
   simp only [wl, List.getD_eq_getElem?_getD]
   rw [List.getElem?_append_left (by rw [wl_length]; exact e)]
  ·obtain rfl : j = n := by omega
   simp only [wl, List.getD_eq_getElem?_getD]
   rw [List.getElem?_append_right (by rw [wl_length]; omega), wl_length]
   simp [W]
theorem W_low (b : Nat → BitVec 64) (n : Nat) (h : n < 16) : W b n = b n := by simp [W, nextW, h]
theorem W_high (b : Nat → BitVec 64) (n : Nat) (h : 16 ≤ n) : W b n = highS (W b (n - 2)) + W b (n - 7) + lowS (W b (n - 15)) + W b (n - 16) := by
 have : ¬ n < 16 := by omega
 simp only [W, nextW, this, if_false]
 rw [wl_get b n _ (by omega), wl_get b n _ (by omega), wl_get b n _ (by omega), wl_get b n _ (by omega)]
 rfl
theorem K_length : K.length = 80 := rfl
theorem bytesOf_length (x : BitVec 64) : (bytesOf x).length = 8 := rfl
theorem out_length (s : St) : (out s).length = 64 := by simp [out, bytesOf_length]
theorem padded_length (l : List UInt8) : (padded l).length = l.length + 9 + gap l.length := by simp [padded, bytesOf_length]; omega
theorem padded_mod (l : List UInt8) : (padded l).length % 128 = 0 := by rw [padded_length]; unfold gap; omega
theorem sha_length (l : List UInt8) : (sha l).length = 64 := out_length _
end Sha
end Go.Proofs.YtbojijefenfbgaaGreatDoor
namespace Go.Proofs.YtbojijefenfbgaaGreatDoor
open Go.RowKit
namespace Hs
attribute [local go_sem] UV.u_add UV.u_mul UV.u_sub UV.u_xor UV.u_and UV.u_or UV.u_shr UV.u_shl UV.u_not UV.u_notm UV.u_wrap_un
theorem and63 (n : Int) (h1 : 1 ≤ n) (h2 : n ≤ 63) : bits .and .u64 (IntKind.u64.wrap (-n)) 63 = 64 - n := by
 rw [IntKind.wrap_u64]
 have e : (-n) % 18446744073709551616 = ((18446744073709551616 - n.toNat : Nat) : Int) := by omega
 rw [e]
 have := bits_and_u64_nat (18446744073709551616 - n.toNat) 63 (by omega) (by omega)
 rw [show ((63 : Nat) : Int) = 63 from rfl] at this
 rw [this, show (63 : Nat) = 2 ^ 6 - 1 from rfl, Nat.and_two_pow_sub_one_eq_mod]
 omega
theorem ret_u64 {a b : BitVec 64} (h : a = b) : Ending.returned (.int .u64 (un a)) = .returned (.int .u64 (un b)) := by rw [h]
set_option maxHeartbeats 400000 in
theorem rot_any (x : BitVec 64) (n : Int) (h1 : 1 ≤ n) (h2 : n ≤ 63) (w : World) :
  Calls Tryz.prog 296 #[.int .u64 (un x), .int .i64 (-n)] w fun e w' => e = .returned (.int .u64 (un (Sha.rotr x n.toNat))) ∧ w' = w := by
 have hb := and63 n h1 h2
 go_enter Tryz.func296, Tryz.ntmps296
 go_wp2
 go_ret
 exact ⟨ret_u64 (by unfold Sha.rotr; rw [show (64 - (64 - n)).toNat = n.toNat by omega, show (64 - n).toNat = 64 - n.toNat by omega, BitVec.or_comm]), rfl⟩
set_option maxHeartbeats 400000 in
theorem right_any (x : BitVec 64) (n : Int) (h1 : 1 ≤ n) (h2 : n ≤ 63) (w : World) :
  Calls Tryz.prog 291 #[.int .u64 (un x), .int .i64 n] w fun e w' => e = .returned (.int .u64 (un (Sha.rotr x n.toNat))) ∧ w' = w := by
 go_enter Tryz.func291, Tryz.ntmps291
 go_wp2_with (go_at_call 296; refine (rot_any _ _ h1 h2 _).mono ?_; rintro e w' ⟨rfl, rfl⟩)
 go_ret
 exact ⟨rfl, rfl⟩
set_option maxHeartbeats 400000 in
theorem turn_any (x : BitVec 64) (k m n : Int) (k1 : 1 ≤ k) (k2 : k ≤ 63) (m1 : 1 ≤ m) (m2 : m ≤ 63) (n1 : 1 ≤ n) (n2 : n ≤ 63) (w : World) :
  Calls Tryz.prog 272 #[.int .u64 (un x), .int .i64 k, .int .i64 m, .int .i64 n] w fun e w' => e = .returned (.int .u64 (un (Sha.rotr x k.toNat ^^^ Sha.rotr x m.toNat ^^^ Sha.rotr x n.toNat))) ∧ w' = w := by
 go_enter Tryz.func272, Tryz.ntmps272
 go_wp2_with (go_at_call 291; refine (right_any _ _ (by assumption) (by assumption) _).mono ?_; rintro e w' ⟨rfl, rfl⟩)
 go_ret
 exact ⟨rfl, rfl⟩
theorem shr7 (x : BitVec 64) : un x / (128 : Int) = un (x >>> 7) := UV.u_shr x 7
theorem shr6 (x : BitVec 64) : un x / (64 : Int) = un (x >>> 6) := UV.u_shr x 6
set_option maxHeartbeats 400000 in
theorem spreadEarly_any (x : BitVec 64) (w : World) :
  Calls Tryz.prog 290 #[.int .u64 (un x)] w fun e w' => e = .returned (.int .u64 (un (Sha.lowS x))) ∧ w' = w := by
 have hx := shr7 x
 go_enter Tryz.func290, Tryz.ntmps290
 go_wp2_with (go_at_call 291; refine (right_any _ _ (by decide) (by decide) _).mono ?_; rintro e w' ⟨rfl, rfl⟩)
 go_ret
 exact ⟨rfl, rfl⟩
set_option maxHeartbeats 400000 in
theorem spreadLate_any (x : BitVec 64) (w : World) :
  Calls Tryz.prog 289 #[.int .u64 (un x)] w fun e w' => e = .returned (.int .u64 (un (Sha.highS x))) ∧ w' = w := by
 have hx := shr6 x
 go_enter Tryz.func289, Tryz.ntmps289
 go_wp2_with (go_at_call 291; refine (right_any _ _ (by decide) (by decide) _).mono ?_; rintro e w' ⟨rfl, rfl⟩)
 go_ret
 exact ⟨rfl, rfl⟩
theorem shl_or (x : BitVec 64) (c : UInt8) : x <<< 8 ||| BitVec.ofNat 64 c.toNat = Sha.more x c := by
 apply BitVec.eq_of_toNat_eq
 have hc : c.toNat < 256 := c.toNat_lt
 have hx := x.isLt
 simp only [Sha.more, BitVec.toNat_or, BitVec.toNat_shiftLeft, BitVec.toNat_add, BitVec.toNat_mul, BitVec.toNat_ofNat]
 rw [Nat.shiftLeft_eq]
 have e1 : x.toNat * 2 ^ 8 % 2 ^ 64 = (x.toNat % 2 ^ 56) <<< 8 := by rw [Nat.shiftLeft_eq]; omega
 rw [e1, Nat.mod_eq_of_lt (show c.toNat < 2 ^ 64 by omega), ← Nat.shiftLeft_add_eq_or_of_lt (show c.toNat < 2 ^ 8 by omega), Nat.shiftLeft_eq]
 omega
theorem word_step (x : BitVec 64) (c : UInt8) : bits .or .u64 (IntKind.u64.wrap (un x * 256)) (IntKind.u64.wrap (c.toNat : Int)) = un (Sha.more x c) := by
 rw [show IntKind.u64.wrap (un x * 256) = un (x <<< 8) from UV.u_shl x 8, UV.u_wrap, UV.u_or, shl_or]
set_option maxHeartbeats 400000 in
theorem word_any (w : World) (b o len cap : Nat) (l : List UInt8) (hl : l.length = 8) (_hlen : len ≤ 1000) (hcap : cap ≤ 1000) (h8 : 8 ≤ cap) (hc : ∀ j (h : j < l.length), w.cell? ⟨b, o + j, none⟩ = some (.int .u8 (l[j].toNat : Int))) :
  Calls Tryz.prog 288 #[.slice (some ⟨b, o, none⟩) len cap] w fun e w' => e = .returned (.int .u64 (un (Sha.wordOf l))) ∧ w' = w := by
 have HC : Hid _ := hc
 clear hc
 go_enter Tryz.func288, Tryz.ntmps288
 go_wp2
 go_loop [3, 9] (fun x i => ∃ k : Nat, k ≤ 8 ∧ i = .int .i64 k ∧ x = .int .u64 (un (Sha.wordOf (l.take k)))) (fun _ i => 8 - (intOf i).toNat)
 case atStart => exact ⟨0, Nat.zero_le _, rfl, rfl⟩
 case round =>
  obtain ⟨k, hk, rfl, rfl⟩ := hrel
  by_cases hlt : k < 8
  ·have hk' : k < l.length := by omega
   have hcell := HC.out k hk'
   have hsn : Hid (Sha.wordOf (l.take (k + 1)) = Sha.more (Sha.wordOf (l.take k)) l[k]) := by
    show _ = _
    rw [List.take_succ_eq_append_getElem hk', Sha.wordOf, List.foldl_append]; rfl
   clear hl
   generalize l[k] = c at *
   go_wp2
   exact ⟨⟨k + 1, by omega, by go_num, by rw [hsn.out, ← word_step]⟩, by simp [intOf]; omega⟩
  ·obtain rfl : k = 8 := by omega
   go_wp2
   go_ret
   exact ⟨ret_u64 (by rw [List.take_of_length_le (by omega)]), rfl⟩
structure Only (b : Nat) (w w' : World) : Prop where
 os : w'.os = w.os
 tape : w'.tape = w.tape
 output : w'.output = w.output
 size : w.heap.size ≤ w'.heap.size
 block : ∀ k, k < w.heap.size → k ≠ b → w'.heap[k]? = w.heap[k]?
theorem Only.refl (b : Nat) (w : World) : Only b w w := ⟨rfl, rfl, rfl, Nat.le_refl _, fun _ _ _ => rfl⟩
theorem Only.trans {b : Nat} {u v w : World} (h : Only b u v) (k : Only b v w) : Only b u w :=
 ⟨k.os.trans h.os, k.tape.trans h.tape, k.output.trans h.output, Nat.le_trans h.size k.size, fun i hi hb => (k.block i (Nat.lt_of_lt_of_le hi h.size) hb).trans (h.block i hi hb)⟩
theorem Only.of_below {b : Nat} {u v : World} (h : Below u.heap.size u v) : Only b u v := ⟨h.os, h.tape, h.output, h.size, fun k hk _ => h.block k hk⟩
theorem Only.below {b : Nat} {u v : World} (h : Only b u v) (B : Nat) (hB : B ≤ b) (hs : B ≤ u.heap.size) : Below B u v := ⟨h.os, h.tape, h.output, h.size, fun k hk => h.block k (by omega) (by omega)⟩
theorem Only.setCell (w : World) (b i : Nat) (v : Value) : Only b w (w.setCell ⟨b, i, none⟩ v) :=
 ⟨rfl, rfl, rfl, by simp [World.setCell], fun k _ hb => heap_setCell_other _ _ _ _ hb⟩
theorem Only.drew {b : Nat} {u v : World} (h : Only b u v) : Only b u v.drew := ⟨h.os, h.tape, h.output, h.size, h.block⟩
def putF (f : Nat → Value) (o : Nat) (x : BitVec 64) (k j : Nat) : Value := if o ≤ j ∧ j < o + k then .int .u8 ((Sha.byteOf x (j - o)).toNat : Int) else f j
theorem put_step {n o k : Nat} {f : Nat → Value} {x : BitVec 64} : Own.mkRow n (fun j => if j = o + k then .int .u8 ((Sha.byteOf x k).toNat : Int) else putF f o x k j) = Own.mkRow n (putF f o x (k + 1)) := by
 refine Own.mkRow_congr (fun j hj => ?_)
 unfold putF
 by_cases e : j = o + k
 ·rw [if_pos e, if_pos (by omega), show j - o = k by omega]
 ·rw [if_neg e]
  by_cases h : o ≤ j ∧ j < o + k
  ·rw [if_pos h, if_pos (by omega)]
  ·rw [if_neg h, if_neg (by omega)]
theorem rem_byte (x : BitVec 64) (k : Nat) : un (x >>> (56 - 8 * k)) % 256 = ((Sha.byteOf x k).toNat : Int) := by
 unfold un Sha.byteOf; simp
set_option maxHeartbeats 400000 in
theorem putWord_any (w : World) (b o len cap n : Nat) (f : Nat → Value) (t : TypeId) (x : BitVec 64) (hlen : len ≤ 1000) (h8 : 8 ≤ len) (hn : o + 8 ≤ n) (_hn2 : n ≤ 1000)
  (hf : ∀ j, o ≤ j → j < o + 8 → ∃ v : Int, f j = .int .u8 v)
  (hrow : w.heap[b]? = some (.cells (Own.mkRow n f) t (0, 0))) :
  Calls Tryz.prog 237 #[.slice (some ⟨b, o, none⟩) len cap, .int .u64 (un x)] w fun e w' => e = .returned (.tuple #[]) ∧ Only b w w' ∧ w'.heap[b]? = some (.cells (Own.mkRow n (putF f o x 8)) t (0, 0)) := by
 have HR : Hid _ := hrow
 have HF : Hid _ := hf
 clear hrow hf
 go_enter Tryz.func237, Tryz.ntmps237
 go_wp2
 go_loopw [5] (fun i wr => ∃ k : Nat, k ≤ 8 ∧ i = .int .i64 k ∧ Only b w wr ∧ wr.heap[b]? = some (.cells (Own.mkRow n (putF f o x k)) t (0, 0))) (fun i _ => 8 - (intOf i).toNat)
 case atStart => exact ⟨0, Nat.zero_le _, rfl, Only.refl _ _, by rw [HR.out, Own.mkRow_congr (g := putF f o x 0) (fun j _ => by unfold putF; rw [if_neg (by omega)])]⟩
 case round =>
  obtain ⟨k, hk, rfl, ho, hr⟩ := hrel
  have HO : Hid _ := ho
  have HR2 : Hid _ := hr
  clear ho hr HR
  by_cases hlt : k < 8
  ·have hz := Own.row_frozen HR2.out (o + k)
   have hc := Own.row_cell HR2.out (o + k) (by omega)
   obtain ⟨v, hv⟩ := HF.out (o + k) (by omega) (by omega)
   have hv2 : putF f o x k (o + k) = .int .u8 v := by unfold putF; rw [if_neg (by omega), hv]
   rw [hv2] at hc
   clear hv hv2
   go_wp2
   exact ⟨⟨k + 1, by omega, by go_num, HO.out.trans (Only.setCell _ _ _ _), by rw [Own.row_store HR2.out, rem_byte, put_step]⟩, by simp [intOf]; omega⟩
  ·obtain rfl : k = 8 := by omega
   go_wp2
   go_end0
   exact ⟨rfl, HO.out, HR2.out⟩
end Hs
end Go.Proofs.YtbojijefenfbgaaGreatDoor
namespace Go.Proofs.YtbojijefenfbgaaGreatDoor
open Go.RowKit
attribute [local go_sem] UV.u_add UV.u_mul UV.u_sub UV.u_xor UV.u_and UV.u_or UV.u_shr UV.u_shl UV.u_not UV.u_mul_lit UV.u_wrap_un
set_option maxHeartbeats 400000 in
theorem refTurn_any (x : BitVec 64) (n : Nat) (h1 : 1 ≤ n) (h2 : n ≤ 63) (w : World) :
  Calls Tryz.prog 103 #[.int .u64 (un x), .int .i64 (n : Int)] w fun e w' => e = .returned (.int .u64 (un (Sha.rotr x n))) ∧ ∃ k, w' = w.drewN k := by
 go_enter Tryz.func103, Tryz.ntmps103
 go_wp2
 go_quiet (fail)
 go_wp2
 go_ret
 exact ⟨rfl, _, rfl⟩
theorem refTurn_int (x : BitVec 64) (n : Int) (h1 : 1 ≤ n) (h2 : n ≤ 63) (w : World) :
  Calls Tryz.prog 103 #[.int .u64 (un x), .int .i64 n] w fun e w' => e = .returned (.int .u64 (un (Sha.rotr x n.toNat))) ∧ ∃ k, w' = w.drewN k := by
 have h := refTurn_any x n.toNat (by omega) (by omega) w
 rw [Int.toNat_of_nonneg (by omega)] at h
 exact h
theorem more_eq (x : BitVec 64) (c : UInt8) : IntKind.u64.wrap (IntKind.u64.wrap (256 * un x) + IntKind.u64.wrap (c.toNat : Int)) = un (Sha.more x c) := by
 rw [show IntKind.u64.wrap (256 * un x) = un (256#64 * x) from UV.u_mul_lit 256 x, UV.u_wrap, UV.u_add]; rfl
theorem wordOf_snoc (l : List UInt8) (c : UInt8) : Sha.wordOf (l ++ [c]) = Sha.more (Sha.wordOf l) c := by simp [Sha.wordOf]
theorem take_drop_snoc (s : ByteArray) (p k : Nat) (h : p + k < s.size) : (s.data.toList.drop p).take (k + 1) = (s.data.toList.drop p).take k ++ [s[p + k]] := by
 rw [List.take_succ_eq_append_getElem (by simp; have : s.data.size = s.size := rfl; omega)]
 congr 2
 rw [List.getElem_drop]; rfl
set_option maxHeartbeats 400000 in
theorem refWord_any (s : ByteArray) (p : Nat) (h : p + 8 ≤ s.size) (hs : s.size ≤ 4000000000000) (w : World) :
  Calls Tryz.prog 102 #[.string s, .int .i64 (p : Int)] w fun e w' => e = .returned (.int .u64 (un (Sha.wordAt s.data.toList p))) ∧ w' = w := by
 go_enter Tryz.func102, Tryz.ntmps102
 go_wp2
 go_loop [5, 6] (fun x i => ∃ k : Nat, k ≤ 8 ∧ i = .int .i64 k ∧ x = .int .u64 (un (Sha.wordOf ((s.data.toList.drop p).take k)))) (fun _ i => 8 - (intOf i).toNat)
 case atStart => exact ⟨0, Nat.zero_le _, rfl, rfl⟩
 case round =>
  obtain ⟨k, hk, rfl, rfl⟩ := hrel
  by_cases hlt : k < 8
  ·go_wp2
   exact ⟨⟨k + 1, by omega, by go_num, by rw [take_drop_snoc s p k (by omega), wordOf_snoc, ← more_eq]⟩, by simp [intOf]; omega⟩
  ·obtain rfl : k = 8 := by omega
   go_wp2
   go_ret
   exact ⟨rfl, rfl⟩
theorem refWord_int (s : ByteArray) (p : Int) (h0 : 0 ≤ p) (h : p + 8 ≤ s.size) (hs : s.size ≤ 4000000000000) (w : World) :
  Calls Tryz.prog 102 #[.string s, .int .i64 p] w fun e w' => e = .returned (.int .u64 (un (Sha.wordAt s.data.toList p.toNat))) ∧ w' = w := by
 have h := refWord_any s p.toNat (by omega) hs w
 rw [Int.toNat_of_nonneg (by omega)] at h
 exact h
theorem info_u8 : (Tryz.prog.info? 5).map (fun i => (i.zero, i.size, i.bytes)) = some (some (.int .u8 0), 1, 1) := by kernel_rfl
def f8 (x : BitVec 64) (k : Nat) (j : Nat) : Value := if 8 ≤ j + k then Value.int .u8 ((Sha.byteOf x j).toNat : Int) else .int .u8 0
theorem quo256 (x : BitVec 64) : IntKind.u64.wrap ((un x).tdiv 256) = un (x >>> 8) := by
 rw [Int.tdiv_eq_ediv_of_nonneg (UV.un_lo x), show (256 : Int) = 2 ^ 8 from rfl, UV.u_shr, UV.u_wrap_un]
theorem rem256 (x : BitVec 64) (n : Nat) (_h : n ≤ 56) : un (x >>> n) % 256 = ((UInt8.ofNat (x >>> n).toNat).toNat : Int) := by
 unfold un; simp
theorem f8_step (x : BitVec 64) (k : Nat) (hk : k < 8) (j : Nat) (hj : j < 8) : (if j = 7 - k then Value.int .u8 (un (x >>> (8 * k)) % 256) else f8 x k j) = f8 x (k + 1) j := by
 by_cases e : j = 7 - k
 ·rw [if_pos e, rem256 x (8 * k) (by omega)]
  unfold f8
  rw [if_pos (by omega)]
  simp only [Sha.byteOf]
  rw [show 56 - 8 * j = 8 * k by omega]
 ·rw [if_neg e]
  unfold f8
  by_cases h : 8 ≤ j + k
  ·rw [if_pos h, if_pos (by omega)]
  ·rw [if_neg h, if_neg (by omega)]
theorem bytesOf_get (x : BitVec 64) (j : Nat) (h : j < (Sha.bytesOf x).length) : (Sha.bytesOf x)[j] = Sha.byteOf x j := by
 have h' : j < 8 := h
 rcases j with _ | _ | _ | _ | _ | _ | _ | _ | j
 all_goals first | rfl | omega
theorem shr_shr (x : BitVec 64) (k : Nat) : x >>> (8 * k) >>> 8 = x >>> (8 * (k + 1)) := by
 rw [← BitVec.shiftRight_add, show 8 * k + 8 = 8 * (k + 1) by omega]
set_option maxHeartbeats 400000 in
theorem refBytes_any (x : BitVec 64) (w : World) :
  Calls Tryz.prog 99 #[.int .u64 (un x)] w fun e w' => e = .returned (.string ⟨(Sha.bytesOf x).toArray⟩) ∧ Below w.heap.size w w' := by
 go_enter Tryz.func99, Tryz.ntmps99
 go_wp2_with (at_make; refine Own.wpList_make_at _ rfl _ _ 145 rfl 5 (.int .u8 0) 1 Tryz.underlying145 info_u8 rfl .i64 .i64 _ _ 8 rfl rfl rfl rfl (by decide) (by decide) ?_)
 go_loopw [0, 4] (fun x' i wr => ∃ k : Nat, k ≤ 8 ∧ i = .int .i64 (7 - (k : Int)) ∧ x' = .int .u64 (un (x >>> (8 * k))) ∧ Below w.heap.size w wr ∧ wr.heap[w.heap.size]? = some (.cells (Own.mkRow 8 (f8 x k)) 5 (0, 0))) (fun _ i _ => (1 + intOf i).toNat)
 case atStart => 
  exact ⟨0, by omega, rfl, by simp, (Below.refl _ _).alloc (Nat.le_refl _) _, by rw [heap_alloc_new]; rfl⟩
 case round =>
  obtain ⟨k, hk, rfl, rfl, hb, hrow⟩ := hrel
  have Hr : Hid _ := hrow
  have Hb : Hid _ := hb
  clear hrow hb
  by_cases hlt : k < 8
  ·have hx0 := UV.un_lo (x >>> (8 * k))
   have hc := Own.row_frozen Hr.out (7 - k)
   have hd := Own.row_cell Hr.out (7 - k) (by omega)
   have hv : f8 x k (7 - k) = .int .u8 0 := by unfold f8; rw [if_neg (by omega)]
   rw [hv] at hd
   clear hv
   go_wp2
   refine ⟨⟨k + 1, by omega, by go_num, ?_, Hb.out.setCell (by simp) _, ?_⟩, by simp [intOf]; omega⟩
   ·rw [quo256, shr_shr]
   ·rw [Own.row_store Hr.out, Own.mkRow_congr (f8_step x k hlt)]
  ·obtain rfl : k = 8 := by omega
   have HC : Hid (∀ j (h : j < (Sha.bytesOf x).length), wr.cell? ⟨w.heap.size, 0 + j, none⟩ = some (.int .u8 ((Sha.bytesOf x)[j].toNat : Int))) := fun j hj => by
    have hj' : j < 8 := hj
    rw [Nat.zero_add, Own.row_cell Hr.out j hj', bytesOf_get]
    unfold f8
    rw [if_pos (by omega)]
   go_wp2_with (refine Own.wpList_string_at _ rfl _ 145 9 5 rfl Tryz.underlying145 Tryz.underlying5 Tryz.underlying9 w.heap.size 0 8 (Sha.bytesOf x) rfl HC.out ?_)
   go_ret
   exact ⟨rfl, Hb.out⟩
def hCell (s : Sha.St) (j : Nat) : Value := .int .u64 (un (s.list.getD j 0#64))
def kCell (j : Nat) : Value := .int .u64 (un (Sha.kAt j))
set_option maxHeartbeats 400000 in
theorem refRoots_any (w : World) :
  Calls Tryz.prog 100 #[] w fun e w' => e = .returned (.agg (Own.mkRow 8 (hCell Sha.start))) ∧ Below w.heap.size w w' := by
 go_enter Tryz.func100, Tryz.ntmps100
 go_wp2_with (first
  | refine Own.wpList_alloc_at _ rfl 177 rfl (Own.zeros 8 (.int .u64 0)) (by kernel_rfl) ?_
  | refine Own.wpList_build_at rfl 177 _ rfl (Own.mkRow 8 (hCell Sha.start)) (by kernel_rfl) ?_
  | refine Own.wpList_store_new rfl 177 _ _ rfl (Own.zeros 8 (.int .u64 0)) (Own.mkRow 8 (hCell Sha.start)) 177 rfl rfl (by kernel_rfl) (by kernel_rfl) (Own.all_one fun _ _ => rfl) ?_)
 exact Own.ret_row Tryz.results100 rfl _ _ _ _ _ rfl (heap_alloc_new _ _) Tryz.underlying177 rfl (by kernel_rfl) ⟨rfl, (Below.refl _ _).alloc (Nat.le_refl _) _⟩
set_option maxHeartbeats 400000 in
theorem refCubes_any (w : World) :
  Calls Tryz.prog 101 #[] w fun e w' => e = .returned (.agg (Own.mkRow 80 kCell)) ∧ Below w.heap.size w w' := by
 go_enter Tryz.func101, Tryz.ntmps101
 go_wp2_with (first
  | refine Own.wpList_alloc_at _ rfl 179 rfl (Own.zeros 80 (.int .u64 0)) (by kernel_rfl) ?_
  | refine Own.wpList_build_at rfl 179 _ rfl (Own.mkRow 80 kCell) (by kernel_rfl) ?_
  | refine Own.wpList_store_new rfl 179 _ _ rfl (Own.zeros 80 (.int .u64 0)) (Own.mkRow 80 kCell) 179 rfl rfl (by kernel_rfl) (by kernel_rfl) (Own.all_one fun _ _ => rfl) ?_)
 exact Own.ret_row Tryz.results101 rfl _ _ _ _ _ rfl (heap_alloc_new _ _) Tryz.underlying179 rfl (by kernel_rfl) ⟨rfl, (Below.refl _ _).alloc (Nat.le_refl _) _⟩
end Go.Proofs.YtbojijefenfbgaaGreatDoor

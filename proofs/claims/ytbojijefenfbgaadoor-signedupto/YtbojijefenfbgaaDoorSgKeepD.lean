/- Walk of posternkeep's known. -/
/- Walks of posternkeep: pick; a string's bytes in a row of their own. -/
/- What posternkeep's raised and turned signatures are, in numbers. -/
import Derived.Test.YtbojijefenfbgaaDoorSgKeepA
import Derived.Lib.ConvBytes
import Derived.Lib.BufferMore
import Derived.Laws.AppendOwn
namespace Go.Proofs.YtbojijefenfbgaaDoor
open Go.RowKit
namespace Gw
open Fw Bt Ww Sw Cw Ed
theorem seedL_known : seedL [107, 110, 111, 119, 110] = seedK := by decide
set_option maxRecDepth 100000 in
set_option maxHeartbeats 1000000 in
theorem known_f (w : World) (ht : Hs.TabAt w) : Calls Tryd.prog 15 #[] w fun e w' => e = .returned (.bool true) ∧ Below w.heap.size w w' := by
  have HkA : Hid (∀ w, Hs.TabAt w → Calls Tryd.prog 8 #[.string ⟨seedA.toArray⟩] w fun e w' => e = .returned (.tuple #[.string ⟨keyA.toArray⟩, .int .i64 0]) ∧ Below w.heap.size w w') := by
    intro w ht
    have h := pkey_f seedA rfl w ht
    rw [key_A] at h
    exact h
  obtain ⟨sk, hsk⟩ : ∃ s, s = seedK := ⟨_, rfl⟩
  have Hsd : Hid (∀ w, Calls Tryd.prog 16 #[.string ⟨[107, 110, 111, 119, 110].toArray⟩] w fun e w' => e = .returned (.string ⟨sk.toArray⟩) ∧ Below w.heap.size w w') := by
    intro w
    have h := seed_f [107, 110, 111, 119, 110] w
    rw [seedL_known, ← hsk] at h
    exact h
  obtain ⟨ky, hky⟩ : ∃ s, s = keyB seedK := ⟨_, rfl⟩
  obtain ⟨sg, hsg⟩ : ∃ s, s = sigB seedK textB := ⟨_, rfl⟩
  have HkK : Hid (∀ w, Hs.TabAt w → Calls Tryd.prog 8 #[.string ⟨sk.toArray⟩] w fun e w' => e = .returned (.tuple #[.string ⟨ky.toArray⟩, .int .i64 0]) ∧ Below w.heap.size w w') := by
    intro w ht
    rw [hsk, hky]
    exact pkey_f seedK rfl w ht
  have HsK : Hid (∀ w, Hs.TabAt w → Calls Tryd.prog 10 #[.string ⟨sk.toArray⟩, .string ⟨[116, 101, 120, 116].toArray⟩] w fun e w' => e = .returned (.tuple #[.string ⟨sg.toArray⟩, .int .i64 0]) ∧ Below w.heap.size w w') := by
    intro w ht
    rw [hsk, hsg]
    exact psign_f seedK textB rfl (by decide) w ht
  have HrY : Hid (∀ w, Hs.TabAt w → Calls Tryd.prog 17 #[.string ⟨ky.toArray⟩, .string ⟨[116, 101, 120, 116].toArray⟩, .string ⟨sg.toArray⟩] w fun e w' => e = .returned (.bool true) ∧ Below w.heap.size w w') := by
    intro w ht
    have h := pright_f ky textB sg (by decide) w ht
    rw [hky, hsg, right_sig base_order, ← hky, ← hsg] at h
    exact h
  have HrN : Hid (∀ w, Hs.TabAt w → Calls Tryd.prog 17 #[.string ⟨ky.toArray⟩, .string ⟨[111, 116, 104, 101, 114].toArray⟩, .string ⟨sg.toArray⟩] w fun e w' => e = .returned (.bool false) ∧ Below w.heap.size w w') := by
    intro w ht
    have h := pright_f ky otherB sg (by decide) w ht
    rw [hky, hsg, known_not, ← hky, ← hsg] at h
    exact h
  clear hsk hky hsg
  have Ht : Hid (Hs.TabAt w) := ht
  clear ht
  go_enter Tryd.func15, Tryd.ntmps15
  go_wp2_with fail
  refine (HkA.out w Ht.out).mono ?_
  rintro e w1 ⟨rfl, hb1⟩
  have HB1 : Hid (Below w.heap.size w w1) := hb1
  clear hb1
  go_wp2_with fail
  refine (Hsd.out _).mono ?_
  rintro e w2 ⟨rfl, hb2⟩
  have HB2 : Hid (Below w.heap.size w w2) := HB1.out.trans (hb2.mono HB1.out.size)
  clear hb2 HB1
  go_wp2_with fail
  refine (HsK.out _ (Ht.out.below HB2.out Ht.out.lt)).mono ?_
  rintro e w3 ⟨rfl, hb3⟩
  have HB3 : Hid (Below w.heap.size w w3) := HB2.out.trans (hb3.mono HB2.out.size)
  clear hb3 HB2
  go_wp2_with fail
  refine (Hsd.out _).mono ?_
  rintro e w4 ⟨rfl, hb4⟩
  have HB4 : Hid (Below w.heap.size w w4) := HB3.out.trans (hb4.mono HB3.out.size)
  clear hb4 HB3
  go_wp2_with fail
  refine (HkK.out _ (Ht.out.below HB4.out Ht.out.lt)).mono ?_
  rintro e w5 ⟨rfl, hb5⟩
  have HB5 : Hid (Below w.heap.size w w5) := HB4.out.trans (hb5.mono HB4.out.size)
  clear hb5 HB4
  go_wp2_with fail
  refine (HrY.out _ (Ht.out.below HB5.out Ht.out.lt)).mono ?_
  rintro e w6 ⟨rfl, hb6⟩
  have HB6 : Hid (Below w.heap.size w w6) := HB5.out.trans (hb6.mono HB5.out.size)
  clear hb6 HB5
  go_wp2_with fail
  refine (HrN.out _ (Ht.out.below HB6.out Ht.out.lt)).mono ?_
  rintro e w7 ⟨rfl, hb7⟩
  have HB7 : Hid (Below w.heap.size w w7) := HB6.out.trans (hb7.mono HB6.out.size)
  clear hb7 HB6
  rw [show keyA.toArray = #[215, 90, 152, 1, 130, 177, 10, 183, 213, 75, 254, 211, 201, 100, 7, 58, 14, 225, 114, 243, 218, 166, 35, 37, 175, 2, 26, 104, 247, 7, 81, 26] from rfl]
  go_wp2_with fail
  exact bodyPost_ret (v := .bool true) (by simp [results, Tryd.results15, go_sem]) rfl ⟨rfl, HB7.out⟩
end Gw
end Go.Proofs.YtbojijefenfbgaaDoor
namespace Go.Proofs.YtbojijefenfbgaaDoor
open Go.RowKit
namespace Gw
open Fw Bt Ww Sw Cw Ed
set_option maxHeartbeats 400000 in
theorem pick_f (c : Int) (h1 : -9223372036854775808 ≤ c) (h2 : c < 9223372036854775808) (w : World) : Calls Tryd.prog 18 #[.int .i64 c, .int .i64 32] w fun e w' => ∃ i : Nat, i < 32 ∧ e = .returned (.int .i64 (i : Int)) ∧ w' = w := by
  by_cases hc : c < 0
  · go_enter Tryd.func18, Tryd.ntmps18
    go_wp2_with fail
    have e : -((c + 1).tmod 32) = ((-(c + 1) % 32).toNat : Int) := by
      rw [← Int.neg_tmod, Int.tmod_eq_emod_of_nonneg (by omega)]
      omega
    exact bodyPost_ret (v := .int .i64 (-((c + 1).tmod 32))) (by simp [results, Tryd.results18, go_sem]) rfl ⟨(-(c + 1) % 32).toNat, by omega, by rw [← e], rfl⟩
  · go_enter Tryd.func18, Tryd.ntmps18
    go_wp2_with fail
    exact bodyPost_ret (v := .int .i64 (c % 32)) (by simp [results, Tryd.results18, go_sem]) rfl ⟨(c % 32).toNat, by omega, by rw [Int.toNat_of_nonneg (by omega)], rfl⟩
/-- The n bytes f lie in block b, which a conversion made. -/
def BAt (w : World) (b n : Nat) (f : Nat → Nat) : Prop := ∃ (cs : Array Value) (T : TypeId) (lo : Nat), w.heap[b]? = some (.cells cs T (lo, lo + 1)) ∧ n ≤ lo ∧ lo = cs.size ∧ ∀ j, j < n → cs[j]? = some (.int .u8 (f j : Int))
theorem BAt.lt {w : World} {b n : Nat} {f : Nat → Nat} (h : BAt w b n f) : b < w.heap.size := by
  obtain ⟨cs, T, lo, h1, _⟩ := h
  exact (Array.getElem?_eq_some_iff.1 h1).1
theorem BAt.below {w w' : World} {b n k : Nat} {f : Nat → Nat} (h : BAt w b n f) (hb : Below k w w') (hk : b < k) : BAt w' b n f := by
  obtain ⟨cs, T, lo, h1, h2⟩ := h
  exact ⟨cs, T, lo, (hb.block b hk).trans h1, h2⟩
theorem BAt.cell {w : World} {b n : Nat} {f : Nat → Nat} (h : BAt w b n f) (j : Nat) (hj : j < n) : w.cell? ⟨b, j, none⟩ = some (.int .u8 (f j : Int)) := by
  obtain ⟨cs, T, lo, h1, _, _, h4⟩ := h
  rw [cell_of_row w b j cs T _ h1]
  exact h4 j hj
theorem BAt.frozen {w : World} {b n : Nat} {f : Nat → Nat} (h : BAt w b n f) (j : Nat) (hj : j < n) : w.frozen? ⟨b, j, none⟩ = false := by
  obtain ⟨cs, T, lo, h1, h2, _, _⟩ := h
  simp [World.frozen?, h1]
  omega
theorem BAt.set {w : World} {b n : Nat} {f : Nat → Nat} (h : BAt w b n f) (j : Nat) (hj : j < n) (v : Nat) : BAt (w.setCell ⟨b, j, none⟩ (.int .u8 (v : Int))) b n (fun i => if i = j then v else f i) := by
  obtain ⟨cs, T, lo, h1, h2, h3, h4⟩ := h
  refine ⟨_, T, lo, Lib.heap_setCell_same h1 _, h2, by simp [h3], fun i hi => ?_⟩
  by_cases e : i = j
  · subst e
    simp [show i < cs.size by omega]
  · show _ = some (Value.int .u8 ((if i = j then v else f i : Nat) : Int))
    rw [if_neg e, Array.getElem?_setIfInBounds_ne (Ne.symm e)]
    exact h4 i hi
theorem bytes_below (w : World) (e : TypeId) (s : ByteArray) : Below w.heap.size w (Lib.bytesWorld w e s) :=
  ⟨rfl, rfl, rfl, by rw [Lib.bytesWorld_size]; omega, fun j hj => Lib.bytesWorld_at_old w e s j hj⟩
theorem bytes_at (w : World) (e : TypeId) (s : List UInt8) : BAt (Lib.bytesWorld w e ⟨s.toArray⟩) w.heap.size s.length (fun j => (s.getD j 0).toNat) := by
  refine ⟨_, e, _, Lib.bytesWorld_at_new w e ⟨s.toArray⟩, ?_, rfl, fun j hj => ?_⟩
  · simp [Lib.bytesCells]
  · simp [Lib.bytesCells, Array.getElem?_append, hj]
/-- '[]byte(s)'. -/
theorem l_bytes {ops : Array Oper} {rest : List Oper} {o : Oper} {a : Act} {w : World} {Q : Exit → Act → World → Prop} (hg : o.guard = none) (x : Operand) (ho : o.op = .convert 9 38 x) (s : List UInt8) (hx : a.eval x = .string ⟨s.toArray⟩)
    (h : ∀ w2 b cap, w.heap.size ≤ b → s.length ≤ cap → BAt w2 b s.length (fun j => (s.getD j 0).toNat) → Below w.heap.size w w2 → wpList Tryd.prog ops Q rest (a.put o.dst (.slice (some ⟨b, 0, none⟩) s.length cap)) w2) : wpList Tryd.prog ops Q (o :: rest) a w := by
  refine wpList_plain hg fun K hK => ?_
  have hr := Lib.run_convert_string_bytes (P := Tryd.prog) w 9 38 5 ⟨s.toArray⟩ Tryd.underlying9 Tryd.underlying38 Tryd.underlying5
  unfold Oper.wp execOp
  simp only [ho, hx, Sem.run_bind, Sem.run_pure, Result.andThen_ok, hr]
  exact hK _ _ (h _ _ _ (Nat.le_refl _) (by have := grownCap_ge w s.length 0 5; exact this) (bytes_at w _ s) (bytes_below w _ _))
end Gw
end Go.Proofs.YtbojijefenfbgaaDoor
namespace Go.Proofs.YtbojijefenfbgaaDoor
namespace Gw
open Fw Bt Ww Sw Cw Ed
/-- The sum of the first k parts to a base. -/
def vl (B : Nat) (f : Nat → Nat) : Nat → Nat
  | 0 => 0
  | k + 1 => vl B f k + f k * B ^ k
theorem vl_congr {B : Nat} {f g : Nat → Nat} {k : Nat} (h : ∀ j, j < k → f j = g j) : vl B f k = vl B g k := by
  induction k with
  | zero => rfl
  | succ k ih => simp only [vl, ih fun j hj => h j (by omega), h k (by omega)]
theorem vl_head (B : Nat) (f : Nat → Nat) (k : Nat) : vl B f (k + 1) = f 0 + B * vl B (fun j => f (j + 1)) k := by
  induction k with
  | zero => simp [vl]
  | succ k ih =>
    rw [vl, ih, vl, Nat.mul_add, Nat.pow_succ, Nat.add_assoc]
    congr 2
    rw [Nat.mul_comm (B ^ k) B, ← Nat.mul_assoc, ← Nat.mul_assoc, Nat.mul_comm B]
theorem le_vl (l : List UInt8) : le l = vl 256 (fun j => (l.getD j 0).toNat) l.length := by
  induction l with
  | nil => rfl
  | cons a l ih =>
    rw [List.length_cons, vl_head, le, ih]
    rfl
theorem le_inj {a b : List UInt8} (hl : a.length = b.length) (h : le a = le b) : a = b := by
  rw [← leB_le a, ← leB_le b, h, hl]
def lS : List UInt8 := [237, 211, 245, 92, 26, 99, 18, 88, 214, 156, 247, 162, 222, 249, 222, 20, 0, 0, 0, 0, 0, 0, 0, 0, 0, 0, 0, 0, 0, 0, 0, 16]
theorem lS_le : le lS = LL := by decide
def xS (s : List UInt8) (c k : Nat) : Nat := (s.getD (32 + k) 0).toNat + (lS.getD k 0).toNat + c
def car (s : List UInt8) : Nat → Nat
  | 0 => 0
  | k + 1 => xS s (car s k) k / 256
def mB (s : List UInt8) (k j : Nat) : Nat := if 32 ≤ j ∧ j < 32 + k then xS s (car s (j - 32)) (j - 32) % 256 else (s.getD j 0).toNat
theorem mB_zero (s : List UInt8) (j : Nat) : mB s 0 j = (s.getD j 0).toNat := if_neg (by omega)
theorem mB_lt (s : List UInt8) (k j : Nat) : mB s k j < 256 := by
  unfold mB
  split
  · omega
  · exact UInt8.toNat_lt _
theorem mB_step (s : List UInt8) (k : Nat) : (fun i => if i = 32 + k then xS s (car s k) k % 256 else mB s k i) = mB s (k + 1) := by
  funext j
  unfold mB
  by_cases e : j = 32 + k
  · rw [if_pos e, if_pos ⟨by omega, by omega⟩, e, show 32 + k - 32 = k by omega]
  · rw [if_neg e]
    by_cases h : 32 ≤ j ∧ j < 32 + k
    · rw [if_pos h, if_pos ⟨h.1, by omega⟩]
    · rw [if_neg h, if_neg (by omega)]
theorem xS_lt (s : List UInt8) (c k : Nat) (hc : c ≤ 1) : xS s c k < 512 := by
  unfold xS
  have h1 := (s.getD (32 + k) 0).toNat_lt
  have h2 := (lS.getD k 0).toNat_lt
  omega
theorem car_le (s : List UInt8) (k : Nat) : car s k ≤ 1 := by
  induction k with
  | zero => exact Nat.zero_le _
  | succ k ih =>
    have := xS_lt s (car s k) k ih
    show xS s (car s k) k / 256 ≤ 1
    omega
def raisedL (s : List UInt8) : List UInt8 := (List.range 64).map fun j => UInt8.ofNat (mB s 32 j)
theorem raised_len (s : List UInt8) : (raisedL s).length = 64 := by simp [raisedL]
theorem raised_get (s : List UInt8) (j : Nat) (h : j < (raisedL s).length) : ((raisedL s)[j]).toNat = mB s 32 j := by
  simp only [raisedL, List.getElem_map, List.getElem_range]
  rw [UInt8.toNat_ofNat']
  exact Nat.mod_eq_of_lt (mB_lt s 32 j)
theorem carries (s : List UInt8) (k : Nat) : vl 256 (fun j => xS s (car s j) j % 256) k + car s k * 256 ^ k = vl 256 (fun j => (s.getD (32 + j) 0).toNat) k + vl 256 (fun j => (lS.getD j 0).toNat) k := by
  induction k with
  | zero => rfl
  | succ k ih =>
    have hx : xS s (car s k) k % 256 + 256 * (xS s (car s k) k / 256) = (s.getD (32 + k) 0).toNat + (lS.getD k 0).toNat + car s k := Nat.mod_add_div _ _
    simp only [vl, car]
    generalize xS s (car s k) k / 256 = q at *
    generalize xS s (car s k) k % 256 = r at *
    generalize (s.getD (32 + k) 0).toNat = a at *
    generalize (lS.getD k 0).toNat = b at *
    generalize car s k = c at *
    generalize vl 256 (fun j => xS s (car s j) j % 256) k = X at *
    generalize vl 256 (fun j => (s.getD (32 + j) 0).toNat) k = Y at *
    generalize vl 256 (fun j => (lS.getD j 0).toNat) k = Z at *
    rw [Nat.pow_succ]
    generalize 256 ^ k = p at *
    have e : r * p + q * (p * 256) = (a + b + c) * p := by
      rw [← hx, Nat.add_mul, Nat.mul_comm p 256, ← Nat.mul_assoc, Nat.mul_comm q 256]
    rw [Nat.add_mul, Nat.add_mul] at e
    omega
theorem raised_take (s : List UInt8) (hs : s.length = 64) : (raisedL s).take 32 = s.take 32 := by
  apply List.ext_getElem
  · simp [raised_len, hs]
  · intro j h1 h2
    have hj : j < 32 := by simp [raised_len] at h1; omega
    apply UInt8.toNat_inj.1
    rw [List.getElem_take, List.getElem_take, raised_get]
    unfold mB
    rw [if_neg (by omega), List.getD_eq_getElem?_getD, List.getElem?_eq_getElem (by omega)]
    rfl
theorem raised_le (s : List UInt8) (hs : s.length = 64) (hc : car s 32 = 0) : le ((raisedL s).drop 32) = le (s.drop 32) + LL := by
  have h := carries s 32
  rw [hc, Nat.zero_mul, Nat.add_zero] at h
  have e1 : le ((raisedL s).drop 32) = vl 256 (fun j => xS s (car s j) j % 256) 32 := by
    rw [le_vl, List.length_drop, raised_len]
    refine vl_congr fun j hj => ?_
    have hj' : 32 + j < (raisedL s).length := by rw [raised_len]; omega
    rw [List.getD_eq_getElem?_getD, List.getElem?_drop, List.getElem?_eq_getElem hj']
    show ((raisedL s)[32 + j]).toNat = _
    rw [raised_get]
    unfold mB
    rw [if_pos ⟨by omega, by omega⟩, show 32 + j - 32 = j by omega]
  have e2 : le (s.drop 32) = vl 256 (fun j => (s.getD (32 + j) 0).toNat) 32 := by
    rw [le_vl, List.length_drop, hs]
    refine vl_congr fun j hj => ?_
    rw [List.getD_eq_getElem?_getD, List.getElem?_drop, List.getD_eq_getElem?_getD]
  have e3 : LL = vl 256 (fun j => (lS.getD j 0).toNat) 32 := by
    rw [← lS_le, le_vl]
    rfl
  rw [e1, e2, h, ← e3]
theorem raised_not (k t s : List UInt8) (hs : s.length = 64) (hc : car s 32 = 0) : rightE k t (raisedL s) = false := by
  rw [Bool.eq_false_iff]
  intro h
  have h2 := ((right_iff k t _).1 h).2.1
  rw [raised_le s hs hc] at h2
  exact Nat.not_le.2 h2 (Nat.le_add_left _ _)
/-- Another byte at a place behind 32. -/
theorem turned_not {l t : List UInt8} (i : Nat) (hi : i < 32) (v : UInt8) (hv : v ≠ (sigB l t).getD (32 + i) 0) : rightE (keyB l) t ((sigB l t).set (32 + i) v) = false := by
  refine right_other Nt.prime_L base_order (right_sig base_order l t) ?_ ?_
  · rw [List.take_set, List.set_eq_of_length_le (by simp [sig_len])]
  · intro h
    have hlen : 32 + i < (sigB l t).length := by rw [sig_len]; omega
    have h2 := le_inj (by simp) h
    have h3 : (((sigB l t).set (32 + i) v).drop 32)[i]? = ((sigB l t).drop 32)[i]? := by rw [h2]
    rw [List.getElem?_drop, List.getElem?_drop, List.getElem?_set_self hlen, List.getElem?_eq_getElem hlen] at h3
    apply hv
    rw [Option.some.inj h3, List.getD_eq_getElem?_getD, List.getElem?_eq_getElem hlen]
    rfl
end Gw
end Go.Proofs.YtbojijefenfbgaaDoor

/- Walks of the program's own small functions of the hash: RotateLeft64, right, turn, spreadEarly, spreadLate, word, putWord. -/
/- Walks of the program's hash: schedule, mix, take, finish, sum, start, Of. -/
import Derived.Test.YtbojijefenfbgaaDoorProg
import Derived.Test.YtbojijefenfbgaaDoorSgU
import Derived.WalkKit
import Derived.WalkSpells
import Derived.WalkLawsBesides
import Derived.BigQuiet
import Derived.KernelRfl
import Derived.Test.YtbojijefenfbgaaDoorSgRefWalks
import Derived.StillTailTactics
namespace Go.Proofs.YtbojijefenfbgaaDoor
open Go.RowKit
namespace Hs
attribute [local go_sem] UV.u_add UV.u_mul UV.u_sub UV.u_xor UV.u_and UV.u_or UV.u_shr UV.u_shl UV.u_not UV.u_notm UV.u_wrap_un

theorem and63 (n : Int) (h1 : 1 ≤ n) (h2 : n ≤ 63) : bits .and .u64 (IntKind.u64.wrap (-n)) 63 = 64 - n := by
  rw [IntKind.wrap_u64]
  have e : (-n) % 18446744073709551616 = ((18446744073709551616 - n.toNat : Nat) : Int) := by omega
  rw [e]
  have := bits_and_u64_nat (18446744073709551616 - n.toNat) 63 (by omega) (by omega)
  rw [show ((63 : Nat) : Int) = 63 from rfl] at this
  rw [this, show (63 : Nat) = 2 ^ 6 - 1 from rfl, Nat.and_two_pow_sub_one_eq_mod]
  omega

theorem ret_u64 {a b : BitVec 64} (h : a = b) : Ending.returned (.int .u64 (un a)) = .returned (.int .u64 (un b)) := by rw [h]

set_option maxHeartbeats 400000 in
theorem rot_any (x : BitVec 64) (n : Int) (h1 : 1 ≤ n) (h2 : n ≤ 63) (w : World) :
    Calls Tryd.prog 114 #[.int .u64 (un x), .int .i64 (-n)] w fun e w' => e = .returned (.int .u64 (un (Sha.rotr x n.toNat))) ∧ w' = w := by
  have hb := and63 n h1 h2
  go_enter Tryd.func114, Tryd.ntmps114
  go_wp2
  go_ret
  exact ⟨ret_u64 (by unfold Sha.rotr; rw [show (64 - (64 - n)).toNat = n.toNat by omega, show (64 - n).toNat = 64 - n.toNat by omega, BitVec.or_comm]), rfl⟩

set_option maxHeartbeats 400000 in
theorem right_any (x : BitVec 64) (n : Int) (h1 : 1 ≤ n) (h2 : n ≤ 63) (w : World) :
    Calls Tryd.prog 110 #[.int .u64 (un x), .int .i64 n] w fun e w' => e = .returned (.int .u64 (un (Sha.rotr x n.toNat))) ∧ w' = w := by
  go_enter Tryd.func110, Tryd.ntmps110
  go_wp2_with (go_at_call 114; refine (rot_any _ _ h1 h2 _).mono ?_; rintro e w' ⟨rfl, rfl⟩)
  go_ret
  exact ⟨rfl, rfl⟩

set_option maxHeartbeats 400000 in
theorem turn_any (x : BitVec 64) (k m n : Int) (k1 : 1 ≤ k) (k2 : k ≤ 63) (m1 : 1 ≤ m) (m2 : m ≤ 63) (n1 : 1 ≤ n) (n2 : n ≤ 63) (w : World) :
    Calls Tryd.prog 88 #[.int .u64 (un x), .int .i64 k, .int .i64 m, .int .i64 n] w fun e w' => e = .returned (.int .u64 (un (Sha.rotr x k.toNat ^^^ Sha.rotr x m.toNat ^^^ Sha.rotr x n.toNat))) ∧ w' = w := by
  go_enter Tryd.func88, Tryd.ntmps88
  go_wp2_with (go_at_call 110; refine (right_any _ _ (by assumption) (by assumption) _).mono ?_; rintro e w' ⟨rfl, rfl⟩)
  go_ret
  exact ⟨rfl, rfl⟩

theorem shr7 (x : BitVec 64) : un x / (128 : Int) = un (x >>> 7) := UV.u_shr x 7
theorem shr6 (x : BitVec 64) : un x / (64 : Int) = un (x >>> 6) := UV.u_shr x 6

set_option maxHeartbeats 400000 in
theorem spreadEarly_any (x : BitVec 64) (w : World) :
    Calls Tryd.prog 109 #[.int .u64 (un x)] w fun e w' => e = .returned (.int .u64 (un (Sha.lowS x))) ∧ w' = w := by
  have hx := shr7 x
  go_enter Tryd.func109, Tryd.ntmps109
  go_wp2_with (go_at_call 110; refine (right_any _ _ (by decide) (by decide) _).mono ?_; rintro e w' ⟨rfl, rfl⟩)
  go_ret
  exact ⟨rfl, rfl⟩

set_option maxHeartbeats 400000 in
theorem spreadLate_any (x : BitVec 64) (w : World) :
    Calls Tryd.prog 108 #[.int .u64 (un x)] w fun e w' => e = .returned (.int .u64 (un (Sha.highS x))) ∧ w' = w := by
  have hx := shr6 x
  go_enter Tryd.func108, Tryd.ntmps108
  go_wp2_with (go_at_call 110; refine (right_any _ _ (by decide) (by decide) _).mono ?_; rintro e w' ⟨rfl, rfl⟩)
  go_ret
  exact ⟨rfl, rfl⟩

theorem shl_or (x : BitVec 64) (c : UInt8) : x <<< 8 ||| BitVec.ofNat 64 c.toNat = Sha.more x c := by
  apply BitVec.eq_of_toNat_eq
  have hc : c.toNat < 256 := c.toNat_lt
  have hx := x.isLt
  simp only [Sha.more, BitVec.toNat_or, BitVec.toNat_shiftLeft, BitVec.toNat_add, BitVec.toNat_mul, BitVec.toNat_ofNat]
  rw [Nat.shiftLeft_eq]
  have e1 : x.toNat * 2 ^ 8 % 2 ^ 64 = (x.toNat % 2 ^ 56) <<< 8 := by rw [Nat.shiftLeft_eq]; omega
  rw [e1, Nat.mod_eq_of_lt (show c.toNat < 2 ^ 64 by omega), ← Nat.shiftLeft_add_eq_or_of_lt (show c.toNat < 2 ^ 8 by omega), Nat.shiftLeft_eq]
  omega

/-- A slice of eight bytes and more, as a word. -/
theorem word_step (x : BitVec 64) (c : UInt8) : bits .or .u64 (IntKind.u64.wrap (un x * 256)) (IntKind.u64.wrap (c.toNat : Int)) = un (Sha.more x c) := by
  rw [show IntKind.u64.wrap (un x * 256) = un (x <<< 8) from UV.u_shl x 8, UV.u_wrap, UV.u_or, shl_or]
set_option maxHeartbeats 400000 in
theorem word_any (w : World) (b o len cap : Nat) (l : List UInt8) (hl : l.length = 8) (_hlen : len ≤ 1000) (hcap : cap ≤ 1000) (h8 : 8 ≤ cap) (hc : ∀ j (h : j < l.length), w.cell? ⟨b, o + j, none⟩ = some (.int .u8 (l[j].toNat : Int))) :
    Calls Tryd.prog 107 #[.slice (some ⟨b, o, none⟩) len cap] w fun e w' => e = .returned (.int .u64 (un (Sha.wordOf l))) ∧ w' = w := by
  have HC : Hid _ := hc
  clear hc
  go_enter Tryd.func107, Tryd.ntmps107
  go_wp2
  go_loop [3, 9] (fun x i => ∃ k : Nat, k ≤ 8 ∧ i = .int .i64 k ∧ x = .int .u64 (un (Sha.wordOf (l.take k)))) (fun _ i => 8 - (intOf i).toNat)
  case atStart => exact ⟨0, Nat.zero_le _, rfl, rfl⟩
  case round =>
    obtain ⟨k, hk, rfl, rfl⟩ := hrel
    by_cases hlt : k < 8
    · have hk' : k < l.length := by omega
      have hcell := HC.out k hk'
      have hsn : Hid (Sha.wordOf (l.take (k + 1)) = Sha.more (Sha.wordOf (l.take k)) l[k]) := by
        show _ = _
        rw [List.take_succ_eq_append_getElem hk', Sha.wordOf, List.foldl_append]; rfl
      clear hl
      generalize l[k] = c at *
      go_wp2
      exact ⟨⟨k + 1, by omega, by go_num, by rw [hsn.out, ← word_step]⟩, by simp [intOf]; omega⟩
    · obtain rfl : k = 8 := by omega
      go_wp2
      go_ret
      exact ⟨ret_u64 (by rw [List.take_of_length_le (by omega)]), rfl⟩

/-- Nothing is changed but block b. -/
structure Only (b : Nat) (w w' : World) : Prop where
  os : w'.os = w.os
  tape : w'.tape = w.tape
  output : w'.output = w.output
  size : w.heap.size ≤ w'.heap.size
  block : ∀ k, k < w.heap.size → k ≠ b → w'.heap[k]? = w.heap[k]?
theorem Only.refl (b : Nat) (w : World) : Only b w w := ⟨rfl, rfl, rfl, Nat.le_refl _, fun _ _ _ => rfl⟩
theorem Only.trans {b : Nat} {u v w : World} (h : Only b u v) (k : Only b v w) : Only b u w :=
  ⟨k.os.trans h.os, k.tape.trans h.tape, k.output.trans h.output, Nat.le_trans h.size k.size, fun i hi hb => (k.block i (Nat.lt_of_lt_of_le hi h.size) hb).trans (h.block i hi hb)⟩
theorem Only.of_below {b : Nat} {u v : World} (h : Below u.heap.size u v) : Only b u v := ⟨h.os, h.tape, h.output, h.size, fun k hk _ => h.block k hk⟩
theorem Only.below {b : Nat} {u v : World} (h : Only b u v) (B : Nat) (hB : B ≤ b) (hs : B ≤ u.heap.size) : Below B u v := ⟨h.os, h.tape, h.output, h.size, fun k hk => h.block k (by omega) (by omega)⟩
theorem Only.setCell (w : World) (b i : Nat) (v : Value) : Only b w (w.setCell ⟨b, i, none⟩ v) :=
  ⟨rfl, rfl, rfl, by simp [World.setCell], fun k _ hb => heap_setCell_other _ _ _ _ hb⟩
theorem Only.drew {b : Nat} {u v : World} (h : Only b u v) : Only b u v.drew := ⟨h.os, h.tape, h.output, h.size, h.block⟩

/-- The row f with eight bytes of a word from place o on. -/
def putF (f : Nat → Value) (o : Nat) (x : BitVec 64) (k j : Nat) : Value := if o ≤ j ∧ j < o + k then .int .u8 ((Sha.byteOf x (j - o)).toNat : Int) else f j
theorem put_step {n o k : Nat} {f : Nat → Value} {x : BitVec 64} : Own.mkRow n (fun j => if j = o + k then .int .u8 ((Sha.byteOf x k).toNat : Int) else putF f o x k j) = Own.mkRow n (putF f o x (k + 1)) := by
  refine Own.mkRow_congr (fun j hj => ?_)
  unfold putF
  by_cases e : j = o + k
  · rw [if_pos e, if_pos (by omega), show j - o = k by omega]
  · rw [if_neg e]
    by_cases h : o ≤ j ∧ j < o + k
    · rw [if_pos h, if_pos (by omega)]
    · rw [if_neg h, if_neg (by omega)]
theorem rem_byte (x : BitVec 64) (k : Nat) : un (x >>> (56 - 8 * k)) % 256 = ((Sha.byteOf x k).toNat : Int) := by
  unfold un Sha.byteOf; simp
set_option maxHeartbeats 400000 in
theorem putWord_any (w : World) (b o len cap n : Nat) (f : Nat → Value) (t : TypeId) (x : BitVec 64) (hlen : len ≤ 1000) (h8 : 8 ≤ len) (hn : o + 8 ≤ n) (_hn2 : n ≤ 1000)
    (hf : ∀ j, o ≤ j → j < o + 8 → ∃ v : Int, f j = .int .u8 v)
    (hrow : w.heap[b]? = some (.cells (Own.mkRow n f) t (0, 0))) :
    Calls Tryd.prog 63 #[.slice (some ⟨b, o, none⟩) len cap, .int .u64 (un x)] w fun e w' => e = .returned (.tuple #[]) ∧ Only b w w' ∧ w'.heap[b]? = some (.cells (Own.mkRow n (putF f o x 8)) t (0, 0)) := by
  have HR : Hid _ := hrow
  have HF : Hid _ := hf
  clear hrow hf
  go_enter Tryd.func63, Tryd.ntmps63
  go_wp2
  go_loopw [5] (fun i wr => ∃ k : Nat, k ≤ 8 ∧ i = .int .i64 k ∧ Only b w wr ∧ wr.heap[b]? = some (.cells (Own.mkRow n (putF f o x k)) t (0, 0))) (fun i _ => 8 - (intOf i).toNat)
  case atStart => exact ⟨0, Nat.zero_le _, rfl, Only.refl _ _, by rw [HR.out, Own.mkRow_congr (g := putF f o x 0) (fun j _ => by unfold putF; rw [if_neg (by omega)])]⟩
  case round =>
    obtain ⟨k, hk, rfl, ho, hr⟩ := hrel
    have HO : Hid _ := ho
    have HR2 : Hid _ := hr
    clear ho hr HR
    by_cases hlt : k < 8
    · have hz := Own.row_frozen HR2.out (o + k)
      have hc := Own.row_cell HR2.out (o + k) (by omega)
      obtain ⟨v, hv⟩ := HF.out (o + k) (by omega) (by omega)
      have hv2 : putF f o x k (o + k) = .int .u8 v := by unfold putF; rw [if_neg (by omega), hv]
      rw [hv2] at hc
      clear hv hv2
      go_wp2
      exact ⟨⟨k + 1, by omega, by go_num, HO.out.trans (Only.setCell _ _ _ _), by rw [Own.row_store HR2.out, rem_byte, put_step]⟩, by simp [intOf]; omega⟩
    · obtain rfl : k = 8 := by omega
      go_wp2
      go_end0
      exact ⟨rfl, HO.out, HR2.out⟩
end Hs
end Go.Proofs.YtbojijefenfbgaaDoor
namespace Go.Proofs.YtbojijefenfbgaaDoor
open Go.RowKit
namespace Hs
attribute [local go_sem] UV.u_add UV.u_mul UV.u_sub UV.u_xor UV.u_and UV.u_or UV.u_shr UV.u_shl UV.u_not UV.u_notm UV.u_wrap_un

def stF (s : Sha.St) (bs : Nat → UInt8) (m : Nat) (j : Nat) : Value :=
  if j < 8 then .int .u64 (un (s.list.getD j 0#64)) else if j < 136 then .int .u8 ((bs (j - 8)).toNat : Int) else .int .i64 (m : Int)
def StateAt (w : World) (b : Nat) (s : Sha.St) (bs : Nat → UInt8) (m : Nat) : Prop := w.heap[b]? = some (.cells (Own.mkRow 137 (stF s bs m)) 69 (0, 0))
theorem st_word {w : World} {b : Nat} {s : Sha.St} {bs : Nat → UInt8} {m : Nat} (h : StateAt w b s bs m) (j : Nat) (hj : j < 8) : w.cell? ⟨b, j, none⟩ = some (.int .u64 (un (s.list[j]?.getD 0#64))) := by
  rw [Own.row_cell h j (by omega)]; unfold stF; rw [if_pos hj, List.getD_eq_getElem?_getD]
theorem st_byte {w : World} {b : Nat} {s : Sha.St} {bs : Nat → UInt8} {m : Nat} (h : StateAt w b s bs m) (j : Nat) (hj : j < 128) : w.cell? ⟨b, 8 + j, none⟩ = some (.int .u8 ((bs j).toNat : Int)) := by
  rw [Own.row_cell h (8 + j) (by omega)]; unfold stF; rw [if_neg (by omega), if_pos (by omega), show 8 + j - 8 = j by omega]
theorem st_filled {w : World} {b : Nat} {s : Sha.St} {bs : Nat → UInt8} {m : Nat} (h : StateAt w b s bs m) : w.cell? ⟨b, 136, none⟩ = some (.int .i64 (m : Int)) := by
  rw [Own.row_cell h 136 (by omega)]; unfold stF; rw [if_neg (by omega), if_neg (by omega)]
theorem st_frozen {w : World} {b : Nat} {s : Sha.St} {bs : Nat → UInt8} {m : Nat} (h : StateAt w b s bs m) (j : Nat) : w.frozen? ⟨b, j, none⟩ = false := Own.row_frozen h j
theorem st_lt {w : World} {b : Nat} {s : Sha.St} {bs : Nat → UInt8} {m : Nat} (h : StateAt w b s bs m) : b < w.heap.size := (Array.getElem?_eq_some_iff.1 h).1

def eight (bs : Nat → UInt8) (p : Nat) : List UInt8 := [bs p, bs (p + 1), bs (p + 2), bs (p + 3), bs (p + 4), bs (p + 5), bs (p + 6), bs (p + 7)]
theorem eight_get (bs : Nat → UInt8) (p j : Nat) (h : j < (eight bs p).length) : (eight bs p)[j] = bs (p + j) := by
  have h' : j < 8 := h
  rcases j with _ | _ | _ | _ | _ | _ | _ | _ | j
  all_goals first | rfl | omega
def blkOf (bs : Nat → UInt8) (j : Nat) : BitVec 64 := Sha.wordOf (eight bs (8 * j))

def wCell (b : Nat → BitVec 64) (k j : Nat) : Value := if j < k then .int .u64 (un (Sha.W b j)) else .int .u64 0
theorem wRow_step (b : Nat → BitVec 64) (k : Nat) (v : Value) (hv : v = .int .u64 (un (Sha.W b k))) : Own.mkRow 80 (fun j => if j = k then v else wCell b k j) = Own.mkRow 80 (wCell b (k + 1)) := by
  refine Own.mkRow_congr (fun j hj => ?_)
  by_cases e : j = k
  · rw [if_pos e, hv, e]; unfold wCell; rw [if_pos (by omega)]
  · rw [if_neg e]; unfold wCell
    by_cases h : j < k
    · rw [if_pos h, if_pos (by omega)]
    · rw [if_neg h, if_neg (by omega)]
theorem wCell_lt (b : Nat → BitVec 64) (k j : Nat) (h : j < k) : wCell b k j = .int .u64 (un (Sha.W b j)) := by unfold wCell; rw [if_pos h]
theorem wCell_ge (b : Nat → BitVec 64) (k j : Nat) (h : k ≤ j) : wCell b k j = .int .u64 0 := by unfold wCell; rw [if_neg (by omega)]

theorem Below.setRow_new (w : World) (g : Nat) (cs : Array Value) : Below g w (w.setRow g cs) :=
  ⟨rfl, rfl, rfl, by simp [World.setRow], fun k hk => by show (Array.modify _ _ _)[k]? = _; rw [Array.getElem?_modify, if_neg (by omega)]⟩
theorem slice128 (W : World) (b o l : Nat) (L : Int) (hL : L = (l : Int)) (hl : l < 128) :
    Sem.run Tryd.prog (Instr.sliceAt 67 (.pointer (some ⟨b, o, none⟩)) (some (.int .i64 L)) none none) W = .ok (.slice (some ⟨b, o + l, none⟩) (128 - l) (128 - l)) W := by
  subst hL
  have e1 : Tryd.prog.arrayLen 67 = 128 := by kernel_rfl
  have e2 : Tryd.prog.elem 67 = 5 := by kernel_rfl
  have h := run_sliceAt_array_l (P := Tryd.prog) W 67 ⟨b, o, none⟩ (by kernel_rfl) .i64 (l : Int) (by omega) (by rw [e1]; omega)
  obtain ⟨i, hi, _, hz1, _⟩ := info_parts info_u8
  rw [h, e1, e2]
  simp [sizeOf, typeInfo, hi, hz1, slicedAt, Result.andThen, Addr.add_mid]
  omega

set_option maxHeartbeats 1000000 in
set_option maxRecDepth 100000 in
theorem schedule_any (w : World) (b : Nat) (s : Sha.St) (bs : Nat → UInt8) (m : Nat) (hst : StateAt w b s bs m) :
    Calls Tryd.prog 87 #[.pointer (some ⟨b, 0, none⟩)] w fun e w' => e = .returned (.agg (Own.mkRow 80 (wCell (blkOf bs) 80))) ∧ Below w.heap.size w w' := by
  have HS : Hid _ := hst
  have hbl := st_lt hst
  clear hst
  go_enter Tryd.func87, Tryd.ntmps87
  go_wp2_with (first
    | refine Own.wpList_alloc_at _ rfl 47 rfl (Own.zeros 80 (.int .u64 0)) (by kernel_rfl) ?_)
  go_loopw [6] (fun i wr => ∃ k : Nat, k ≤ 16 ∧ i = .int .i64 (k : Int) ∧ Below (w.heap.size + 1) (w.alloc (.cells (Own.zeros 80 (.int .u64 0)) 47)) wr ∧ wr.heap[w.heap.size + 1]? = some (.cells (Own.mkRow 80 (wCell (blkOf bs) k)) 47 (0, 0))) (fun i _ => 16 - (intOf i).toNat)
  case atStart =>
    exact ⟨0, by omega, rfl, (Below.refl _ _).alloc (by simp) _, by
      have := heap_alloc_new (w.alloc (.cells (Own.zeros 80 (.int .u64 0)) 47)) (.cells (Own.zeros 80 (.int .u64 0)) 47)
      simp only [World.size_alloc] at this
      rw [this]; rfl⟩
  case round =>
    obtain ⟨k, hk, rfl, hb2, hr2⟩ := hrel
    have HB2 : Hid _ := hb2
    have HR2 : Hid _ := hr2
    clear hb2 hr2
    have HS2 : Hid (StateAt wr b s bs m) := ((HB2.out.block b (by omega)).trans (Below.heap_alloc _ _ _ hbl)).trans HS.out
    by_cases hk16 : k < 16
    · have hfz := Own.row_frozen HR2.out k
      have hck := Own.row_cell HR2.out k (by omega)
      rw [wCell_ge _ _ _ (Nat.le_refl _)] at hck
      have hsl := fun W => slice128 W b 8 (8 * k) (8 * (k : Int)) (by omega) (by omega)
      go_wp2_with (first
        | (go_at_call 107; refine (word_any _ _ _ _ _ (eight bs (8 * k)) rfl (by omega) (by omega) (by omega) (fun j hj => by rw [eight_get, Nat.add_assoc]; exact st_byte HS2.out _ (by have : j < 8 := hj; omega))).mono ?_; rintro e w' ⟨rfl, rfl⟩))
      exact ⟨⟨k + 1, by omega, by go_num, HB2.out.setCell (Nat.le_refl _) _, by rw [Own.row_store HR2.out, wRow_step _ k _ (by rw [Sha.W_low _ _ hk16]; rfl)]⟩, by simp [intOf]; omega⟩
    · obtain rfl : k = 16 := by omega
      go_wp2_with fail
      go_loopw [5] (fun i wq => ∃ k : Nat, 16 ≤ k ∧ k ≤ 80 ∧ i = .int .i64 (k : Int) ∧ Below (w.heap.size + 1) (w.alloc (.cells (Own.zeros 80 (.int .u64 0)) 47)) wq ∧ wq.heap[w.heap.size + 1]? = some (.cells (Own.mkRow 80 (wCell (blkOf bs) k)) 47 (0, 0))) (fun i _ => 80 - (intOf i).toNat)
      case atStart => exact ⟨16, by omega, by omega, rfl, HB2.out, HR2.out⟩
      case round =>
        clear HB2 HR2 HS2 hk16 hk
        rename World => wc
        obtain ⟨k, hk16, hk, rfl, hb2, hr2⟩ := hrel
        have HB2 : Hid _ := hb2
        have HR2 : Hid _ := hr2
        clear hb2 hr2
        by_cases hk80 : k < 80
        · have hfz := Own.row_frozen HR2.out k
          have hck := Own.row_cell HR2.out k (by omega)
          rw [wCell_ge _ _ _ (Nat.le_refl _)] at hck
          have hr15 := Own.row_cell HR2.out (k - 15) (by omega)
          rw [wCell_lt _ k (k - 15) (by omega)] at hr15
          have hr2 := Own.row_cell HR2.out (k - 2) (by omega)
          rw [wCell_lt _ k (k - 2) (by omega)] at hr2
          have hr7 := Own.row_cell HR2.out (k - 7) (by omega)
          rw [wCell_lt _ k (k - 7) (by omega)] at hr7
          have hr16 := Own.row_cell HR2.out (k - 16) (by omega)
          rw [wCell_lt _ k (k - 16) (by omega)] at hr16
          have hw2 : IntKind.i64.wrap ((k : Int) - 2) = (k : Int) - 2 := IntWalk.i64_in _ (by omega)
          have hw7 : IntKind.i64.wrap ((k : Int) - 7) = (k : Int) - 7 := IntWalk.i64_in _ (by omega)
          have hw15 : IntKind.i64.wrap ((k : Int) - 15) = (k : Int) - 15 := IntWalk.i64_in _ (by omega)
          have hw16 : IntKind.i64.wrap ((k : Int) - 16) = (k : Int) - 16 := IntWalk.i64_in _ (by omega)
          have ht2 : ((k : Int) - 2).toNat = k - 2 := by omega
          have ht7 : ((k : Int) - 7).toNat = k - 7 := by omega
          have ht15 : ((k : Int) - 15).toNat = k - 15 := by omega
          have ht16 : ((k : Int) - 16).toNat = k - 16 := by omega
          have hi2 : (2 : Int) ≤ (k : Int) := by omega
          have hj2 : (k : Int) - 2 < 80 := by omega
          have hi7 : (7 : Int) ≤ (k : Int) := by omega
          have hj7 : (k : Int) - 7 < 80 := by omega
          have hi15 : (15 : Int) ≤ (k : Int) := by omega
          have hj15 : (k : Int) - 15 < 80 := by omega
          have hi16 : (16 : Int) ≤ (k : Int) := by omega
          have hj16 : (k : Int) - 16 < 80 := by omega
          go_wp2_with fail
          refine wp_region_still_tail 23 (by kernel_rfl) (by kernel_rfl) ?_
          simp only [List.take_succ_cons, List.take_zero, List.drop_succ_cons, List.drop_zero]
          repeat (first | still_step | still_call (spreadLate_any _ _) | still_call (spreadEarly_any _ _))
          refine wpStill_nil ?_
          go_wp2_with fail
          go_roundw
          case rel =>
            (repeat apply Exists.intro)
            refine ⟨⟨k + 1, by omega, by omega, by go_num, ?_, ?_⟩, rfl⟩
            · first | exact (HB2.out.setCell (Nat.le_refl _) _).drew | exact HB2.out.drew.setCell (Nat.le_refl _) _
            · first | rw [heap_drew, Own.row_store HR2.out, wRow_step _ k _ (by rw [Sha.W_high _ _ hk16])] | rw [Own.row_store (w := wc.drew) HR2.out, wRow_step _ k _ (by rw [Sha.W_high _ _ hk16])]
          case measure => simp [intOf]; omega
        · obtain rfl : k = 80 := by omega
          go_wp2_with (first
            | refine wpList_load_row rfl 47 _ rfl (w.heap.size + 1) rfl 47 (Own.mkRow 80 (wCell (blkOf bs) 80)) (0, 0) _ HR2.out Tryd.underlying47 rfl (by kernel_rfl) ?_
            | refine wpList_store_row rfl 47 _ _ rfl w.heap.size (Own.mkRow 80 (wCell (blkOf bs) 80)) rfl rfl 47 (Own.zeros 80 (.int .u64 0)) ((HB2.out.block _ (by omega)).trans (heap_alloc_new _ _)) (by kernel_rfl) (by kernel_rfl) (Own.all_one fun j hj => by rw [wCell_lt _ _ _ hj]; rfl) ?_)
          refine Own.ret_row Tryd.results87 rfl w.heap.size 47 _ (0, 0) _ rfl (setRow_heap _ _ _ _ _ _ ((HB2.out.block _ (by omega)).trans (heap_alloc_new _ _))) Tryd.underlying47 rfl (by kernel_rfl) ⟨rfl, ?_⟩
          exact (((Below.refl _ _).alloc (Nat.le_refl _) _).trans (HB2.out.mono (by omega))).trans (Below.setRow_new _ _ _)
end Hs
end Go.Proofs.YtbojijefenfbgaaDoor

/- Walks of the program's own small functions of the hash: RotateLeft64, right, turn, spreadEarly, spreadLate, word, putWord. -/
/- Walks of the program's hash: schedule, mix, take, finish, sum, start, Of. -/
/- Walk of the program's hash: mix. -/
/- Plain mathematics of taking a text block by block. -/
import Derived.Test.YtbojijefenfbgaaGreatDoorProg
import Derived.Test.YtbojijefenfbgaaGreatDoorTkU
import Derived.Test.YtbojijefenfbgaaGreatDoorTkDocL
import Derived.WalkKit
import Derived.WalkSpells
import Derived.WalkLawsBesides
import Derived.BigQuiet
import Derived.KernelRfl
import Derived.StillTailTactics
namespace Go.Proofs.YtbojijefenfbgaaGreatDoor
open Go.RowKit
namespace Hs
attribute [local go_sem] UV.u_add UV.u_mul UV.u_sub UV.u_xor UV.u_and UV.u_or UV.u_shr UV.u_shl UV.u_not UV.u_notm UV.u_wrap_un

theorem and63 (n : Int) (h1 : 1 ≤ n) (h2 : n ≤ 63) : bits .and .u64 (IntKind.u64.wrap (-n)) 63 = 64 - n := by
  rw [IntKind.wrap_u64]
  have e : (-n) % 18446744073709551616 = ((18446744073709551616 - n.toNat : Nat) : Int) := by omega
  rw [e]
  have := bits_and_u64_nat (18446744073709551616 - n.toNat) 63 (by omega) (by omega)
  rw [show ((63 : Nat) : Int) = 63 from rfl] at this
  rw [this, show (63 : Nat) = 2 ^ 6 - 1 from rfl, Nat.and_two_pow_sub_one_eq_mod]
  omega

theorem ret_u64 {a b : BitVec 64} (h : a = b) : Ending.returned (.int .u64 (un a)) = .returned (.int .u64 (un b)) := by rw [h]

set_option maxHeartbeats 400000 in
theorem rot_any (x : BitVec 64) (n : Int) (h1 : 1 ≤ n) (h2 : n ≤ 63) (w : World) :
    Calls Tryz.prog 296 #[.int .u64 (un x), .int .i64 (-n)] w fun e w' => e = .returned (.int .u64 (un (Sha.rotr x n.toNat))) ∧ w' = w := by
  have hb := and63 n h1 h2
  go_enter Tryz.func296, Tryz.ntmps296
  go_wp2
  go_ret
  exact ⟨ret_u64 (by unfold Sha.rotr; rw [show (64 - (64 - n)).toNat = n.toNat by omega, show (64 - n).toNat = 64 - n.toNat by omega, BitVec.or_comm]), rfl⟩

set_option maxHeartbeats 400000 in
theorem right_any (x : BitVec 64) (n : Int) (h1 : 1 ≤ n) (h2 : n ≤ 63) (w : World) :
    Calls Tryz.prog 291 #[.int .u64 (un x), .int .i64 n] w fun e w' => e = .returned (.int .u64 (un (Sha.rotr x n.toNat))) ∧ w' = w := by
  go_enter Tryz.func291, Tryz.ntmps291
  go_wp2_with (go_at_call 296; refine (rot_any _ _ h1 h2 _).mono ?_; rintro e w' ⟨rfl, rfl⟩)
  go_ret
  exact ⟨rfl, rfl⟩

set_option maxHeartbeats 400000 in
theorem turn_any (x : BitVec 64) (k m n : Int) (k1 : 1 ≤ k) (k2 : k ≤ 63) (m1 : 1 ≤ m) (m2 : m ≤ 63) (n1 : 1 ≤ n) (n2 : n ≤ 63) (w : World) :
    Calls Tryz.prog 272 #[.int .u64 (un x), .int .i64 k, .int .i64 m, .int .i64 n] w fun e w' => e = .returned (.int .u64 (un (Sha.rotr x k.toNat ^^^ Sha.rotr x m.toNat ^^^ Sha.rotr x n.toNat))) ∧ w' = w := by
  go_enter Tryz.func272, Tryz.ntmps272
  go_wp2_with (go_at_call 291; refine (right_any _ _ (by assumption) (by assumption) _).mono ?_; rintro e w' ⟨rfl, rfl⟩)
  go_ret
  exact ⟨rfl, rfl⟩

theorem shr7 (x : BitVec 64) : un x / (128 : Int) = un (x >>> 7) := UV.u_shr x 7
theorem shr6 (x : BitVec 64) : un x / (64 : Int) = un (x >>> 6) := UV.u_shr x 6

set_option maxHeartbeats 400000 in
theorem spreadEarly_any (x : BitVec 64) (w : World) :
    Calls Tryz.prog 290 #[.int .u64 (un x)] w fun e w' => e = .returned (.int .u64 (un (Sha.lowS x))) ∧ w' = w := by
  have hx := shr7 x
  go_enter Tryz.func290, Tryz.ntmps290
  go_wp2_with (go_at_call 291; refine (right_any _ _ (by decide) (by decide) _).mono ?_; rintro e w' ⟨rfl, rfl⟩)
  go_ret
  exact ⟨rfl, rfl⟩

set_option maxHeartbeats 400000 in
theorem spreadLate_any (x : BitVec 64) (w : World) :
    Calls Tryz.prog 289 #[.int .u64 (un x)] w fun e w' => e = .returned (.int .u64 (un (Sha.highS x))) ∧ w' = w := by
  have hx := shr6 x
  go_enter Tryz.func289, Tryz.ntmps289
  go_wp2_with (go_at_call 291; refine (right_any _ _ (by decide) (by decide) _).mono ?_; rintro e w' ⟨rfl, rfl⟩)
  go_ret
  exact ⟨rfl, rfl⟩

theorem shl_or (x : BitVec 64) (c : UInt8) : x <<< 8 ||| BitVec.ofNat 64 c.toNat = Sha.more x c := by
  apply BitVec.eq_of_toNat_eq
  have hc : c.toNat < 256 := c.toNat_lt
  have hx := x.isLt
  simp only [Sha.more, BitVec.toNat_or, BitVec.toNat_shiftLeft, BitVec.toNat_add, BitVec.toNat_mul, BitVec.toNat_ofNat]
  rw [Nat.shiftLeft_eq]
  have e1 : x.toNat * 2 ^ 8 % 2 ^ 64 = (x.toNat % 2 ^ 56) <<< 8 := by rw [Nat.shiftLeft_eq]; omega
  rw [e1, Nat.mod_eq_of_lt (show c.toNat < 2 ^ 64 by omega), ← Nat.shiftLeft_add_eq_or_of_lt (show c.toNat < 2 ^ 8 by omega), Nat.shiftLeft_eq]
  omega

/-- A slice of eight bytes and more, as a word. -/
theorem word_step (x : BitVec 64) (c : UInt8) : bits .or .u64 (IntKind.u64.wrap (un x * 256)) (IntKind.u64.wrap (c.toNat : Int)) = un (Sha.more x c) := by
  rw [show IntKind.u64.wrap (un x * 256) = un (x <<< 8) from UV.u_shl x 8, UV.u_wrap, UV.u_or, shl_or]
set_option maxHeartbeats 400000 in
theorem word_any (w : World) (b o len cap : Nat) (l : List UInt8) (hl : l.length = 8) (_hlen : len ≤ 1000) (hcap : cap ≤ 1000) (h8 : 8 ≤ cap) (hc : ∀ j (h : j < l.length), w.cell? ⟨b, o + j, none⟩ = some (.int .u8 (l[j].toNat : Int))) :
    Calls Tryz.prog 288 #[.slice (some ⟨b, o, none⟩) len cap] w fun e w' => e = .returned (.int .u64 (un (Sha.wordOf l))) ∧ w' = w := by
  have HC : Hid _ := hc
  clear hc
  go_enter Tryz.func288, Tryz.ntmps288
  go_wp2
  go_loop [3, 9] (fun x i => ∃ k : Nat, k ≤ 8 ∧ i = .int .i64 k ∧ x = .int .u64 (un (Sha.wordOf (l.take k)))) (fun _ i => 8 - (intOf i).toNat)
  case atStart => exact ⟨0, Nat.zero_le _, rfl, rfl⟩
  case round =>
    obtain ⟨k, hk, rfl, rfl⟩ := hrel
    by_cases hlt : k < 8
    · have hk' : k < l.length := by omega
      have hcell := HC.out k hk'
      have hsn : Hid (Sha.wordOf (l.take (k + 1)) = Sha.more (Sha.wordOf (l.take k)) l[k]) := by
        show _ = _
        rw [List.take_succ_eq_append_getElem hk', Sha.wordOf, List.foldl_append]; rfl
      clear hl
      generalize l[k] = c at *
      go_wp2
      exact ⟨⟨k + 1, by omega, by go_num, by rw [hsn.out, ← word_step]⟩, by simp [intOf]; omega⟩
    · obtain rfl : k = 8 := by omega
      go_wp2
      go_ret
      exact ⟨ret_u64 (by rw [List.take_of_length_le (by omega)]), rfl⟩

/-- Nothing is changed but block b. -/
structure Only (b : Nat) (w w' : World) : Prop where
  os : w'.os = w.os
  tape : w'.tape = w.tape
  output : w'.output = w.output
  size : w.heap.size ≤ w'.heap.size
  block : ∀ k, k < w.heap.size → k ≠ b → w'.heap[k]? = w.heap[k]?
theorem Only.refl (b : Nat) (w : World) : Only b w w := ⟨rfl, rfl, rfl, Nat.le_refl _, fun _ _ _ => rfl⟩
theorem Only.trans {b : Nat} {u v w : World} (h : Only b u v) (k : Only b v w) : Only b u w :=
  ⟨k.os.trans h.os, k.tape.trans h.tape, k.output.trans h.output, Nat.le_trans h.size k.size, fun i hi hb => (k.block i (Nat.lt_of_lt_of_le hi h.size) hb).trans (h.block i hi hb)⟩
theorem Only.of_below {b : Nat} {u v : World} (h : Below u.heap.size u v) : Only b u v := ⟨h.os, h.tape, h.output, h.size, fun k hk _ => h.block k hk⟩
theorem Only.below {b : Nat} {u v : World} (h : Only b u v) (B : Nat) (hB : B ≤ b) (hs : B ≤ u.heap.size) : Below B u v := ⟨h.os, h.tape, h.output, h.size, fun k hk => h.block k (by omega) (by omega)⟩
theorem Only.setCell (w : World) (b i : Nat) (v : Value) : Only b w (w.setCell ⟨b, i, none⟩ v) :=
  ⟨rfl, rfl, rfl, by simp [World.setCell], fun k _ hb => heap_setCell_other _ _ _ _ hb⟩
theorem Only.drew {b : Nat} {u v : World} (h : Only b u v) : Only b u v.drew := ⟨h.os, h.tape, h.output, h.size, h.block⟩

/-- The row f with eight bytes of a word from place o on. -/
def putF (f : Nat → Value) (o : Nat) (x : BitVec 64) (k j : Nat) : Value := if o ≤ j ∧ j < o + k then .int .u8 ((Sha.byteOf x (j - o)).toNat : Int) else f j
theorem put_step {n o k : Nat} {f : Nat → Value} {x : BitVec 64} : Own.mkRow n (fun j => if j = o + k then .int .u8 ((Sha.byteOf x k).toNat : Int) else putF f o x k j) = Own.mkRow n (putF f o x (k + 1)) := by
  refine Own.mkRow_congr (fun j hj => ?_)
  unfold putF
  by_cases e : j = o + k
  · rw [if_pos e, if_pos (by omega), show j - o = k by omega]
  · rw [if_neg e]
    by_cases h : o ≤ j ∧ j < o + k
    · rw [if_pos h, if_pos (by omega)]
    · rw [if_neg h, if_neg (by omega)]
theorem rem_byte (x : BitVec 64) (k : Nat) : un (x >>> (56 - 8 * k)) % 256 = ((Sha.byteOf x k).toNat : Int) := by
  unfold un Sha.byteOf; simp
set_option maxHeartbeats 400000 in
theorem putWord_any (w : World) (b o len cap n : Nat) (f : Nat → Value) (t : TypeId) (x : BitVec 64) (hlen : len ≤ 1000) (h8 : 8 ≤ len) (hn : o + 8 ≤ n) (_hn2 : n ≤ 1000)
    (hf : ∀ j, o ≤ j → j < o + 8 → ∃ v : Int, f j = .int .u8 v)
    (hrow : w.heap[b]? = some (.cells (Own.mkRow n f) t (0, 0))) :
    Calls Tryz.prog 237 #[.slice (some ⟨b, o, none⟩) len cap, .int .u64 (un x)] w fun e w' => e = .returned (.tuple #[]) ∧ Only b w w' ∧ w'.heap[b]? = some (.cells (Own.mkRow n (putF f o x 8)) t (0, 0)) := by
  have HR : Hid _ := hrow
  have HF : Hid _ := hf
  clear hrow hf
  go_enter Tryz.func237, Tryz.ntmps237
  go_wp2
  go_loopw [5] (fun i wr => ∃ k : Nat, k ≤ 8 ∧ i = .int .i64 k ∧ Only b w wr ∧ wr.heap[b]? = some (.cells (Own.mkRow n (putF f o x k)) t (0, 0))) (fun i _ => 8 - (intOf i).toNat)
  case atStart => exact ⟨0, Nat.zero_le _, rfl, Only.refl _ _, by rw [HR.out, Own.mkRow_congr (g := putF f o x 0) (fun j _ => by unfold putF; rw [if_neg (by omega)])]⟩
  case round =>
    obtain ⟨k, hk, rfl, ho, hr⟩ := hrel
    have HO : Hid _ := ho
    have HR2 : Hid _ := hr
    clear ho hr HR
    by_cases hlt : k < 8
    · have hz := Own.row_frozen HR2.out (o + k)
      have hc := Own.row_cell HR2.out (o + k) (by omega)
      obtain ⟨v, hv⟩ := HF.out (o + k) (by omega) (by omega)
      have hv2 : putF f o x k (o + k) = .int .u8 v := by unfold putF; rw [if_neg (by omega), hv]
      rw [hv2] at hc
      clear hv hv2
      go_wp2
      exact ⟨⟨k + 1, by omega, by go_num, HO.out.trans (Only.setCell _ _ _ _), by rw [Own.row_store HR2.out, rem_byte, put_step]⟩, by simp [intOf]; omega⟩
    · obtain rfl : k = 8 := by omega
      go_wp2
      go_end0
      exact ⟨rfl, HO.out, HR2.out⟩
end Hs
end Go.Proofs.YtbojijefenfbgaaGreatDoor
namespace Go.Proofs.YtbojijefenfbgaaGreatDoor
open Go.RowKit
namespace Hs
attribute [local go_sem] UV.u_add UV.u_mul UV.u_sub UV.u_xor UV.u_and UV.u_or UV.u_shr UV.u_shl UV.u_not UV.u_notm UV.u_wrap_un

def stF (s : Sha.St) (bs : Nat → UInt8) (m : Nat) (j : Nat) : Value :=
  if j < 8 then .int .u64 (un (s.list.getD j 0#64)) else if j < 136 then .int .u8 ((bs (j - 8)).toNat : Int) else .int .i64 (m : Int)
def StateAt (w : World) (b : Nat) (s : Sha.St) (bs : Nat → UInt8) (m : Nat) : Prop := w.heap[b]? = some (.cells (Own.mkRow 137 (stF s bs m)) 270 (0, 0))
theorem st_word {w : World} {b : Nat} {s : Sha.St} {bs : Nat → UInt8} {m : Nat} (h : StateAt w b s bs m) (j : Nat) (hj : j < 8) : w.cell? ⟨b, j, none⟩ = some (.int .u64 (un (s.list[j]?.getD 0#64))) := by
  rw [Own.row_cell h j (by omega)]; unfold stF; rw [if_pos hj, List.getD_eq_getElem?_getD]
theorem st_byte {w : World} {b : Nat} {s : Sha.St} {bs : Nat → UInt8} {m : Nat} (h : StateAt w b s bs m) (j : Nat) (hj : j < 128) : w.cell? ⟨b, 8 + j, none⟩ = some (.int .u8 ((bs j).toNat : Int)) := by
  rw [Own.row_cell h (8 + j) (by omega)]; unfold stF; rw [if_neg (by omega), if_pos (by omega), show 8 + j - 8 = j by omega]
theorem st_filled {w : World} {b : Nat} {s : Sha.St} {bs : Nat → UInt8} {m : Nat} (h : StateAt w b s bs m) : w.cell? ⟨b, 136, none⟩ = some (.int .i64 (m : Int)) := by
  rw [Own.row_cell h 136 (by omega)]; unfold stF; rw [if_neg (by omega), if_neg (by omega)]
theorem st_frozen {w : World} {b : Nat} {s : Sha.St} {bs : Nat → UInt8} {m : Nat} (h : StateAt w b s bs m) (j : Nat) : w.frozen? ⟨b, j, none⟩ = false := Own.row_frozen h j
theorem st_lt {w : World} {b : Nat} {s : Sha.St} {bs : Nat → UInt8} {m : Nat} (h : StateAt w b s bs m) : b < w.heap.size := (Array.getElem?_eq_some_iff.1 h).1

def eight (bs : Nat → UInt8) (p : Nat) : List UInt8 := [bs p, bs (p + 1), bs (p + 2), bs (p + 3), bs (p + 4), bs (p + 5), bs (p + 6), bs (p + 7)]
theorem eight_get (bs : Nat → UInt8) (p j : Nat) (h : j < (eight bs p).length) : (eight bs p)[j] = bs (p + j) := by
  have h' : j < 8 := h
  rcases j with _ | _ | _ | _ | _ | _ | _ | _ | j
  all_goals first | rfl | omega
def blkOf (bs : Nat → UInt8) (j : Nat) : BitVec 64 := Sha.wordOf (eight bs (8 * j))

def wCell (b : Nat → BitVec 64) (k j : Nat) : Value := if j < k then .int .u64 (un (Sha.W b j)) else .int .u64 0
theorem wRow_step (b : Nat → BitVec 64) (k : Nat) (v : Value) (hv : v = .int .u64 (un (Sha.W b k))) : Own.mkRow 80 (fun j => if j = k then v else wCell b k j) = Own.mkRow 80 (wCell b (k + 1)) := by
  refine Own.mkRow_congr (fun j hj => ?_)
  by_cases e : j = k
  · rw [if_pos e, hv, e]; unfold wCell; rw [if_pos (by omega)]
  · rw [if_neg e]; unfold wCell
    by_cases h : j < k
    · rw [if_pos h, if_pos (by omega)]
    · rw [if_neg h, if_neg (by omega)]
theorem wCell_lt (b : Nat → BitVec 64) (k j : Nat) (h : j < k) : wCell b k j = .int .u64 (un (Sha.W b j)) := by unfold wCell; rw [if_pos h]
theorem wCell_ge (b : Nat → BitVec 64) (k j : Nat) (h : k ≤ j) : wCell b k j = .int .u64 0 := by unfold wCell; rw [if_neg (by omega)]

theorem Below.setRow_new (w : World) (g : Nat) (cs : Array Value) : Below g w (w.setRow g cs) :=
  ⟨rfl, rfl, rfl, by simp [World.setRow], fun k hk => by show (Array.modify _ _ _)[k]? = _; rw [Array.getElem?_modify, if_neg (by omega)]⟩
theorem slice128 (W : World) (b o l : Nat) (L : Int) (hL : L = (l : Int)) (hl : l < 128) :
    Sem.run Tryz.prog (Instr.sliceAt 268 (.pointer (some ⟨b, o, none⟩)) (some (.int .i64 L)) none none) W = .ok (.slice (some ⟨b, o + l, none⟩) (128 - l) (128 - l)) W := by
  subst hL
  have e1 : Tryz.prog.arrayLen 268 = 128 := by kernel_rfl
  have e2 : Tryz.prog.elem 268 = 5 := by kernel_rfl
  have h := run_sliceAt_array_l (P := Tryz.prog) W 268 ⟨b, o, none⟩ (by kernel_rfl) .i64 (l : Int) (by omega) (by rw [e1]; omega)
  obtain ⟨i, hi, _, hz1, _⟩ := info_parts info_u8
  rw [h, e1, e2]
  simp [sizeOf, typeInfo, hi, hz1, slicedAt, Result.andThen, Addr.add_mid]
  omega

set_option maxHeartbeats 1000000 in
set_option maxRecDepth 100000 in
theorem schedule_any (w : World) (b : Nat) (s : Sha.St) (bs : Nat → UInt8) (m : Nat) (hst : StateAt w b s bs m) :
    Calls Tryz.prog 271 #[.pointer (some ⟨b, 0, none⟩)] w fun e w' => e = .returned (.agg (Own.mkRow 80 (wCell (blkOf bs) 80))) ∧ Below w.heap.size w w' := by
  have HS : Hid _ := hst
  have hbl := st_lt hst
  clear hst
  go_enter Tryz.func271, Tryz.ntmps271
  go_wp2_with (first
    | refine Own.wpList_alloc_at _ rfl 179 rfl (Own.zeros 80 (.int .u64 0)) (by kernel_rfl) ?_)
  go_loopw [6] (fun i wr => ∃ k : Nat, k ≤ 16 ∧ i = .int .i64 (k : Int) ∧ Below (w.heap.size + 1) (w.alloc (.cells (Own.zeros 80 (.int .u64 0)) 179)) wr ∧ wr.heap[w.heap.size + 1]? = some (.cells (Own.mkRow 80 (wCell (blkOf bs) k)) 179 (0, 0))) (fun i _ => 16 - (intOf i).toNat)
  case atStart =>
    exact ⟨0, by omega, rfl, (Below.refl _ _).alloc (by simp) _, by
      have := heap_alloc_new (w.alloc (.cells (Own.zeros 80 (.int .u64 0)) 179)) (.cells (Own.zeros 80 (.int .u64 0)) 179)
      simp only [World.size_alloc] at this
      rw [this]; rfl⟩
  case round =>
    obtain ⟨k, hk, rfl, hb2, hr2⟩ := hrel
    have HB2 : Hid _ := hb2
    have HR2 : Hid _ := hr2
    clear hb2 hr2
    have HS2 : Hid (StateAt wr b s bs m) := ((HB2.out.block b (by omega)).trans (Below.heap_alloc _ _ _ hbl)).trans HS.out
    by_cases hk16 : k < 16
    · have hfz := Own.row_frozen HR2.out k
      have hck := Own.row_cell HR2.out k (by omega)
      rw [wCell_ge _ _ _ (Nat.le_refl _)] at hck
      have hsl := fun W => slice128 W b 8 (8 * k) (8 * (k : Int)) (by omega) (by omega)
      go_wp2_with (first
        | (go_at_call 288; refine (word_any _ _ _ _ _ (eight bs (8 * k)) rfl (by omega) (by omega) (by omega) (fun j hj => by rw [eight_get, Nat.add_assoc]; exact st_byte HS2.out _ (by have : j < 8 := hj; omega))).mono ?_; rintro e w' ⟨rfl, rfl⟩))
      exact ⟨⟨k + 1, by omega, by go_num, HB2.out.setCell (Nat.le_refl _) _, by rw [Own.row_store HR2.out, wRow_step _ k _ (by rw [Sha.W_low _ _ hk16]; rfl)]⟩, by simp [intOf]; omega⟩
    · obtain rfl : k = 16 := by omega
      go_wp2_with fail
      go_loopw [5] (fun i wq => ∃ k : Nat, 16 ≤ k ∧ k ≤ 80 ∧ i = .int .i64 (k : Int) ∧ Below (w.heap.size + 1) (w.alloc (.cells (Own.zeros 80 (.int .u64 0)) 179)) wq ∧ wq.heap[w.heap.size + 1]? = some (.cells (Own.mkRow 80 (wCell (blkOf bs) k)) 179 (0, 0))) (fun i _ => 80 - (intOf i).toNat)
      case atStart => exact ⟨16, by omega, by omega, rfl, HB2.out, HR2.out⟩
      case round =>
        clear HB2 HR2 HS2 hk16 hk
        rename World => wc
        obtain ⟨k, hk16, hk, rfl, hb2, hr2⟩ := hrel
        have HB2 : Hid _ := hb2
        have HR2 : Hid _ := hr2
        clear hb2 hr2
        by_cases hk80 : k < 80
        · have hfz := Own.row_frozen HR2.out k
          have hck := Own.row_cell HR2.out k (by omega)
          rw [wCell_ge _ _ _ (Nat.le_refl _)] at hck
          have hr15 := Own.row_cell HR2.out (k - 15) (by omega)
          rw [wCell_lt _ k (k - 15) (by omega)] at hr15
          have hr2 := Own.row_cell HR2.out (k - 2) (by omega)
          rw [wCell_lt _ k (k - 2) (by omega)] at hr2
          have hr7 := Own.row_cell HR2.out (k - 7) (by omega)
          rw [wCell_lt _ k (k - 7) (by omega)] at hr7
          have hr16 := Own.row_cell HR2.out (k - 16) (by omega)
          rw [wCell_lt _ k (k - 16) (by omega)] at hr16
          have hw2 : IntKind.i64.wrap ((k : Int) - 2) = (k : Int) - 2 := IntWalk.i64_in _ (by omega)
          have hw7 : IntKind.i64.wrap ((k : Int) - 7) = (k : Int) - 7 := IntWalk.i64_in _ (by omega)
          have hw15 : IntKind.i64.wrap ((k : Int) - 15) = (k : Int) - 15 := IntWalk.i64_in _ (by omega)
          have hw16 : IntKind.i64.wrap ((k : Int) - 16) = (k : Int) - 16 := IntWalk.i64_in _ (by omega)
          have ht2 : ((k : Int) - 2).toNat = k - 2 := by omega
          have ht7 : ((k : Int) - 7).toNat = k - 7 := by omega
          have ht15 : ((k : Int) - 15).toNat = k - 15 := by omega
          have ht16 : ((k : Int) - 16).toNat = k - 16 := by omega
          have hi2 : (2 : Int) ≤ (k : Int) := by omega
          have hj2 : (k : Int) - 2 < 80 := by omega
          have hi7 : (7 : Int) ≤ (k : Int) := by omega
          have hj7 : (k : Int) - 7 < 80 := by omega
          have hi15 : (15 : Int) ≤ (k : Int) := by omega
          have hj15 : (k : Int) - 15 < 80 := by omega
          have hi16 : (16 : Int) ≤ (k : Int) := by omega
          have hj16 : (k : Int) - 16 < 80 := by omega
          go_wp2_with fail
          refine wp_region_still_tail 23 (by kernel_rfl) (by kernel_rfl) ?_
          simp only [List.take_succ_cons, List.take_zero, List.drop_succ_cons, List.drop_zero]
          repeat (first | still_step | still_call (spreadLate_any _ _) | still_call (spreadEarly_any _ _))
          refine wpStill_nil ?_
          go_wp2_with fail
          go_roundw
          case rel =>
            (repeat apply Exists.intro)
            refine ⟨⟨k + 1, by omega, by omega, by go_num, ?_, ?_⟩, rfl⟩
            · first | exact (HB2.out.setCell (Nat.le_refl _) _).drew | exact HB2.out.drew.setCell (Nat.le_refl _) _
            · first | rw [heap_drew, Own.row_store HR2.out, wRow_step _ k _ (by rw [Sha.W_high _ _ hk16])] | rw [Own.row_store (w := wc.drew) HR2.out, wRow_step _ k _ (by rw [Sha.W_high _ _ hk16])]
          case measure => simp [intOf]; omega
        · obtain rfl : k = 80 := by omega
          go_wp2_with (first
            | refine wpList_load_row rfl 179 _ rfl (w.heap.size + 1) rfl 179 (Own.mkRow 80 (wCell (blkOf bs) 80)) (0, 0) _ HR2.out Tryz.underlying179 rfl (by kernel_rfl) ?_
            | refine wpList_store_row rfl 179 _ _ rfl w.heap.size (Own.mkRow 80 (wCell (blkOf bs) 80)) rfl rfl 179 (Own.zeros 80 (.int .u64 0)) ((HB2.out.block _ (by omega)).trans (heap_alloc_new _ _)) (by kernel_rfl) (by kernel_rfl) (Own.all_one fun j hj => by rw [wCell_lt _ _ _ hj]; rfl) ?_)
          refine Own.ret_row Tryz.results271 rfl w.heap.size 179 _ (0, 0) _ rfl (setRow_heap _ _ _ _ _ _ ((HB2.out.block _ (by omega)).trans (heap_alloc_new _ _))) Tryz.underlying179 rfl (by kernel_rfl) ⟨rfl, ?_⟩
          exact (((Below.refl _ _).alloc (Nat.le_refl _) _).trans (HB2.out.mono (by omega))).trans (Below.setRow_new _ _ _)
end Hs
end Go.Proofs.YtbojijefenfbgaaGreatDoor
namespace Go.Proofs.YtbojijefenfbgaaGreatDoor
open Go.RowKit
namespace Hs
attribute [local go_sem] UV.u_add UV.u_mul UV.u_sub UV.u_xor UV.u_and UV.u_or UV.u_shr UV.u_shl UV.u_not UV.u_notm UV.u_wrap_un

theorem run_index_u64 (W : World) (f : Nat → Value) (k : Nat) (hk : k < 8) :
    Sem.run Tryz.prog (Instr.index 177 (.agg (Own.mkRow 8 f)) (.int .i64 (k : Int))) W = .ok (f k) W := by
  have h1 : (0 : Int) ≤ (k : Int) ∧ (k : Int) < ((8 : Nat) : Int) := by omega
  obtain ⟨i, hi, _, hz1, _⟩ := info_parts (show (Tryz.prog.info? 159).map (fun i => (i.zero, i.size, i.bytes)) = some (some (.int .u64 0), 1, 8) by kernel_rfl)
  have hg : (Own.mkRow 8 f)[k]? = some (f k) := Own.mkRow_get hk
  simp [Instr.index, asIntOf, run_underlying Tryz.underlying177, h1, sizeOf, typeInfo, hi, hz1, part, isAgg, run_underlying Tryz.underlying159, hg, hk]
theorem u_noti (x : BitVec 64) : bits .xor .u64 (if IntKind.u64.signed = true then -1 else IntKind.u64.max) (un x) = un (~~~ x) := UV.u_notm x
attribute [local go_sem] u_noti
def hCell (s : Sha.St) (j : Nat) : Value := .int .u64 (un (s.list.getD j 0#64))
/-- The words of a state with k sums made. -/
def addF (c s : Sha.St) (k j : Nat) : BitVec 64 := if j < k then c.list.getD j 0#64 + s.list.getD j 0#64 else c.list.getD j 0#64
def stG (g : Nat → BitVec 64) (bs : Nat → UInt8) (m : Nat) (j : Nat) : Value :=
  if j < 8 then .int .u64 (un (g j)) else if j < 136 then .int .u8 ((bs (j - 8)).toNat : Int) else .int .i64 (m : Int)
theorem stG_start (c s : Sha.St) (bs : Nat → UInt8) (m : Nat) : Own.mkRow 137 (stF c bs m) = Own.mkRow 137 (stG (addF c s 0) bs m) := by
  refine Own.mkRow_congr (fun j hj => ?_)
  unfold stF stG addF
  by_cases h : j < 8
  · rw [if_pos h, if_pos h, if_neg (by omega)]
  · rw [if_neg h, if_neg h]
theorem stG_step (c s : Sha.St) (bs : Nat → UInt8) (m k : Nat) (hk : k < 8) : Own.mkRow 137 (fun j => if j = k then .int .u64 (un (c.list[k]?.getD 0#64 + s.list[k]?.getD 0#64)) else stG (addF c s k) bs m j) = Own.mkRow 137 (stG (addF c s (k + 1)) bs m) := by
  refine Own.mkRow_congr (fun j hj => ?_)
  unfold stG addF
  by_cases e : j = k
  · rw [if_pos e, if_pos (by omega), if_pos (by omega), e, List.getD_eq_getElem?_getD, List.getD_eq_getElem?_getD]
  · rw [if_neg e]
    by_cases h : j < 8
    · rw [if_pos h, if_pos h]
      by_cases h2 : j < k
      · rw [if_pos h2, if_pos (by omega)]
      · rw [if_neg h2, if_neg (by omega)]
    · rw [if_neg h, if_neg h]
theorem stG_end (c s : Sha.St) (bs : Nat → UInt8) (m : Nat) : Own.mkRow 137 (stG (addF c s 8) bs m) = Own.mkRow 137 (stF (c.add s) bs m) := by
  refine Own.mkRow_congr (fun j hj => ?_)
  unfold stF stG addF
  by_cases h : j < 8
  · rw [if_pos h, if_pos h, if_pos h]
    rcases j with _ | _ | _ | _ | _ | _ | _ | _ | j
    all_goals first | rfl | omega
  · rw [if_neg h, if_neg h]
theorem stG_cell {w : World} {b : Nat} {c s : Sha.St} {bs : Nat → UInt8} {m k : Nat} {t : TypeId} (h : w.heap[b]? = some (.cells (Own.mkRow 137 (stG (addF c s k) bs m)) t (0, 0))) (hk : k < 8) : w.cell? ⟨b, k, none⟩ = some (.int .u64 (un (c.list[k]?.getD 0#64))) := by
  rw [Own.row_cell h k (by omega)]; unfold stG addF; rw [if_pos hk, if_neg (by omega), List.getD_eq_getElem?_getD]
/-- The program's table of round words lies in its block. -/
def TabAt (w : World) : Prop := ∀ k, k < 80 → w.cell? ⟨0, k, none⟩ = some (.int .u64 (un (Sha.kAt k)))
theorem TabAt.lt {w : World} (h : TabAt w) : 0 < w.heap.size := block_lt_of_cell (h 0 (by decide))
theorem TabAt.below {B : Nat} {w w' : World} (h : TabAt w) (hb : Below B w w') (hB : 0 < B) : TabAt w' := fun k hk => (hb.cell (p := ⟨0, k, none⟩) hB).trans (h k hk)
theorem TabAt.only {b : Nat} {w w' : World} (h : TabAt w) (ho : Only b w w') (hb : b ≠ 0) : TabAt w' := fun k hk => (World.cell?_of_block (w := w) (ho.block 0 h.lt (Ne.symm hb))).trans (h k hk)

set_option maxHeartbeats 2000000 in
set_option maxRecDepth 100000 in
theorem mix_any (w : World) (b : Nat) (s : Sha.St) (bs : Nat → UInt8) (m : Nat) (hst : StateAt w b s bs m) (_hb0 : b ≠ 0) (htab : TabAt w) :
    Calls Tryz.prog 236 #[.pointer (some ⟨b, 0, none⟩)] w fun e w' => e = .returned (.tuple #[]) ∧ Only b w w' ∧ StateAt w' b (Sha.compress s (blkOf bs)) bs m := by
  have HS : Hid _ := hst
  have HT : Hid _ := htab
  have hbl := st_lt hst
  have h0l := htab.lt
  clear hst htab
  go_enter Tryz.func236, Tryz.ntmps236
  go_wp2_with (first
    | (go_at_call 271; refine (schedule_any _ b s bs m HS.out).mono ?_; rintro e w1 ⟨rfl, hb1⟩; have HB1 : Hid _ := hb1; clear hb1)
    | refine Own.wpList_alloc_at _ rfl 179 rfl (Own.zeros 80 (.int .u64 0)) (by kernel_rfl) ?_
    | refine Own.wpList_store_new rfl 179 _ _ rfl (Own.zeros 80 (.int .u64 0)) (Own.mkRow 80 (wCell (blkOf bs) 80)) 179 rfl rfl (by kernel_rfl) (by kernel_rfl) (Own.all_one fun j hj => by rw [wCell_lt _ _ _ hj]; rfl) ?_)
  have hs1 : w.heap.size ≤ w1.heap.size := HB1.out.size
  have HW2 : Hid ((w1.alloc (.cells (Own.mkRow 80 (wCell (blkOf bs) 80)) 179)).heap[w1.heap.size]? = some (.cells (Own.mkRow 80 (wCell (blkOf bs) 80)) 179 (0, 0))) := heap_alloc_new _ _
  have HB2 : Hid (Below w.heap.size w (w1.alloc (.cells (Own.mkRow 80 (wCell (blkOf bs) 80)) 179))) := HB1.out.alloc hs1 _
  have HS2 : Hid (StateAt (w1.alloc (.cells (Own.mkRow 80 (wCell (blkOf bs) 80)) 179)) b s bs m) := (HB2.out.block b hbl).trans HS.out
  have hsz2 : (w1.alloc (.cells (Own.mkRow 80 (wCell (blkOf bs) 80)) 179)).heap.size = w1.heap.size + 1 := by simp
  generalize w1.alloc (.cells (Own.mkRow 80 (wCell (blkOf bs) 80)) 179) = w2 at *
  have hc0 : w2.cell? ⟨b, 0, none⟩ = some (.int .u64 (un s.a)) := st_word HS2.out 0 (by decide)
  have hc1 : w2.cell? ⟨b, 1, none⟩ = some (.int .u64 (un s.b)) := st_word HS2.out 1 (by decide)
  have hc2 : w2.cell? ⟨b, 2, none⟩ = some (.int .u64 (un s.c)) := st_word HS2.out 2 (by decide)
  have hc3 : w2.cell? ⟨b, 3, none⟩ = some (.int .u64 (un s.d)) := st_word HS2.out 3 (by decide)
  refine wp_region_quiet_lit (by kernel_rfl) (by kernel_rfl) ?_
  repeat (first | go_big_quiet_step (fail) | quiet_step (fail))
  refine wpQuiet_nil ?_
  intro _ hw'
  obtain ⟨nq, hw''⟩ := hw'
  subst hw''
  clear hc0 hc1 hc2 hc3
  have HB3 : Hid (Below w.heap.size w (w2.drewN nq)) := below_drewN HB2.out nq
  have HS3 : Hid (StateAt (w2.drewN nq) b s bs m) := HS2.out
  have HW3 : Hid ((w2.drewN nq).heap[w1.heap.size]? = some (.cells (Own.mkRow 80 (wCell (blkOf bs) 80)) 179 (0, 0))) := HW2.out
  have hsz3 : (w2.drewN nq).heap.size = w1.heap.size + 1 := hsz2
  clear HB2 HS2 HW2 hsz2
  generalize w2.drewN nq = w3 at *
  have hc4 : w3.cell? ⟨b, 4, none⟩ = some (.int .u64 (un s.e)) := st_word HS3.out 4 (by decide)
  have hc5 : w3.cell? ⟨b, 5, none⟩ = some (.int .u64 (un s.f)) := st_word HS3.out 5 (by decide)
  have hc6 : w3.cell? ⟨b, 6, none⟩ = some (.int .u64 (un s.g)) := st_word HS3.out 6 (by decide)
  have hc7 : w3.cell? ⟨b, 7, none⟩ = some (.int .u64 (un s.h)) := st_word HS3.out 7 (by decide)
  go_wp2_with fail
  refine wp_region_quiet_lit (by kernel_rfl) (by kernel_rfl) ?_
  repeat (first | go_big_quiet_step (fail) | quiet_step (fail))
  refine wpQuiet_nil ?_
  intro _ hw'
  obtain ⟨nq, hw''⟩ := hw'
  subst hw''
  clear hc4 hc5 hc6 hc7
  have HB4 : Hid (Below w.heap.size w (w3.drewN nq)) := below_drewN HB3.out nq
  have HS4 : Hid (StateAt (w3.drewN nq) b s bs m) := HS3.out
  have HW4 : Hid ((w3.drewN nq).heap[w1.heap.size]? = some (.cells (Own.mkRow 80 (wCell (blkOf bs) 80)) 179 (0, 0))) := HW3.out
  have hsz4 : (w3.drewN nq).heap.size = w1.heap.size + 1 := hsz3
  clear HB3 HS3 HW3 hsz3
  generalize w3.drewN nq = w4 at *
  go_wp2_with fail
  go_loopw [3, 4, 5, 6, 7, 8, 9, 10, 58] (fun xa xb xc xd xe xf xg xh i wq => ∃ k : Nat, k ≤ 80 ∧ i = .int .i64 (k : Int) ∧ xa = .int .u64 (un (Sha.rounds (blkOf bs) s k).a) ∧ xb = .int .u64 (un (Sha.rounds (blkOf bs) s k).b) ∧ xc = .int .u64 (un (Sha.rounds (blkOf bs) s k).c) ∧ xd = .int .u64 (un (Sha.rounds (blkOf bs) s k).d) ∧ xe = .int .u64 (un (Sha.rounds (blkOf bs) s k).e) ∧ xf = .int .u64 (un (Sha.rounds (blkOf bs) s k).f) ∧ xg = .int .u64 (un (Sha.rounds (blkOf bs) s k).g) ∧ xh = .int .u64 (un (Sha.rounds (blkOf bs) s k).h) ∧ Below w4.heap.size w4 wq) (fun _ _ _ _ _ _ _ _ i _ => 80 - (intOf i).toNat)
  case atStart => exact ⟨0, by omega, rfl, rfl, rfl, rfl, rfl, rfl, rfl, rfl, rfl, Below.refl _ _⟩
  case round =>
    rename World => w5
    obtain ⟨k, hk, rfl, rfl, rfl, rfl, rfl, rfl, rfl, rfl, rfl, hb5⟩ := hrel
    have HB5 : Hid _ := hb5
    clear hb5
    generalize hst : Sha.rounds (blkOf bs) s k = st at *
    have HST : Hid _ := hst
    clear hst
    by_cases hk80 : k < 80
    · have hkc : w5.cell? ⟨0, k, none⟩ = some (.int .u64 (un (Sha.kAt k))) := (TabAt.below HT.out (HB4.out.trans (HB5.out.mono (by omega))) h0l) k hk80
      have hwc : w5.cell? ⟨w1.heap.size, k, none⟩ = some (.int .u64 (un (Sha.W (blkOf bs) k))) := by
        rw [Own.row_cell ((HB5.out.block _ (by omega)).trans HW4.out) k hk80, wCell_lt _ _ _ hk80]
      go_wp2_with fail
      refine wp_region_quiet_lit (by kernel_rfl) (by kernel_rfl) ?_
      repeat (first | go_big_quiet_step ((go_at_call 272; exact Calls.quiet_of_same (turn_any _ _ _ _ (by decide) (by decide) (by decide) (by decide) (by decide) (by decide) _))) | quiet_step ((go_at_call 272; exact Calls.quiet_of_same (turn_any _ _ _ _ (by decide) (by decide) (by decide) (by decide) (by decide) (by decide) _))))
      refine wpQuiet_nil ?_
      intro _ hw'
      obtain ⟨nq, hw''⟩ := hw'
      subst hw''
      clear hkc hwc
      go_wp2_with (first
        | (go_at_call 272; refine (turn_any _ _ _ _ (by decide) (by decide) (by decide) (by decide) (by decide) (by decide) _).mono ?_; rintro e w' ⟨rfl, rfl⟩))
      have hs1 : Sha.rounds (blkOf bs) s (k + 1) = Sha.round st (Sha.kAt k) (Sha.W (blkOf bs) k) := by rw [← HST.out]; rfl
      exact ⟨⟨k + 1, by omega, by go_num, by rw [hs1]; rfl, by rw [hs1]; rfl, by rw [hs1]; rfl, by rw [hs1]; rfl, by rw [hs1]; rfl, by rw [hs1]; rfl, by rw [hs1]; rfl, by rw [hs1]; rfl, below_drewN HB5.out nq⟩, by simp [intOf]; omega⟩
    · obtain rfl : k = 80 := by omega
      have H1 : Hid (Below w.heap.size w w5) := HB4.out.trans (HB5.out.mono (by omega))
      have H2 : Hid (StateAt w5 b s bs m) := (HB5.out.block _ (by omega)).trans HS4.out
      clear HB4 HS4 HW4 HB5
      go_wp2_with (first
        | refine Own.wpList_build_at rfl 177 _ rfl (Own.mkRow 8 (hCell st)) (by kernel_rfl) ?_)
      go_loopw [118] (fun i wq => ∃ k : Nat, k ≤ 8 ∧ i = .int .i64 (k : Int) ∧ Only b w wq ∧ wq.heap[b]? = some (.cells (Own.mkRow 137 (stG (addF s st k) bs m)) 270 (0, 0))) (fun i _ => 8 - (intOf i).toNat)
      case atStart => exact ⟨0, by omega, rfl, Only.of_below H1.out, by rw [← stG_start]; exact H2.out⟩
      case round =>
        rename World => w6
        obtain ⟨k, hk, rfl, ho6, hr6⟩ := hrel
        have HO6 : Hid _ := ho6
        have HR6 : Hid _ := hr6
        clear ho6 hr6 H1 H2
        by_cases hk8 : k < 8
        · have hz := Own.row_frozen HR6.out k
          have hc := stG_cell HR6.out hk8
          have hix : ∀ W : World, Sem.run Tryz.prog (Instr.index 177 (.agg (Own.mkRow 8 (hCell st))) (.int .i64 (k : Int))) W = .ok (.int .u64 (un (st.list[k]?.getD 0#64))) W := fun W => by rw [run_index_u64 W _ k hk8]; unfold hCell; rw [List.getD_eq_getElem?_getD]
          go_wp2_with fail
          go_region
          all_goals go_wp2_with fail
          exact ⟨⟨k + 1, by omega, by go_num, (HO6.out.trans (Only.setCell _ _ _ _)).drew, by rw [heap_drew, Own.row_store HR6.out, stG_step _ _ _ _ k hk8]⟩, by simp [intOf]; omega⟩
        · obtain rfl : k = 8 := by omega
          go_wp2_with fail
          go_end0
          refine ⟨rfl, HO6.out, ?_⟩
          show w6.heap[b]? = _
          rw [HR6.out, stG_end]
          rw [show Sha.compress s (blkOf bs) = s.add st from by rw [← HST.out]; rfl]
end Hs
end Go.Proofs.YtbojijefenfbgaaGreatDoor
namespace Go.Proofs.YtbojijefenfbgaaGreatDoor
namespace Hs
open Sha

theorem wl_congr {b c : Nat → BitVec 64} (h : ∀ j, j < 16 → b j = c j) (n : Nat) : wl b n = wl c n := by
  induction n with
  | zero => rfl
  | succ n ih =>
    simp only [wl, ih, nextW]
    by_cases hn : n < 16
    · rw [if_pos hn, if_pos hn, h n hn]
    · rw [if_neg hn, if_neg hn]
theorem W_congr {b c : Nat → BitVec 64} (h : ∀ j, j < 16 → b j = c j) (n : Nat) : W b n = W c n := by
  unfold W
  rw [wl_congr h n]
  unfold nextW
  by_cases hn : n < 16
  · rw [if_pos hn, if_pos hn, h n hn]
  · rw [if_neg hn, if_neg hn]
theorem compress_congr {b c : Nat → BitVec 64} (h : ∀ j, j < 16 → b j = c j) (s : St) : compress s b = compress s c := by
  have : ∀ n, rounds b s n = rounds c s n := fun n => by
    induction n with
    | zero => rfl
    | succ n ih => simp only [rounds, ih, W_congr h n]
  unfold compress
  rw [this]
theorem wordAt_append (l r : List UInt8) (p : Nat) (h : p + 8 ≤ l.length) : wordAt (l ++ r) p = wordAt l p := by
  unfold wordAt
  rw [List.drop_append_of_le_length (by omega), List.take_append_of_le_length (by simp; omega)]
theorem chain_append (l r : List UInt8) (n : Nat) (h : 128 * n ≤ l.length) : chain (l ++ r) n = chain l n := by
  induction n with
  | zero => rfl
  | succ n ih =>
    simp only [chain]
    rw [ih (by omega)]
    exact compress_congr (fun j hj => wordAt_append l r _ (by omega)) _
theorem wordAt_eight (l : List UInt8) (p : Nat) (h : p + 8 ≤ l.length) : wordAt l p = wordOf (eight (fun i => l.getD i 0) p) := by
  unfold wordAt
  congr 1
  apply List.ext_getElem
  · simp [eight]; omega
  · intro i h1 h2
    rw [eight_get, List.getElem_take, List.getElem_drop, List.getD_eq_getElem?_getD, List.getElem?_eq_getElem (by simp at h1; omega)]
    rfl

/-- How far a text has been taken. -/
def Tk (t : List UInt8) (s : St) (bs : Nat → UInt8) (m : Nat) : Prop := s = chain t (t.length / 128) ∧ m = t.length % 128 ∧ ∀ i, i < m → bs i = t.getD (128 * (t.length / 128) + i) 0
theorem Tk.lt {t : List UInt8} {s : St} {bs : Nat → UInt8} {m : Nat} (h : Tk t s bs m) : m < 128 := by have := h.2.1; omega
theorem Tk.start (bs : Nat → UInt8) : Tk [] Sha.start bs 0 := ⟨rfl, rfl, fun _ h => absurd h (by omega)⟩

def over (bs : Nat → UInt8) (m n : Nat) (r : List UInt8) (i : Nat) : UInt8 := if m ≤ i ∧ i < m + n then r.getD (i - m) 0 else bs i
theorem over_get {t : List UInt8} {s : St} {bs : Nat → UInt8} {m : Nat} (h : Tk t s bs m) (r : List UInt8) (n : Nat) (_hn : n ≤ r.length) (i : Nat) (hi : i < m + n) :
    over bs m n r i = (t ++ r.take n).getD (128 * (t.length / 128) + i) 0 := by
  have hm := h.2.1
  unfold over
  by_cases hlt : i < m
  · rw [if_neg (by omega), h.2.2 i hlt]
    simp only [List.getD_eq_getElem?_getD]
    rw [List.getElem?_append_left (by omega)]
  · rw [if_pos (by omega)]
    simp only [List.getD_eq_getElem?_getD]
    rw [List.getElem?_append_right (by omega), List.getElem?_take, if_pos (by omega), show 128 * (t.length / 128) + i - t.length = i - m by omega]
theorem Tk.more {t : List UInt8} {s : St} {bs : Nat → UInt8} {m : Nat} (h : Tk t s bs m) (r : List UInt8) (n : Nat) (hn : n ≤ r.length) (hfit : m + n < 128) : Tk (t ++ r.take n) s (over bs m n r) (m + n) := by
  have hm := h.2.1
  have hl : (t ++ r.take n).length = t.length + n := by simp; omega
  have hq : (t.length + n) / 128 = t.length / 128 := by omega
  refine ⟨?_, by rw [hl]; omega, fun i hi => ?_⟩
  · rw [hl, hq, chain_append _ _ _ (by omega)]; exact h.1
  · rw [hl, hq]; exact over_get h r n hn i hi
theorem Tk.full {t : List UInt8} {s : St} {bs : Nat → UInt8} {m : Nat} (h : Tk t s bs m) (r : List UInt8) (n : Nat) (hn : n ≤ r.length) (hfit : m + n = 128) : Tk (t ++ r.take n) (compress s (blkOf (over bs m n r))) (over bs m n r) 0 := by
  have hm := h.2.1
  have hl : (t ++ r.take n).length = t.length + n := by simp; omega
  have hq : (t.length + n) / 128 = t.length / 128 + 1 := by omega
  refine ⟨?_, by rw [hl]; omega, fun i hi => absurd hi (by omega)⟩
  rw [hl, hq]
  simp only [chain]
  rw [chain_append _ _ _ (by omega), ← h.1]
  refine compress_congr (fun j hj => ?_) _
  unfold blkOf blockAt
  rw [wordAt_eight _ _ (by rw [hl]; omega)]
  congr 1
  have e : ∀ i, i < 8 → over bs m n r (8 * j + i) = (t ++ r.take n).getD (128 * (t.length / 128) + 8 * j + i) 0 := fun i hi => by
    rw [over_get h r n hn _ (by omega), Nat.add_assoc]
  have e0 := e 0 (by omega)
  simp only [Nat.add_zero] at e0
  simp only [eight]
  rw [e0, e 1 (by omega), e 2 (by omega), e 3 (by omega), e 4 (by omega), e 5 (by omega), e 6 (by omega), e 7 (by omega)]
end Hs
end Go.Proofs.YtbojijefenfbgaaGreatDoor

/- Walks of the document's own small functions of the hash: turn, word, bytes, roots, cubes. -/
import Derived.Test.YtbojijefenfbgaaDoorProg
import Derived.Test.YtbojijefenfbgaaDoorSgU
import Derived.WalkKit
import Derived.WalkSpells
import Derived.WalkLawsBesides
import Derived.BigQuiet
import Derived.KernelRfl
namespace Go.Proofs.YtbojijefenfbgaaDoor
open Go.RowKit
attribute [local go_sem] UV.u_add UV.u_mul UV.u_sub UV.u_xor UV.u_and UV.u_or UV.u_shr UV.u_shl UV.u_not UV.u_mul_lit UV.u_wrap_un

set_option maxHeartbeats 400000 in
theorem refTurn_any (x : BitVec 64) (n : Nat) (h1 : 1 ≤ n) (h2 : n ≤ 63) (w : World) :
    Calls Tryd.prog 24 #[.int .u64 (un x), .int .i64 (n : Int)] w fun e w' => e = .returned (.int .u64 (un (Sha.rotr x n))) ∧ ∃ k, w' = w.drewN k := by
  go_enter Tryd.func24, Tryd.ntmps24
  go_wp2
  go_quiet (fail)
  go_wp2
  go_ret
  exact ⟨rfl, _, rfl⟩

theorem refTurn_int (x : BitVec 64) (n : Int) (h1 : 1 ≤ n) (h2 : n ≤ 63) (w : World) :
    Calls Tryd.prog 24 #[.int .u64 (un x), .int .i64 n] w fun e w' => e = .returned (.int .u64 (un (Sha.rotr x n.toNat))) ∧ ∃ k, w' = w.drewN k := by
  have h := refTurn_any x n.toNat (by omega) (by omega) w
  rw [Int.toNat_of_nonneg (by omega)] at h
  exact h
theorem more_eq (x : BitVec 64) (c : UInt8) : IntKind.u64.wrap (IntKind.u64.wrap (256 * un x) + IntKind.u64.wrap (c.toNat : Int)) = un (Sha.more x c) := by
  rw [show IntKind.u64.wrap (256 * un x) = un (256#64 * x) from UV.u_mul_lit 256 x, UV.u_wrap, UV.u_add]; rfl
theorem wordOf_snoc (l : List UInt8) (c : UInt8) : Sha.wordOf (l ++ [c]) = Sha.more (Sha.wordOf l) c := by simp [Sha.wordOf]
theorem take_drop_snoc (s : ByteArray) (p k : Nat) (h : p + k < s.size) : (s.data.toList.drop p).take (k + 1) = (s.data.toList.drop p).take k ++ [s[p + k]] := by
  rw [List.take_succ_eq_append_getElem (by simp; have : s.data.size = s.size := rfl; omega)]
  congr 2
  rw [List.getElem_drop]; rfl

set_option maxHeartbeats 400000 in
theorem refWord_any (s : ByteArray) (p : Nat) (h : p + 8 ≤ s.size) (hs : s.size ≤ 4000000000000) (w : World) :
    Calls Tryd.prog 23 #[.string s, .int .i64 (p : Int)] w fun e w' => e = .returned (.int .u64 (un (Sha.wordAt s.data.toList p))) ∧ w' = w := by
  go_enter Tryd.func23, Tryd.ntmps23
  go_wp2
  go_loop [5, 6] (fun x i => ∃ k : Nat, k ≤ 8 ∧ i = .int .i64 k ∧ x = .int .u64 (un (Sha.wordOf ((s.data.toList.drop p).take k)))) (fun _ i => 8 - (intOf i).toNat)
  case atStart => exact ⟨0, Nat.zero_le _, rfl, rfl⟩
  case round =>
    obtain ⟨k, hk, rfl, rfl⟩ := hrel
    by_cases hlt : k < 8
    · go_wp2
      exact ⟨⟨k + 1, by omega, by go_num, by rw [take_drop_snoc s p k (by omega), wordOf_snoc, ← more_eq]⟩, by simp [intOf]; omega⟩
    · obtain rfl : k = 8 := by omega
      go_wp2
      go_ret
      exact ⟨rfl, rfl⟩

theorem refWord_int (s : ByteArray) (p : Int) (h0 : 0 ≤ p) (h : p + 8 ≤ s.size) (hs : s.size ≤ 4000000000000) (w : World) :
    Calls Tryd.prog 23 #[.string s, .int .i64 p] w fun e w' => e = .returned (.int .u64 (un (Sha.wordAt s.data.toList p.toNat))) ∧ w' = w := by
  have h := refWord_any s p.toNat (by omega) hs w
  rw [Int.toNat_of_nonneg (by omega)] at h
  exact h
theorem info_u8 : (Tryd.prog.info? 5).map (fun i => (i.zero, i.size, i.bytes)) = some (some (.int .u8 0), 1, 1) := by kernel_rfl
def f8 (x : BitVec 64) (k : Nat) (j : Nat) : Value := if 8 ≤ j + k then Value.int .u8 ((Sha.byteOf x j).toNat : Int) else .int .u8 0
theorem quo256 (x : BitVec 64) : IntKind.u64.wrap ((un x).tdiv 256) = un (x >>> 8) := by
  rw [Int.tdiv_eq_ediv_of_nonneg (UV.un_lo x), show (256 : Int) = 2 ^ 8 from rfl, UV.u_shr, UV.u_wrap_un]
theorem rem256 (x : BitVec 64) (n : Nat) (_h : n ≤ 56) : un (x >>> n) % 256 = ((UInt8.ofNat (x >>> n).toNat).toNat : Int) := by
  unfold un; simp
theorem f8_step (x : BitVec 64) (k : Nat) (hk : k < 8) (j : Nat) (hj : j < 8) : (if j = 7 - k then Value.int .u8 (un (x >>> (8 * k)) % 256) else f8 x k j) = f8 x (k + 1) j := by
  by_cases e : j = 7 - k
  · rw [if_pos e, rem256 x (8 * k) (by omega)]
    unfold f8
    rw [if_pos (by omega)]
    simp only [Sha.byteOf]
    rw [show 56 - 8 * j = 8 * k by omega]
  · rw [if_neg e]
    unfold f8
    by_cases h : 8 ≤ j + k
    · rw [if_pos h, if_pos (by omega)]
    · rw [if_neg h, if_neg (by omega)]
theorem bytesOf_get (x : BitVec 64) (j : Nat) (h : j < (Sha.bytesOf x).length) : (Sha.bytesOf x)[j] = Sha.byteOf x j := by
  have h' : j < 8 := h
  rcases j with _ | _ | _ | _ | _ | _ | _ | _ | j
  all_goals first | rfl | omega
theorem shr_shr (x : BitVec 64) (k : Nat) : x >>> (8 * k) >>> 8 = x >>> (8 * (k + 1)) := by
  rw [← BitVec.shiftRight_add, show 8 * k + 8 = 8 * (k + 1) by omega]

set_option maxHeartbeats 400000 in
theorem refBytes_any (x : BitVec 64) (w : World) :
    Calls Tryd.prog 20 #[.int .u64 (un x)] w fun e w' => e = .returned (.string ⟨(Sha.bytesOf x).toArray⟩) ∧ Below w.heap.size w w' := by
  go_enter Tryd.func20, Tryd.ntmps20
  go_wp2_with (at_make; refine Own.wpList_make_at _ rfl _ _ 38 rfl 5 (.int .u8 0) 1 Tryd.underlying38 info_u8 rfl .i64 .i64 _ _ 8 rfl rfl rfl rfl (by decide) (by decide) ?_)
  go_loopw [0, 4] (fun x' i wr => ∃ k : Nat, k ≤ 8 ∧ i = .int .i64 (7 - (k : Int)) ∧ x' = .int .u64 (un (x >>> (8 * k))) ∧ Below w.heap.size w wr ∧ wr.heap[w.heap.size]? = some (.cells (Own.mkRow 8 (f8 x k)) 5 (0, 0))) (fun _ i _ => (1 + intOf i).toNat)
  case atStart => 
    exact ⟨0, by omega, rfl, by simp, (Below.refl _ _).alloc (Nat.le_refl _) _, by rw [heap_alloc_new]; rfl⟩
  case round =>
    obtain ⟨k, hk, rfl, rfl, hb, hrow⟩ := hrel
    have Hr : Hid _ := hrow
    have Hb : Hid _ := hb
    clear hrow hb
    by_cases hlt : k < 8
    · have hx0 := UV.un_lo (x >>> (8 * k))
      have hc := Own.row_frozen Hr.out (7 - k)
      have hd := Own.row_cell Hr.out (7 - k) (by omega)
      have hv : f8 x k (7 - k) = .int .u8 0 := by unfold f8; rw [if_neg (by omega)]
      rw [hv] at hd
      clear hv
      go_wp2
      refine ⟨⟨k + 1, by omega, by go_num, ?_, Hb.out.setCell (by simp) _, ?_⟩, by simp [intOf]; omega⟩
      · rw [quo256, shr_shr]
      · rw [Own.row_store Hr.out, Own.mkRow_congr (f8_step x k hlt)]
    · obtain rfl : k = 8 := by omega
      have HC : Hid (∀ j (h : j < (Sha.bytesOf x).length), wr.cell? ⟨w.heap.size, 0 + j, none⟩ = some (.int .u8 ((Sha.bytesOf x)[j].toNat : Int))) := fun j hj => by
        have hj' : j < 8 := hj
        rw [Nat.zero_add, Own.row_cell Hr.out j hj', bytesOf_get]
        unfold f8
        rw [if_pos (by omega)]
      go_wp2_with (refine Own.wpList_string_at _ rfl _ 38 9 5 rfl Tryd.underlying38 Tryd.underlying5 Tryd.underlying9 w.heap.size 0 8 (Sha.bytesOf x) rfl HC.out ?_)
      go_ret
      exact ⟨rfl, Hb.out⟩
def hCell (s : Sha.St) (j : Nat) : Value := .int .u64 (un (s.list.getD j 0#64))
def kCell (j : Nat) : Value := .int .u64 (un (Sha.kAt j))
theorem u64_one (x : Int) : (Value.int .u64 x).oneCell' = true := rfl
set_option maxHeartbeats 400000 in
theorem refRoots_any (w : World) :
    Calls Tryd.prog 21 #[] w fun e w' => e = .returned (.agg (Own.mkRow 8 (hCell Sha.start))) ∧ Below w.heap.size w w' := by
  go_enter Tryd.func21, Tryd.ntmps21
  go_wp2_with (first
    | refine Own.wpList_alloc_at _ rfl 45 rfl (Own.zeros 8 (.int .u64 0)) (by kernel_rfl) ?_
    | refine Own.wpList_build_at rfl 45 _ rfl (Own.mkRow 8 (hCell Sha.start)) (by kernel_rfl) ?_
    | refine Own.wpList_store_new rfl 45 _ _ rfl (Own.zeros 8 (.int .u64 0)) (Own.mkRow 8 (hCell Sha.start)) 45 rfl rfl (by kernel_rfl) (by kernel_rfl) (Own.all_one fun _ _ => rfl) ?_)
  exact Own.ret_row Tryd.results21 rfl _ _ _ _ _ rfl (heap_alloc_new _ _) Tryd.underlying45 rfl (by kernel_rfl) ⟨rfl, (Below.refl _ _).alloc (Nat.le_refl _) _⟩
set_option maxHeartbeats 400000 in
theorem refCubes_any (w : World) :
    Calls Tryd.prog 22 #[] w fun e w' => e = .returned (.agg (Own.mkRow 80 kCell)) ∧ Below w.heap.size w w' := by
  go_enter Tryd.func22, Tryd.ntmps22
  go_wp2_with (first
    | refine Own.wpList_alloc_at _ rfl 47 rfl (Own.zeros 80 (.int .u64 0)) (by kernel_rfl) ?_
    | refine Own.wpList_build_at rfl 47 _ rfl (Own.mkRow 80 kCell) (by kernel_rfl) ?_
    | refine Own.wpList_store_new rfl 47 _ _ rfl (Own.zeros 80 (.int .u64 0)) (Own.mkRow 80 kCell) 47 rfl rfl (by kernel_rfl) (by kernel_rfl) (Own.all_one fun _ _ => rfl) ?_)
  exact Own.ret_row Tryd.results22 rfl _ _ _ _ _ rfl (heap_alloc_new _ _) Tryd.underlying47 rfl (by kernel_rfl) ⟨rfl, (Below.refl _ _).alloc (Nat.le_refl _) _⟩
end Go.Proofs.YtbojijefenfbgaaDoor

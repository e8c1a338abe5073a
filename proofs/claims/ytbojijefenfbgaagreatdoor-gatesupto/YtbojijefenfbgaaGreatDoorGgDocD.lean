/- Walk of the document's own reckoning: settled. Walks of the document's own reckoning: add, sub. Walks of the document's own reckoning: sub. -/
import Derived.Test.YtbojijefenfbgaaGreatDoorGgDocM
import Derived.StillTailTactics
namespace Go.Proofs.YtbojijefenfbgaaGreatDoor
open Go.RowKit
namespace Dc
open Bt
def rdN (V : Int) : Nat → Int
 | 0 => V
 | n + 1 => rd (rdN V n)
def Bd (F : Nat → Int) : Prop := ∀ j, j < 16 → -1125899906842624 ≤ F j ∧ F j ≤ 1125899906842624
def cD (F : Nat → Int) (k j : Nat) : Int := if j < k then (F j + cF 65536 0 F j) % 65536 else F j
theorem cD_step (F : Nat → Int) (k j : Nat) : (if j = k then F k + cF 65536 0 F k - (F k + cF 65536 0 F k) / 65536 * 65536 else cD F k j) = cD F (k + 1) j := by
 unfold cD
 by_cases e : j = k
 ·subst e
  rw [if_pos rfl, if_pos (by omega)]
  omega
 ·rw [if_neg e]
  by_cases h : j < k
  ·rw [if_pos h, if_pos (by omega)]
  ·rw [if_neg h, if_neg (by omega)]
theorem cD_all (F : Nat → Int) (j : Nat) (hj : j < 16) : cD F 16 j = dg (vi 65536 F 16) j := by
 unfold cD dg
 rw [if_pos hj, dig_eq (by decide) 0 F hj, Int.zero_add]
theorem dg_bd (U : Int) (j : Nat) : 0 ≤ dg U j ∧ dg U j < 65536 := by
 unfold dg
 omega
theorem vi_bound' {F : Nat → Int} {n : Nat} (h : ∀ j, j < n → -1125899906842624 ≤ F j ∧ F j ≤ 1125899906842624) : -(1125899906842624 * vi 65536 (fun _ => 1) n) ≤ vi 65536 F n ∧ vi 65536 F n ≤ 1125899906842624 * vi 65536 (fun _ => 1) n := by
 induction n with
 | zero => simp [vi]
 | succ n ih =>
  have h1 := ih fun j hj => h j (by omega)
  have h2 := h n (by omega)
  have hp := pow_pos' (show (0 : Int) < 65536 by decide) n
  simp only [vi]
  generalize (65536 : Int) ^ n = p at *
  generalize vi 65536 F n = a at *
  generalize vi 65536 (fun _ => 1) n = b at *
  have e1 := Int.mul_le_mul_of_nonneg_right h2.1 (Int.le_of_lt hp)
  have e2 := Int.mul_le_mul_of_nonneg_right h2.2 (Int.le_of_lt hp)
  generalize F n * p = x at *
  omega
theorem vi_bound {F : Nat → Int} (h : Bd F) : -2037035976334486086268445688409378161051468393665936250636140449354381299763336706183397376 ≤ vi 65536 F 16 ∧ vi 65536 F 16 ≤ 2037035976334486086268445688409378161051468393665936250636140449354381299763336706183397376 := by
 have h1 := vi_bound' (n := 16) h
 rw [show vi 65536 (fun _ => 1) 16 = 1766874025136433896750911497805568136923323180981774075523881651146915841 from by decide] at h1
 omega
theorem rF_dg (U : Int) : rF U = fun j => if j = 0 then dg U 0 + 19 * (U / 57896044618658097711785492504343953926634992332820282019728792003956564819968) else if j = 15 then dg U 15 % 32768 else dg U j := by
 funext j
 unfold rF dg
 rw [Int.pow_zero, Int.ediv_one]
theorem rF_bd {U : Int} (h1 : -2037035976334486086268445688409378161051468393665936250636140449354381299763336706183397376 ≤ U) (h2 : U ≤ 2037035976334486086268445688409378161051468393665936250636140449354381299763336706183397376) : Bd (rF U) := by
 intro j _
 rw [rF_dg]
 show -1125899906842624 ≤ (if j = 0 then dg U 0 + 19 * (U / 57896044618658097711785492504343953926634992332820282019728792003956564819968) else if j = 15 then dg U 15 % 32768 else dg U j) ∧ (if j = 0 then dg U 0 + 19 * (U / 57896044618658097711785492504343953926634992332820282019728792003956564819968) else if j = 15 then dg U 15 % 32768 else dg U j) ≤ 1125899906842624
 have h0 := dg_bd U 0
 have h15 := dg_bd U 15
 have hj := dg_bd U j
 split
 ·omega
 ·split <;> omega
theorem rdN_all {V : Int} (h1 : -2037035976334486086268445688409378161051468393665936250636140449354381299763336706183397376 ≤ V) (h2 : V ≤ 2037035976334486086268445688409378161051468393665936250636140449354381299763336706183397376) : 0 ≤ rdN V 3 ∧ rdN V 3 < 57896044618658097711785492504343953926634992332820282019728792003956564819968 ∧ rdN V 3 % pI = V % pI := rd_all h1 h2
theorem sub_pI {U : Int} (h0 : 0 ≤ U) (h1 : U < 57896044618658097711785492504343953926634992332820282019728792003956564819968) (h2 : ¬ U < pI) : U - pI = U % pI := by
 unfold pI at *
 omega
def dd (U P : Int) (j : Nat) : Int := dg U j - dg P j
def cE (G A : Nat → Int) (k j : Nat) : Int := if j < k then (G j + cF 65536 0 G j) % 65536 else A j
theorem cE_step (G A : Nat → Int) (k j : Nat) : (if j = k then G k + cF 65536 0 G k - (G k + cF 65536 0 G k) / 65536 * 65536 else cE G A k j) = cE G A (k + 1) j := by
 unfold cE
 by_cases e : j = k
 ·subst e
  rw [if_pos rfl, if_pos (by omega)]
  omega
 ·rw [if_neg e]
  by_cases h : j < k
  ·rw [if_pos h, if_pos (by omega)]
  ·rw [if_neg h, if_neg (by omega)]
theorem dd_bd (U P : Int) : Bd (dd U P) := by
 intro j _
 have h1 := dg_bd U j
 have h2 := dg_bd P j
 unfold dd
 omega
theorem vi_dg {U : Int} (h : 0 ≤ U ∧ U < 65536 ^ 16) : vi 65536 (dg U) 16 = U := by
 have h1 := vi_dig (B := 65536) (by decide) U 16
 rw [Int.emod_eq_of_lt h.1 h.2] at h1
 exact h1
theorem cE_all (U P : Int) (hP : 0 ≤ P ∧ P < 65536 ^ 16) (hU : 0 ≤ U ∧ U < 65536 ^ 16) (j : Nat) (hj : j < 16) : cE (dd U P) (dg U) 16 j = dg (U - P) j := by
 have e : vi 65536 (dd U P) 16 = U - P := by
  have := vi_sub 65536 (dg U) (dg P) 16
  rw [vi_dg hP, vi_dg hU] at this
  exact this
 unfold cE
 rw [if_pos hj, dig_eq (by decide) 0 (dd U P) hj, e, Int.zero_add]
 rfl
set_option maxRecDepth 100000 in
set_option maxHeartbeats 400000 in
theorem settled_f (f : Nat → Int) (hf : Bd f) (w : World) : Calls Tryz.prog 98 #[.agg (num f)] w fun e w' => e = .returned (.agg (nm (vi 65536 f 16 % pI))) ∧ Below w.heap.size w w' := by
 obtain ⟨V, hV⟩ : ∃ V, V = vi 65536 f 16 := ⟨_, rfl⟩
 rw [← hV]
 have HF0 : Hid (Bd f ∧ vi 65536 f 16 = rdN V 0) := ⟨hf, hV.symm⟩
 have HV : Hid (-2037035976334486086268445688409378161051468393665936250636140449354381299763336706183397376 ≤ V ∧ V ≤ 2037035976334486086268445688409378161051468393665936250636140449354381299763336706183397376) := by
  rw [hV]
  exact vi_bound hf
 clear hf hV
 go_enter Tryz.func98, Tryz.ntmps98
 go_wp2_with (refine l_alloc _ rfl rfl ?_)
 obtain ⟨g, hg⟩ : ∃ g, g = w.heap.size := ⟨_, rfl⟩
 have HA0 : Hid (((w.alloc (.cells (num f) 95)).alloc (.cells (num fun _ => 0) 95)).heap[g]? = some (.cells (num f) 95 (0, 0))) := by
  rw [hg]
  exact (heap_alloc_old _ _ (by simp)).trans (heap_alloc_new _ _)
 have HR0 : Hid (((w.alloc (.cells (num f) 95)).alloc (.cells (num fun _ => 0) 95)).heap[g + 1]? = some (.cells (num fun _ => 0) 95 (0, 0))) := by
  have := heap_alloc_new (w.alloc (.cells (num f) 95)) (.cells (num fun _ => 0) 95)
  rw [World.size_alloc, ← hg] at this
  exact this
 have HB0 : Hid (Below g w ((w.alloc (.cells (num f) 95)).alloc (.cells (num fun _ => 0) 95))) := by
  rw [hg]
  exact ((Below.refl _ _).alloc (Nat.le_refl _) _).alloc (by simp) _
 generalize (w.alloc (.cells (num f) 95)).alloc (.cells (num fun _ => 0) 95) = w0 at *
 rw [← hg]
 have HG : Hid (w.heap.size ≤ g) := Nat.le_of_eq hg.symm
 clear hg
 go_loopw [3] (fun i wq => ∃ (n : Nat) (F : Nat → Int), n ≤ 3 ∧ i = .int .i64 (n : Int) ∧ (Bd F ∧ vi 65536 F 16 = rdN V n) ∧ wq.heap[g]? = some (.cells (num F) 95 (0, 0)) ∧ wq.heap[g + 1]? = some (.cells (num fun _ => 0) 95 (0, 0)) ∧ Below g w wq) (fun i _ => 3 - (intOf i).toNat)
 case atStart => exact ⟨0, f, by omega, rfl, HF0.out, HA0.out, HR0.out, HB0.out⟩
 case round =>
  clear HA0 HR0 HB0 HF0
  rename World => wa
  obtain ⟨n, F, hn, rfl, hF, ha, hr, hb⟩ := hrel
  have HA : Hid _ := ha
  have HR : Hid _ := hr
  have HB : Hid _ := hb
  have HF : Hid _ := hF
  clear ha hr hb hF
  by_cases hn3 : n < 3
  ·go_wp2_with fail
   go_loopw [4, 5] (fun c i wq => ∃ k : Nat, k ≤ 16 ∧ i = .int .i64 (k : Int) ∧ c = .int .i64 (cF 65536 0 F k) ∧ wq.heap[g]? = some (.cells (num (cD F k)) 95 (0, 0)) ∧ wq.heap[g + 1]? = some (.cells (num fun _ => 0) 95 (0, 0)) ∧ Below g w wq) (fun _ i _ => 16 - (intOf i).toNat)
   case atStart => exact ⟨0, by omega, rfl, rfl, HA.out, HR.out, HB.out⟩
   case round =>
    clear HA HR HB
    rename World => wa
    obtain ⟨k, hk, rfl, rfl, ha, hr, hb⟩ := hrel
    have HA : Hid _ := ha
    have HR : Hid _ := hr
    have HB : Hid _ := hb
    clear ha hr hb
    by_cases hk16 : k < 16
    ·have hc1 := num_cell HA.out k hk16
     have hfz := num_frozen HA.out k
     rw [cD, if_neg (Nat.lt_irrefl k)] at hc1
     have hbF := HF.out.1 k hk16
     have hbC := cF_bound (c0 := 0) HF.out.1 (by omega) k (by omega)
     obtain ⟨u, hu⟩ : ∃ u, u = F k := ⟨_, rfl⟩
     obtain ⟨c, hc⟩ : ∃ c, c = cF 65536 0 F k := ⟨_, rfl⟩
     rw [← hu] at hc1 hbF
     rw [← hc] at hbC ⊢
     have Hu : Hid _ := hu
     have Hc : Hid _ := hc
     clear hu hc
     go_wp2_with fail
     refine ⟨⟨k + 1, by omega, by rw [Int.natCast_add]; rfl, ?_, ?_, ?_, ?_⟩, ?_⟩
     ·rw [Hu.out, Hc.out]
      rfl
     ·rw [num_store HA.out k, num_congr]
      intro j _
      rw [Hu.out, Hc.out]
      exact cD_step F k j
     ·exact (Below.heap_setCell _ _ _ (g + 1) (by show g + 1 ≠ g; omega)).trans HR.out
     ·exact below_cell HB.out _ _ (by omega) _
     ·show 16 - ((k : Int) + 1).toNat < 16 - (k : Int).toNat
      omega
    ·obtain rfl : k = 16 := by omega
     obtain ⟨U, hU⟩ : ∃ U, U = vi 65536 F 16 := ⟨_, rfl⟩
     have HA1 : Hid (wa.heap[g]? = some (.cells (num (dg U)) 95 (0, 0))) := by
      rw [hU]
      exact HA.out.trans (by rw [num_congr (cD_all F)])
     have HcF : Hid (cF 65536 0 F 16 = U / 65536 ^ 16) := by
      show _ = _
      rw [cF_eq (by decide), hU, Int.zero_add]
     have hbC := cF_bound (c0 := 0) HF.out.1 (by omega) 16 (by omega)
     have HU : Hid (-2037035976334486086268445688409378161051468393665936250636140449354381299763336706183397376 ≤ U ∧ U ≤ 2037035976334486086268445688409378161051468393665936250636140449354381299763336706183397376 ∧ U = rdN V n) := by
      have := vi_bound HF.out.1
      rw [hU]
      exact ⟨this.1, this.2, HF.out.2⟩
     clear HA HF hU
     rw [HcF.out] at hbC ⊢
     have hc15 : wa.cell? ⟨g, 15, none⟩ = some (.int .i64 (dg U 15)) := num_cell HA1.out 15 (by omega)
     have hf15 := num_frozen HA1.out 15
     have hd15 : 0 ≤ dg U 15 ∧ dg U 15 < 65536 := dg_bd U 15
     have Htop : Hid (2 * (U / 65536 ^ 16) + dg U 15 / 32768 = U / 57896044618658097711785492504343953926634992332820282019728792003956564819968) := top_eq U
     have HrF : Hid (rF U = fun j => if j = 0 then dg U 0 + 19 * (U / 57896044618658097711785492504343953926634992332820282019728792003956564819968) else if j = 15 then dg U 15 % 32768 else dg U j) := rF_dg U
     have HA2 : Hid _ := num_store HA1.out 15 (dg U 15 % 32768)
     have HR2 : Hid ((wa.setCell ⟨g, 15, none⟩ (.int .i64 (dg U 15 % 32768))).heap[g + 1]? = some (.cells (num fun _ => 0) 95 (0, 0))) := (Below.heap_setCell _ _ _ (g + 1) (by show g + 1 ≠ g; omega)).trans HR.out
     have HB2 : Hid (Below g w (wa.setCell ⟨g, 15, none⟩ (.int .i64 (dg U 15 % 32768)))) := below_cell HB.out _ _ (by omega) _
     have hc0 := num_cell HA2.out 0 (by omega)
     have hf0 := num_frozen HA2.out 0
     rw [if_neg (by omega)] at hc0
     have hd0 : 0 ≤ dg U 0 ∧ dg U 0 < 65536 := dg_bd U 0
     have Hd0 : Hid (∀ j, (if j = 0 then dg U 0 + 19 * (U / 57896044618658097711785492504343953926634992332820282019728792003956564819968) else if j = 15 then dg U 15 % 32768 else dg U j) = rF U j) := by rw [HrF.out]; exact fun _ => rfl
     clear HrF
     obtain ⟨c, hc⟩ : ∃ c, c = U / 65536 ^ 16 := ⟨_, rfl⟩
     rw [← hc] at hbC Htop ⊢
     obtain ⟨y, hy⟩ : ∃ y, y = dg U 15 := ⟨_, rfl⟩
     rw [← hy] at hc15 hd15 Htop HA2 HR2 HB2 hc0 hf0 Hd0
     obtain ⟨z, hz⟩ : ∃ z, z = dg U 0 := ⟨_, rfl⟩
     rw [← hz] at hc0 hd0 Hd0
     clear hc hz hy
     go_wp2_with fail
     refine ⟨⟨n + 1, rF U, by omega, by rw [Int.natCast_add]; rfl, ⟨rF_bd HU.out.1 HU.out.2.1, ?_⟩, ?_, ?_, ?_⟩, ?_⟩
     ·rw [rF_vi, HU.out.2.2]
      rfl
     ·rw [Htop.out, num_store HA2.out 0, num_congr]
      intro j _
      exact Hd0.out j
     ·exact (Below.heap_setCell _ _ _ (g + 1) (by show g + 1 ≠ g; omega)).trans HR2.out
     ·exact below_cell HB2.out _ _ (by omega) _
     ·show 3 - ((n : Int) + 1).toNat < 3 - (n : Int).toNat
      omega
  ·obtain rfl : n = 3 := by omega
   obtain ⟨U, hU⟩ : ∃ U, U = vi 65536 F 16 := ⟨_, rfl⟩
   have HU : Hid (0 ≤ U ∧ U < 57896044618658097711785492504343953926634992332820282019728792003956564819968 ∧ U % pI = V % pI) := by
    rw [hU, HF.out.2]
    exact rdN_all HV.out.1 HV.out.2
   have HBd : Hid (Bd F) := HF.out.1
   have HUF : Hid (U = vi 65536 F 16) := hU
   clear HF hU
   go_wp2_with fail
   go_loopw [8, 9] (fun c i wq => ∃ k : Nat, k ≤ 16 ∧ i = .int .i64 (k : Int) ∧ c = .int .i64 (cF 65536 0 F k) ∧ wq.heap[g]? = some (.cells (num (cD F k)) 95 (0, 0)) ∧ wq.heap[g + 1]? = some (.cells (num fun _ => 0) 95 (0, 0)) ∧ Below g w wq) (fun _ i _ => 16 - (intOf i).toNat)
   case atStart => exact ⟨0, by omega, rfl, rfl, HA.out, HR.out, HB.out⟩
   case round =>
    clear HA HR HB
    rename World => wa
    obtain ⟨k, hk, rfl, rfl, ha, hr, hb⟩ := hrel
    have HA : Hid _ := ha
    have HR : Hid _ := hr
    have HB : Hid _ := hb
    clear ha hr hb
    by_cases hk16 : k < 16
    ·have hc1 := num_cell HA.out k hk16
     have hfz := num_frozen HA.out k
     rw [cD, if_neg (Nat.lt_irrefl k)] at hc1
     have hbF := HBd.out k hk16
     have hbC := cF_bound (c0 := 0) HBd.out (by omega) k (by omega)
     obtain ⟨u, hu⟩ : ∃ u, u = F k := ⟨_, rfl⟩
     obtain ⟨c, hc⟩ : ∃ c, c = cF 65536 0 F k := ⟨_, rfl⟩
     rw [← hu] at hc1 hbF
     rw [← hc] at hbC ⊢
     have Hu : Hid _ := hu
     have Hc : Hid _ := hc
     clear hu hc
     go_wp2_with fail
     refine ⟨⟨k + 1, by omega, by rw [Int.natCast_add]; rfl, ?_, ?_, ?_, ?_⟩, ?_⟩
     ·rw [Hu.out, Hc.out]
      rfl
     ·rw [num_store HA.out k, num_congr]
      intro j _
      rw [Hu.out, Hc.out]
      exact cD_step F k j
     ·exact (Below.heap_setCell _ _ _ (g + 1) (by show g + 1 ≠ g; omega)).trans HR.out
     ·exact below_cell HB.out _ _ (by omega) _
     ·show 16 - ((k : Int) + 1).toNat < 16 - (k : Int).toNat
      omega
    ·obtain rfl : k = 16 := by omega
     have HA1 : Hid (wa.heap[g]? = some (.cells (nm U) 95 (0, 0))) := by
      rw [HUF.out]
      exact HA.out.trans (by rw [num_congr (cD_all F)]; rfl)
     have Hbel : Hid (∀ w, Calls Tryz.prog 92 #[.agg (nm U)] w fun e w' => e = .returned (.bool (decide (U < pI))) ∧ Below w.heap.size w w') := below_f U HU.out.1 (Int.lt_trans HU.out.2.1 (by decide))
     clear HA HBd HUF
     obtain ⟨cc, hcc⟩ : ∃ cc, cc = cF 65536 0 F 16 := ⟨_, rfl⟩
     rw [← hcc]
     clear hcc
     go_wp2_with (refine l_load rfl _ rfl g (dg U) rfl HA1.out ?_)
     refine (Hbel.out _).mono ?_
     rintro e w1 ⟨rfl, hb1⟩
     have HA2 : Hid (w1.heap[g]? = some (.cells (nm U) 95 (0, 0))) := (hb1.block _ (Array.getElem?_eq_some_iff.1 HA1.out).1).trans HA1.out
     have HR2 : Hid (w1.heap[g + 1]? = some (.cells (num fun _ => 0) 95 (0, 0))) := (hb1.block _ (Array.getElem?_eq_some_iff.1 HR.out).1).trans HR.out
     have HB2 : Hid (Below g w w1) := HB.out.trans (hb1.mono (Nat.le_of_lt (Array.getElem?_eq_some_iff.1 HA1.out).1))
     clear hb1 HA1 HR HB Hbel
     by_cases hlt : U < pI
     ·have hdl := decide_eq_true hlt
      have HE : Hid (U = V % pI) := by
       have h1 := HU.out
       show _ = _
       rw [← h1.2.2]
       exact (Int.emod_eq_of_lt h1.1 hlt).symm
      clear hlt
      go_wp2_with (first | refine l_load rfl _ rfl g (dg U) rfl HA2.out ?_ | refine l_store rfl _ _ rfl (g + 1) _ _ rfl rfl HR2.out ?_)
      refine Own.ret_row Tryz.results98 rfl (g + 1) 95 _ (0, 0) _ rfl (setRow_heap _ _ _ _ _ _ HR2.out) Tryz.underlying95 rfl (by rw [num_size]; kernel_rfl) ⟨?_, ?_⟩
      ·rw [← HE.out]
       rfl
      ·exact (HB2.out.trans ((Fw.below_setRow _ _ _).mono (by omega))).mono HG.out
     ·have hdl := decide_eq_false hlt
      have HE : Hid (U - pI = V % pI) := by
       have h1 := HU.out
       show _ = _
       rw [← h1.2.2]
       exact sub_pI h1.1 h1.2.1 hlt
      have Hpr : Hid (∀ w, Calls Tryz.prog 97 #[] w fun e w' => e = .returned (.agg (nm pI)) ∧ Below w.heap.size w w') := prime_f
      clear hlt
      go_wp2_with fail
      refine (Hpr.out _).mono ?_
      rintro e w2 ⟨rfl, hb2⟩
      have HA3 : Hid (w2.heap[g]? = some (.cells (nm U) 95 (0, 0))) := (hb2.block _ (Array.getElem?_eq_some_iff.1 HA2.out).1).trans HA2.out
      have HR3 : Hid (w2.heap[g + 1]? = some (.cells (num fun _ => 0) 95 (0, 0))) := (hb2.block _ (Array.getElem?_eq_some_iff.1 HR2.out).1).trans HR2.out
      have HB3 : Hid (Below g w w2) := HB2.out.trans (hb2.mono (Nat.le_of_lt (Array.getElem?_eq_some_iff.1 HA2.out).1))
      clear hb2 HA2 HR2 HB2 Hpr
      obtain ⟨P, hP⟩ : ∃ P, P = pI := ⟨_, rfl⟩
      rw [← hP] at HE ⊢
      have HG' : Hid (P = pI) := hP
      clear hP
      obtain ⟨gp, hgp⟩ : ∃ x, x = w2.heap.size := ⟨_, rfl⟩
      have hgl : g + 1 < gp := by
       rw [hgp]
       exact (Array.getElem?_eq_some_iff.1 HR3.out).1
      go_wp2_with (first | refine l_alloc _ rfl rfl ?_ | refine l_store_new rfl _ _ rfl _ (dg P) rfl rfl ?_)
      have HP4 : Hid ((w2.alloc (.cells (num (dg P)) 95)).heap[gp]? = some (.cells (num (dg P)) 95 (0, 0))) := by
       rw [hgp]
       exact heap_alloc_new _ _
      have HA4 : Hid ((w2.alloc (.cells (num (dg P)) 95)).heap[g]? = some (.cells (nm U) 95 (0, 0))) := (heap_alloc_old _ _ (by rw [← hgp]; omega)).trans HA3.out
      have HR4 : Hid ((w2.alloc (.cells (num (dg P)) 95)).heap[g + 1]? = some (.cells (num fun _ => 0) 95 (0, 0))) := (heap_alloc_old _ _ (by rw [← hgp]; omega)).trans HR3.out
      have HB4 : Hid (Below g w (w2.alloc (.cells (num (dg P)) 95))) := HB3.out.alloc (by omega) _
      rw [← hgp]
      clear HA3 HR3 HB3 hgp
      generalize w2.alloc (.cells (num (dg P)) 95) = w3 at *
      go_loopw [8, 13] (fun c i wq => ∃ k : Nat, k ≤ 16 ∧ i = .int .i64 (k : Int) ∧ c = .int .i64 (cF 65536 0 (dd U P) k) ∧ wq.heap[g]? = some (.cells (num (cE (dd U P) (dg U) k)) 95 (0, 0)) ∧ wq.heap[g + 1]? = some (.cells (num fun _ => 0) 95 (0, 0)) ∧ wq.heap[gp]? = some (.cells (num (dg P)) 95 (0, 0)) ∧ Below g w wq) (fun _ i _ => 16 - (intOf i).toNat)
      case atStart => exact ⟨0, by omega, rfl, rfl, HA4.out, HR4.out, HP4.out, HB4.out⟩
      case round =>
       clear HA4 HR4 HP4 HB4
       rename World => wa
       obtain ⟨k, hk, rfl, rfl, ha, hr, hp, hb⟩ := hrel
       have HA : Hid _ := ha
       have HR : Hid _ := hr
       have HP : Hid _ := hp
       have HB : Hid _ := hb
       clear ha hr hp hb
       by_cases hk16 : k < 16
       ·have hc1 := num_cell HA.out k hk16
        have hfz := num_frozen HA.out k
        have hc2 := num_cell HP.out k hk16
        rw [cE, if_neg (Nat.lt_irrefl k)] at hc1
        have hbU := dg_bd U k
        have hbP := dg_bd P k
        have hbC := cF_bound (c0 := 0) (dd_bd U P) (by omega) k (by omega)
        have Hs : Hid (∀ j, (if j = k then dg U k - dg P k + cF 65536 0 (dd U P) k - (dg U k - dg P k + cF 65536 0 (dd U P) k) / 65536 * 65536 else cE (dd U P) (dg U) k j) = cE (dd U P) (dg U) (k + 1) j) := cE_step (dd U P) (dg U) k
        have Hs2 : Hid ((dg U k - dg P k + cF 65536 0 (dd U P) k) / 65536 = cF 65536 0 (dd U P) (k + 1)) := rfl
        generalize dg U k = u at *
        generalize dg P k = v at *
        generalize cF 65536 0 (dd U P) k = c at *
        go_wp2_with fail
        refine wp_region_quiet_lit (by kernel_rfl) (by kernel_rfl) ?_
        repeat (first | go_big_quiet_step (fail) | quiet_step (fail))
        refine wpQuiet_nil ?_
        intro _ hw'
        obtain ⟨nq, hw''⟩ := hw'
        subst hw''
        have hfz : (wa.drewN nq).frozen? ⟨g, k, none⟩ = false := hfz
        have hc1 : (wa.drewN nq).cell? ⟨g, k, none⟩ = some (.int .i64 u) := hc1
        have HA : Hid ((wa.drewN nq).heap[g]? = _) := HA.out
        have HR : Hid ((wa.drewN nq).heap[g + 1]? = _) := HR.out
        have HP : Hid ((wa.drewN nq).heap[gp]? = _) := HP.out
        have HB : Hid (Below g w (wa.drewN nq)) := HB.out.trans (Fw.below_drewN _ _ _)
        clear hc2
        generalize wa.drewN nq = wb at *
        go_wp2_with fail
        refine ⟨⟨k + 1, by omega, by rw [Int.natCast_add]; rfl, ?_, ?_, ?_, ?_, ?_⟩, ?_⟩
        ·rw [Hs2.out]
        ·rw [num_store HA.out k, num_congr]
         intro j _
         exact Hs.out j
        ·exact (Below.heap_setCell _ _ _ (g + 1) (by show g + 1 ≠ g; omega)).trans HR.out
        ·exact (Below.heap_setCell _ _ _ gp (by show gp ≠ g; omega)).trans HP.out
        ·exact below_cell HB.out _ _ (by omega) _
        ·show 16 - ((k : Int) + 1).toNat < 16 - (k : Int).toNat
         omega
       ·obtain rfl : k = 16 := by omega
        have HA5 : Hid (wa.heap[g]? = some (.cells (num (dg (V % P))) 95 (0, 0))) := by
         rw [← HE.out]
         exact HA.out.trans (by rw [num_congr (cE_all U P (by rw [HG'.out]; exact ⟨pI_0, pI_1⟩) ⟨HU.out.1, Int.lt_trans HU.out.2.1 (by decide)⟩)])
        clear HA
        generalize cF 65536 0 (dd U P) 16 = cx at *
        go_wp2_with (first | refine l_load rfl _ rfl g (dg (V % P)) rfl HA5.out ?_ | refine l_store rfl _ _ rfl (g + 1) _ _ rfl rfl HR.out ?_)
        refine Own.ret_row Tryz.results98 rfl (g + 1) 95 _ (0, 0) _ rfl (setRow_heap _ _ _ _ _ _ HR.out) Tryz.underlying95 rfl (by rw [num_size]; kernel_rfl) ⟨?_, ?_⟩
        ·rw [← HG'.out]
         rfl
        ·exact (HB.out.trans ((Fw.below_setRow _ _ _).mono (by omega))).mono HG.out
end Dc
end Go.Proofs.YtbojijefenfbgaaGreatDoor
namespace Go.Proofs.YtbojijefenfbgaaGreatDoor
open Go.RowKit
namespace Dc
open Bt
theorem al1 {w w0 : World} {A : Array Value} {s : TypeId} (h : w.alloc (.cells A s) = w0) : w0.heap[w.heap.size]? = some (.cells A s (0, 0)) ∧ Below w.heap.size w w0 := by
 subst h
 exact ⟨heap_alloc_new _ _, (Below.refl _ _).alloc (Nat.le_refl _) _⟩
theorem al2 {w w0 : World} {A B : Array Value} {s t : TypeId} (h : (w.alloc (.cells A s)).alloc (.cells B t) = w0) : w0.heap[w.heap.size]? = some (.cells A s (0, 0)) ∧ w0.heap[w.heap.size + 1]? = some (.cells B t (0, 0)) ∧ Below w.heap.size w w0 := by
 obtain ⟨h1, h2⟩ := al1 h
 have h3 := al1 (w := w) (A := A) (s := s) rfl
 rw [World.size_alloc] at h1 h2
 exact ⟨(h2.block _ (Nat.lt_succ_self _)).trans h3.1, h1, h3.2.trans (h2.mono (Nat.le_succ _))⟩
theorem al3 {w w0 : World} {A B C : Array Value} {s t u : TypeId} (h : ((w.alloc (.cells A s)).alloc (.cells B t)).alloc (.cells C u) = w0) : w0.heap[w.heap.size]? = some (.cells A s (0, 0)) ∧ w0.heap[w.heap.size + 1]? = some (.cells B t (0, 0)) ∧ w0.heap[w.heap.size + 1 + 1]? = some (.cells C u (0, 0)) ∧ Below w.heap.size w w0 := by
 obtain ⟨h1, h2⟩ := al1 h
 have h3 := al2 (w := w) (A := A) (s := s) (B := B) (t := t) rfl
 rw [World.size_alloc, World.size_alloc] at h1 h2
 exact ⟨(h2.block _ (by omega)).trans h3.1, (h2.block _ (by omega)).trans h3.2.1, h1, h3.2.2.trans (h2.mono (by omega))⟩
theorem al4 {w w0 : World} {A B C D : Array Value} {s t u v : TypeId} (h : (((w.alloc (.cells A s)).alloc (.cells B t)).alloc (.cells C u)).alloc (.cells D v) = w0) : w0.heap[w.heap.size]? = some (.cells A s (0, 0)) ∧ w0.heap[w.heap.size + 1]? = some (.cells B t (0, 0)) ∧ w0.heap[w.heap.size + 1 + 1]? = some (.cells C u (0, 0)) ∧ w0.heap[w.heap.size + 1 + 1 + 1]? = some (.cells D v (0, 0)) ∧ Below w.heap.size w w0 := by
 obtain ⟨h1, h2⟩ := al1 h
 have h3 := al3 (w := w) (A := A) (s := s) (B := B) (t := t) (C := C) (u := u) rfl
 rw [World.size_alloc, World.size_alloc, World.size_alloc] at h1 h2
 exact ⟨(h2.block _ (by omega)).trans h3.1, (h2.block _ (by omega)).trans h3.2.1, (h2.block _ (by omega)).trans h3.2.2.1, h1, h3.2.2.2.trans (h2.mono (by omega))⟩
def sA (F G : Nat → Int) (k j : Nat) : Int := if j < k then F j + G j else F j
theorem sA_step (F G : Nat → Int) (k j : Nat) : (if j = k then F k + G k else sA F G k j) = sA F G (k + 1) j := by
 unfold sA
 by_cases e : j = k
 ·subst e
  rw [if_pos rfl, if_pos (by omega)]
 ·rw [if_neg e]
  by_cases h : j < k
  ·rw [if_pos h, if_pos (by omega)]
  ·rw [if_neg h, if_neg (by omega)]
set_option maxRecDepth 100000 in
set_option maxHeartbeats 400000 in
theorem add_i (n m : Int) (hn : 0 ≤ n ∧ n < 65536 ^ 16) (hm : 0 ≤ m ∧ m < 65536 ^ 16) (w : World) : Calls Tryz.prog 94 #[.agg (nm n), .agg (nm m)] w fun e w' => e = .returned (.agg (nm ((n + m) % pI))) ∧ Below w.heap.size w w' := by
 obtain ⟨r, hR⟩ : ∃ r, num r = nm ((n + m) % pI) := ⟨_, rfl⟩
 have Hset : Hid (∀ w, Calls Tryz.prog 98 #[.agg (num (sA (dg n) (dg m) 16))] w fun e w' => e = .returned (.agg (num r)) ∧ Below w.heap.size w w') := by
  have e : vi 65536 (sA (dg n) (dg m) 16) 16 = n + m := by
   have h := vi_add 65536 (dg n) (dg m) 16
   rw [vi_dg hn, vi_dg hm] at h
   rw [← h]
   exact vi_congr fun j hj => if_pos hj
  rw [hR, ← e]
  refine settled_f _ fun j hj => ?_
  have h1 := dg_bd n j
  have h2 := dg_bd m j
  unfold sA
  rw [if_pos hj]
  omega
 rw [← hR]
 clear hR hn hm
 go_enter Tryz.func94, Tryz.ntmps94
 go_wp2_with (refine l_alloc _ rfl rfl ?_)
 generalize hw0 : World.alloc _ _ = w0
 obtain ⟨g, hg⟩ : ∃ g, g = w.heap.size := ⟨_, rfl⟩
 have h0 := al3 hw0
 rw [← hg] at h0 ⊢
 have HA0 : Hid _ := h0.1
 have HM0 : Hid _ := h0.2.1
 have HR0 : Hid _ := h0.2.2.1
 have HB0 : Hid _ := h0.2.2.2
 have HG : Hid (w.heap.size ≤ g) := Nat.le_of_eq hg.symm
 clear hg hw0 h0
 go_loopw [5] (fun i wq => ∃ k : Nat, k ≤ 16 ∧ i = .int .i64 (k : Int) ∧ wq.heap[g]? = some (.cells (num (sA (dg n) (dg m) k)) 95 (0, 0)) ∧ wq.heap[g + 1]? = some (.cells (nm m) 95 (0, 0)) ∧ wq.heap[g + 1 + 1]? = some (.cells (num fun _ => 0) 95 (0, 0)) ∧ Below g w wq) (fun i _ => 16 - (intOf i).toNat)
 case atStart => exact ⟨0, by omega, rfl, HA0.out, HM0.out, HR0.out, HB0.out⟩
 case round =>
  clear HA0 HM0 HR0 HB0
  rename World => wa
  obtain ⟨k, hk, rfl, ha, hm, hr, hb⟩ := hrel
  have HA : Hid _ := ha
  have HM : Hid _ := hm
  have HR : Hid _ := hr
  have HB : Hid _ := hb
  clear ha hm hr hb
  by_cases hk16 : k < 16
  ·have hc1 : wa.cell? ⟨g, k, none⟩ = some (.int .i64 (sA (dg n) (dg m) k k)) := num_cell HA.out k hk16
   have hfz := num_frozen HA.out k
   have hc2 : wa.cell? ⟨g + 1, k, none⟩ = some (.int .i64 (dg m k)) := num_cell HM.out k hk16
   rw [sA, if_neg (Nat.lt_irrefl k)] at hc1
   have hbU := dg_bd n k
   have hbP := dg_bd m k
   have Hs : Hid (∀ j, (if j = k then dg n k + dg m k else sA (dg n) (dg m) k j) = sA (dg n) (dg m) (k + 1) j) := sA_step (dg n) (dg m) k
   generalize dg n k = u at *
   generalize dg m k = v at *
   go_wp2_with fail
   refine wp_region_still_tail 9 (by kernel_rfl) (by kernel_rfl) ?_
   simp only [List.take_succ_cons, List.take_zero, List.drop_succ_cons, List.drop_zero]
   repeat still_step
   refine wpStill_nil ?_
   go_wp2_with fail
   refine ⟨⟨k + 1, by omega, by rw [Int.natCast_add]; rfl, ?_, ?_, ?_, ?_⟩, ?_⟩
   ·refine (num_store HA.out k _).trans ?_
    rw [num_congr]
    intro j _
    exact Hs.out j
   ·exact (Below.heap_setCell _ _ _ (g + 1) (by show g + 1 ≠ g; omega)).trans HM.out
   ·exact (Below.heap_setCell _ _ _ (g + 1 + 1) (by show g + 1 + 1 ≠ g; omega)).trans HR.out
   ·exact (below_cell HB.out _ _ (by omega) _).drew
   ·show 16 - ((k : Int) + 1).toNat < 16 - (k : Int).toNat
    omega
  ·obtain rfl : k = 16 := by omega
   go_wp2_with (refine l_load rfl _ rfl g _ rfl HA.out ?_)
   refine (Hset.out _).mono ?_
   rintro e w1 ⟨rfl, hb1⟩
   have HR1 : Hid (w1.heap[g + 1 + 1]? = some (.cells (num fun _ => 0) 95 (0, 0))) := (hb1.block _ (Array.getElem?_eq_some_iff.1 HR.out).1).trans HR.out
   have HB1 : Hid (Below g w w1) := HB.out.trans (hb1.mono (Nat.le_of_lt (Array.getElem?_eq_some_iff.1 HA.out).1))
   clear hb1
   go_wp2_with (refine l_store rfl _ _ rfl (g + 1 + 1) _ _ rfl rfl HR1.out ?_)
   exact Own.ret_row Tryz.results94 rfl (g + 1 + 1) 95 _ (0, 0) _ rfl (setRow_heap _ _ _ _ _ _ HR1.out) Tryz.underlying95 rfl (by rw [num_size]; kernel_rfl) ⟨rfl, (HB1.out.trans ((Fw.below_setRow _ _ _).mono (by omega))).mono HG.out⟩
end Dc
end Go.Proofs.YtbojijefenfbgaaGreatDoor
namespace Go.Proofs.YtbojijefenfbgaaGreatDoor
open Go.RowKit
namespace Dc
open Bt
def sB (F G H : Nat → Int) (k j : Nat) : Int := if j < k then F j - G j + H j else F j
theorem sB_step (F G H : Nat → Int) (k j : Nat) : (if j = k then F k - G k + H k else sB F G H k j) = sB F G H (k + 1) j := by
 unfold sB
 by_cases e : j = k
 ·subst e
  rw [if_pos rfl, if_pos (by omega)]
 ·rw [if_neg e]
  by_cases h : j < k
  ·rw [if_pos h, if_pos (by omega)]
  ·rw [if_neg h, if_neg (by omega)]
set_option maxRecDepth 100000 in
set_option maxHeartbeats 400000 in
theorem sub_i (n m : Int) (hn : 0 ≤ n ∧ n < 65536 ^ 16) (hm : 0 ≤ m ∧ m < 65536 ^ 16) (w : World) : Calls Tryz.prog 42 #[.agg (nm n), .agg (nm m)] w fun e w' => e = .returned (.agg (nm ((n - m) % pI))) ∧ Below w.heap.size w w' := by
 obtain ⟨r, hR⟩ : ∃ r, num r = nm ((n - m) % pI) := ⟨_, rfl⟩
 have Hset : Hid (∀ w, Calls Tryz.prog 98 #[.agg (num (sB (dg n) (dg m) (dg pI) 16))] w fun e w' => e = .returned (.agg (num r)) ∧ Below w.heap.size w w') := by
  have e : vi 65536 (sB (dg n) (dg m) (dg pI) 16) 16 % pI = (n - m) % pI := by
   have h := vi_add 65536 (fun j => dg n j - dg m j) (dg pI) 16
   rw [vi_sub, vi_dg hn, vi_dg hm, vi_dg ⟨pI_0, pI_1⟩] at h
   rw [vi_congr (f := sB (dg n) (dg m) (dg pI) 16) (g := fun j => dg n j - dg m j + dg pI j) fun j hj => if_pos hj, h]
   exact Int.add_emod_right _ _
  rw [hR, ← e]
  refine settled_f _ fun j hj => ?_
  have h1 := dg_bd n j
  have h2 := dg_bd m j
  have h3 := dg_bd pI j
  unfold sB
  rw [if_pos hj]
  omega
 rw [← hR]
 clear hR hn hm
 have Hpr : Hid (∀ w, Calls Tryz.prog 97 #[] w fun e w' => e = .returned (.agg (nm pI)) ∧ Below w.heap.size w w') := prime_f
 generalize pI = P at *
 go_enter Tryz.func42, Tryz.ntmps42
 go_wp2_with (refine l_alloc _ rfl rfl ?_)
 generalize hw0 : World.alloc _ _ = w0
 obtain ⟨g, hg⟩ : ∃ g, g = w.heap.size := ⟨_, rfl⟩
 have h0 := al3 hw0
 rw [← hg] at h0 ⊢
 have HA0 : Hid _ := h0.1
 have HM0 : Hid _ := h0.2.1
 have HR0 : Hid _ := h0.2.2.1
 have HB0 : Hid _ := h0.2.2.2
 have HG : Hid (w.heap.size ≤ g) := Nat.le_of_eq hg.symm
 clear hg hw0 h0
 refine (Hpr.out _).mono ?_
 rintro e w1 ⟨rfl, hb1⟩
 have HA1 : Hid (w1.heap[g]? = _) := (hb1.block _ (Array.getElem?_eq_some_iff.1 HA0.out).1).trans HA0.out
 have HM1 : Hid (w1.heap[g + 1]? = _) := (hb1.block _ (Array.getElem?_eq_some_iff.1 HM0.out).1).trans HM0.out
 have HR1 : Hid (w1.heap[g + 1 + 1]? = _) := (hb1.block _ (Array.getElem?_eq_some_iff.1 HR0.out).1).trans HR0.out
 have HB1 : Hid (Below g w w1) := HB0.out.trans (hb1.mono (Nat.le_of_lt (Array.getElem?_eq_some_iff.1 HA0.out).1))
 clear hb1 HA0 HM0 HR0 HB0
 obtain ⟨gp, hgp⟩ : ∃ x, x = w1.heap.size := ⟨_, rfl⟩
 have hgl : g + 1 + 1 < gp := by
  rw [hgp]
  exact (Array.getElem?_eq_some_iff.1 HR1.out).1
 go_wp2_with (first | refine l_alloc _ rfl rfl ?_ | refine l_store_new rfl _ _ rfl _ (dg P) rfl rfl ?_)
 generalize hw0 : World.alloc _ _ = w2
 have h0 := al1 hw0
 rw [← hgp] at h0 ⊢
 have HP2 : Hid _ := h0.1
 have HA2 : Hid (w2.heap[g]? = _) := (h0.2.block _ (by omega)).trans HA1.out
 have HM2 : Hid (w2.heap[g + 1]? = _) := (h0.2.block _ (by omega)).trans HM1.out
 have HR2 : Hid (w2.heap[g + 1 + 1]? = _) := (h0.2.block _ (by omega)).trans HR1.out
 have HB2 : Hid (Below g w w2) := HB1.out.trans (h0.2.mono (by omega))
 clear hgp hw0 h0 HA1 HM1 HR1 HB1
 go_loopw [6] (fun i wq => ∃ k : Nat, k ≤ 16 ∧ i = .int .i64 (k : Int) ∧ wq.heap[g]? = some (.cells (num (sB (dg n) (dg m) (dg P) k)) 95 (0, 0)) ∧ wq.heap[g + 1]? = some (.cells (nm m) 95 (0, 0)) ∧ wq.heap[g + 1 + 1]? = some (.cells (num fun _ => 0) 95 (0, 0)) ∧ wq.heap[gp]? = some (.cells (num (dg P)) 95 (0, 0)) ∧ Below g w wq) (fun i _ => 16 - (intOf i).toNat)
 case atStart => exact ⟨0, by omega, rfl, HA2.out, HM2.out, HR2.out, HP2.out, HB2.out⟩
 case round =>
  clear HA2 HM2 HR2 HB2 HP2
  rename World => wa
  obtain ⟨k, hk, rfl, ha, hm, hr, hp, hb⟩ := hrel
  have HA : Hid _ := ha
  have HM : Hid _ := hm
  have HR : Hid _ := hr
  have HP : Hid _ := hp
  have HB : Hid _ := hb
  clear ha hm hr hb hp
  by_cases hk16 : k < 16
  ·have hc1 : wa.cell? ⟨g, k, none⟩ = some (.int .i64 (sB (dg n) (dg m) (dg P) k k)) := num_cell HA.out k hk16
   have hfz := num_frozen HA.out k
   have hc2 : wa.cell? ⟨g + 1, k, none⟩ = some (.int .i64 (dg m k)) := num_cell HM.out k hk16
   have hc3 : wa.cell? ⟨gp, k, none⟩ = some (.int .i64 (dg P k)) := num_cell HP.out k hk16
   rw [sB, if_neg (Nat.lt_irrefl k)] at hc1
   have hbU := dg_bd n k
   have hbM := dg_bd m k
   have hbP := dg_bd P k
   have Hs : Hid (∀ j, (if j = k then dg n k - dg m k + dg P k else sB (dg n) (dg m) (dg P) k j) = sB (dg n) (dg m) (dg P) (k + 1) j) := sB_step (dg n) (dg m) (dg P) k
   generalize dg n k = u at *
   generalize dg m k = v at *
   generalize dg P k = z at *
   go_wp2_with fail
   refine wp_region_still_tail 13 (by kernel_rfl) (by kernel_rfl) ?_
   simp only [List.take_succ_cons, List.take_zero, List.drop_succ_cons, List.drop_zero]
   repeat still_step
   refine wpStill_nil ?_
   go_wp2_with fail
   refine ⟨⟨k + 1, by omega, by rw [Int.natCast_add]; rfl, ?_, ?_, ?_, ?_, ?_⟩, ?_⟩
   ·refine (num_store HA.out k _).trans ?_
    rw [num_congr]
    intro j _
    exact Hs.out j
   ·exact (Below.heap_setCell _ _ _ (g + 1) (by show g + 1 ≠ g; omega)).trans HM.out
   ·exact (Below.heap_setCell _ _ _ (g + 1 + 1) (by show g + 1 + 1 ≠ g; omega)).trans HR.out
   ·exact (Below.heap_setCell _ _ _ gp (by show gp ≠ g; omega)).trans HP.out
   ·exact (below_cell HB.out _ _ (by omega) _).drew
   ·show 16 - ((k : Int) + 1).toNat < 16 - (k : Int).toNat
    omega
  ·obtain rfl : k = 16 := by omega
   go_wp2_with (refine l_load rfl _ rfl g _ rfl HA.out ?_)
   refine (Hset.out _).mono ?_
   rintro e w1 ⟨rfl, hb1⟩
   have HR1 : Hid (w1.heap[g + 1 + 1]? = some (.cells (num fun _ => 0) 95 (0, 0))) := (hb1.block _ (Array.getElem?_eq_some_iff.1 HR.out).1).trans HR.out
   have HB1 : Hid (Below g w w1) := HB.out.trans (hb1.mono (Nat.le_of_lt (Array.getElem?_eq_some_iff.1 HA.out).1))
   clear hb1
   go_wp2_with (refine l_store rfl _ _ rfl (g + 1 + 1) _ _ rfl rfl HR1.out ?_)
   exact Own.ret_row Tryz.results42 rfl (g + 1 + 1) 95 _ (0, 0) _ rfl (setRow_heap _ _ _ _ _ _ HR1.out) Tryz.underlying95 rfl (by rw [num_size]; kernel_rfl) ⟨rfl, (HB1.out.trans ((Fw.below_setRow _ _ _).mono (by omega))).mono HG.out⟩
end Dc
end Go.Proofs.YtbojijefenfbgaaGreatDoor

/- Walk of the document's summed. -/
/- Walk of the document's Bytes. -/
import Derived.Test.YtbojijefenfbgaaGreatDoorTkSignE
import Derived.Test.YtbojijefenfbgaaGreatDoorTkDocN
namespace Go.Proofs.YtbojijefenfbgaaGreatDoor
open Go.RowKit
namespace Dc
open Bt Ed Cw
/-- Thirty-three parts. -/
def num3 (f : Nat → Int) : Array Value := Own.mkRow 33 fun j => .int .i64 (f j)
theorem num3_cell {w : World} {b : Nat} {f : Nat → Int} {t : TypeId} (h : w.heap[b]? = some (.cells (num3 f) t (0, 0))) (j : Nat) (hj : j < 33) : w.cell? ⟨b, j, none⟩ = some (.int .i64 (f j)) := Own.row_cell h j hj
theorem num3_frozen {w : World} {b : Nat} {f : Nat → Int} {t : TypeId} (h : w.heap[b]? = some (.cells (num3 f) t (0, 0))) (j : Nat) : w.frozen? ⟨b, j, none⟩ = false := Own.row_frozen h j
theorem num3_store {w : World} {b : Nat} {f : Nat → Int} {t : TypeId} (h : w.heap[b]? = some (.cells (num3 f) t (0, 0))) (i : Nat) (v : Int) : (w.setCell ⟨b, i, none⟩ (.int .i64 v)).heap[b]? = some (.cells (num3 fun j => if j = i then v else f j) t (0, 0)) := by
  refine (Own.row_store h i _).trans (congrArg (fun r => some (Obj.cells r t (0, 0))) (Own.mkRow_congr fun j _ => ?_))
  by_cases e : j = i
  · show _ = Value.int .i64 (if j = i then v else f j)
    rw [if_pos e, if_pos e]
  · show _ = Value.int .i64 (if j = i then v else f j)
    rw [if_neg e, if_neg e]
theorem mRow_vi' (B : Int) (a b : Nat → Int) (i L : Nat) (W : Nat → Int) (k : Nat) (hk : i + k ≤ L) : vi B (mRow a b i W k) L = vi B W L + a i * B ^ i * vi B b k := by
  induction k with
  | zero => simp [mRow, vi]
  | succ k ih =>
    rw [mRow, vi_set B (mRow a b i W k) (i + k) L _ (by omega), ih (by omega), show vi B b (k + 1) = vi B b k + b k * B ^ k from rfl, Int.mul_add, Int.pow_add]
    generalize B ^ i = p
    generalize B ^ k = q
    rw [show mRow a b i W k (i + k) + a i * b k - mRow a b i W k (i + k) = a i * b k by omega, show a i * b k * (p * q) = a i * p * (b k * q) by rw [Int.mul_assoc, Int.mul_assoc, Int.mul_left_comm (b k)]]
    omega
def sUp (r W : Nat → Int) (i j : Nat) : Int := if j = i then W i + r i else W j
def sAll (r a b : Nat → Int) : Nat → Nat → Int
  | 0 => fun _ => 0
  | i + 1 => mRow a b i (sUp r (sAll r a b i) i) 16
theorem zero_vi (B : Int) (n : Nat) : vi B (fun _ => 0) n = 0 := by
  induction n with
  | zero => rfl
  | succ n ih => rw [vi, ih, Int.zero_mul]; rfl
theorem sAll_vi (B : Int) (r a b : Nat → Int) (i : Nat) (hi : i ≤ 16) : vi B (sAll r a b i) 33 = vi B r i + vi B a i * vi B b 16 := by
  induction i with
  | zero =>
    show vi B (fun _ => 0) 33 = 0 + 0 * _
    rw [zero_vi, Int.zero_mul]
    rfl
  | succ i ih =>
    rw [sAll, mRow_vi' B a b i 33 _ 16 (by omega), show vi B (sUp r (sAll r a b i) i) 33 = vi B (sAll r a b i) 33 + (sAll r a b i i + r i - sAll r a b i i) * B ^ i from vi_set B (sAll r a b i) i 33 _ (by omega), ih (by omega), show vi B a (i + 1) = vi B a i + a i * B ^ i from rfl, show vi B r (i + 1) = vi B r i + r i * B ^ i from rfl, Int.add_mul, show sAll r a b i i + r i - sAll r a b i i = r i by omega]
    omega
theorem sUp_lo {r W : Nat → Int} {c : Int} (hr : ∀ j, 0 ≤ r j ∧ r j < 65536) (hW : Lo c W) (i : Nat) : Lo (c + 1) (sUp r W i) := by
  intro j
  have h1 := hr i
  have h2 := hW i
  have h3 := hW j
  unfold sUp
  split <;> omega
theorem sAll_lo {r a b : Nat → Int} (hr : ∀ j, 0 ≤ r j ∧ r j < 65536) (ha : ∀ j, 0 ≤ a j ∧ a j < 65536) (hb : ∀ j, 0 ≤ b j ∧ b j < 65536) (i : Nat) : Lo (17 * i) (sAll r a b i) := by
  induction i with
  | zero => exact fun j => ⟨Int.le_refl _, by show (0 : Int) ≤ _; omega⟩
  | succ i ih =>
    have h := mRow_lo ha hb (i := i) (sUp_lo hr ih i) 16
    intro j
    have := h j
    refine ⟨this.1, ?_⟩
    rw [show sAll r a b (i + 1) = mRow a b i (sUp r (sAll r a b i) i) 16 from rfl]
    omega
theorem cF_nonneg {f : Nat → Int} (hf : ∀ j, 0 ≤ f j) (k : Nat) : 0 ≤ cF 65536 0 f k := by
  induction k with
  | zero => exact Int.le_refl _
  | succ k ih =>
    have := hf k
    show 0 ≤ (f k + cF 65536 0 f k) / 65536
    omega
def cH (W : Nat → Int) (k j : Nat) : Int := if j < k then (W j + cF 65536 0 W j) % 65536 else W j
theorem cH_step (W : Nat → Int) (k j : Nat) : (if j = k then (W k + cF 65536 0 W k) % 65536 else cH W k j) = cH W (k + 1) j := by
  unfold cH
  by_cases e : j = k
  · subst e
    rw [if_pos rfl, if_pos (by omega)]
  · rw [if_neg e]
    by_cases h : j < k
    · rw [if_pos h, if_pos (by omega)]
    · rw [if_neg h, if_neg (by omega)]
theorem cH_all (W : Nat → Int) (j : Nat) (hj : j < 33) : cH W 33 j = dg (vi 65536 W 33) j := by
  unfold cH dg
  rw [if_pos hj, dig_eq (by decide) 0 W hj, Int.zero_add]
theorem sum_int (R K M : Nat) (hR : R < 65536 ^ 16) (hK : K < 65536 ^ 16) (hM : M < 65536 ^ 16) : vi 65536 (sAll (dg (R : Int)) (dg (K : Int)) (dg (M : Int)) 16) 33 = ((R + K * M : Nat) : Int) := by
  have hb : ∀ N : Nat, N < 65536 ^ 16 → 0 ≤ (N : Int) ∧ (N : Int) < 65536 ^ 16 := fun N hN => ⟨Int.natCast_nonneg _, by have h := Int.ofNat_lt.2 hN; rw [Int.natCast_pow] at h; exact h⟩
  rw [sAll_vi _ _ _ _ _ (Nat.le_refl _), vi_dg (hb R hR), vi_dg (hb K hK), vi_dg (hb M hM)]
  rw [Int.natCast_add, Int.natCast_mul]
theorem sum_lt' (n R K M : Nat) (hn : n = 33) (hR : R < 65536 ^ 16) (hK : K < 65536 ^ 16) (hM : M < 65536 ^ 16) : R + K * M < 2 ^ (16 * n) := by
  have h1 : K * M ≤ 65536 ^ 16 * 65536 ^ 16 := Nat.mul_le_mul (Nat.le_of_lt hK) (Nat.le_of_lt hM)
  have e : (2 : Nat) ^ (16 * n) = 65536 ^ 16 * 65536 ^ 16 * 65536 := by
    rw [Nat.pow_mul, hn, ← Nat.pow_add, ← Nat.pow_succ]
  have h2 : (65536 : Nat) ^ 16 ≤ 65536 ^ 16 * 65536 ^ 16 := Nat.le_mul_of_pos_right _ (Nat.pow_pos (by decide))
  rw [e]
  generalize (65536 : Nat) ^ 16 * 65536 ^ 16 = q at *
  generalize (65536 : Nat) ^ 16 = p at *
  omega
theorem rest_33 (n b cap N : Nat) (hn : n = 33) (hN : N < 2 ^ (16 * n)) (w : World) (hc : ∀ j, j < 33 → w.cell? ⟨b, j, none⟩ = some (.int .i64 (dg (N : Int) j))) (hb : b < w.heap.size) :
    Calls Tryz.prog 44 #[.slice (some ⟨b, 0, none⟩) 33 cap] w fun e w' => e = .returned (.agg (nm ((N % Sw.LL : Nat) : Int))) ∧ Below w.heap.size w w' := by
  have h := rest_d b cap n N hN (by omega) w (fun j hj => hc j (by omega)) hb
  rw [hn] at h
  exact h
theorem al5 {w w0 : World} {A B C D E : Array Value} {s t u v x : TypeId} (h : ((((w.alloc (.cells A s)).alloc (.cells B t)).alloc (.cells C u)).alloc (.cells D v)).alloc (.cells E x) = w0) : w0.heap[w.heap.size]? = some (.cells A s (0, 0)) ∧ w0.heap[w.heap.size + 1]? = some (.cells B t (0, 0)) ∧ w0.heap[w.heap.size + 1 + 1]? = some (.cells C u (0, 0)) ∧ w0.heap[w.heap.size + 1 + 1 + 1]? = some (.cells D v (0, 0)) ∧ w0.heap[w.heap.size + 1 + 1 + 1 + 1]? = some (.cells E x (0, 0)) ∧ Below w.heap.size w w0 := by
  obtain ⟨h1, h2⟩ := al1 h
  have h3 := al4 (w := w) (A := A) (s := s) (B := B) (t := t) (C := C) (u := u) (D := D) (v := v) rfl
  rw [World.size_alloc, World.size_alloc, World.size_alloc, World.size_alloc] at h1 h2
  exact ⟨(h2.block _ (by omega)).trans h3.1, (h2.block _ (by omega)).trans h3.2.1, (h2.block _ (by omega)).trans h3.2.2.1, (h2.block _ (by omega)).trans h3.2.2.2.1, h1, h3.2.2.2.2.trans (h2.mono (by omega))⟩
set_option maxRecDepth 100000 in
set_option maxHeartbeats 1000000 in
theorem summed_d (R K M : Nat) (hR : R < 65536 ^ 16) (hK : K < 65536 ^ 16) (hM : M < 65536 ^ 16) (w : World) : Calls Tryz.prog 128 #[.agg (nm (R : Int)), .agg (nm (K : Int)), .agg (nm (M : Int))] w fun e w' => e = .returned (.agg (nm (((R + K * M) % Sw.LL : Nat) : Int))) ∧ Below w.heap.size w w' := by
  obtain ⟨E, hE⟩ : ∃ E, num E = nm (((R + K * M) % Sw.LL : Nat) : Int) := ⟨_, rfl⟩
  have Hrest : Hid (∀ b w, b < w.heap.size → (∀ j, j < 33 → w.cell? ⟨b, j, none⟩ = some (.int .i64 (dg (vi 65536 (sAll (dg (R : Int)) (dg (K : Int)) (dg (M : Int)) 16) 33) j))) → Calls Tryz.prog 44 #[.slice (some ⟨b, 0, none⟩) 33 33] w fun e w' => e = .returned (.agg (num E)) ∧ Below w.heap.size w w') := by
    intro b w hb hc
    rw [sum_int R K M hR hK hM] at hc
    rw [hE]
    exact rest_33 33 b 33 (R + K * M) rfl (sum_lt' 33 R K M rfl hR hK hM) w hc hb
  rw [← hE]
  clear hE hR hK hM
  have Hbr : Hid (∀ j, 0 ≤ dg (R : Int) j ∧ dg (R : Int) j < 65536) := dg_bd _
  have Hbk : Hid (∀ j, 0 ≤ dg (K : Int) j ∧ dg (K : Int) j < 65536) := dg_bd _
  have Hbm : Hid (∀ j, 0 ≤ dg (M : Int) j ∧ dg (M : Int) j < 65536) := dg_bd _
  unfold nm
  generalize dg (R : Int) = r at *
  generalize dg (K : Int) = kk at *
  generalize dg (M : Int) = mm at *
  go_enter Tryz.func128, Tryz.ntmps128
  go_wp2_with (first | refine l_alloc _ rfl rfl ?_ | (at_make; refine Own.wpList_make_at _ rfl _ _ 25 rfl 3 (.int .i64 0) 8 Tryz.underlying25 info_int rfl .i64 .i64 _ _ 33 rfl rfl rfl rfl (by decide) (by decide) ?_))
  generalize hw0 : World.alloc _ _ = w0
  obtain ⟨g, hg⟩ : ∃ g, g = w.heap.size := ⟨_, rfl⟩
  have h0 := al5 hw0
  rw [← hg] at h0 ⊢
  have HA0 : Hid _ := h0.1
  have HK0 : Hid _ := h0.2.1
  have HM0 : Hid _ := h0.2.2.1
  have HR0 : Hid _ := h0.2.2.2.1
  have HW0 : Hid (w0.heap[g + 1 + 1 + 1 + 1]? = some (.cells (num3 (sAll r kk mm 0)) 3 (0, 0))) := h0.2.2.2.2.1
  have HB0 : Hid _ := h0.2.2.2.2.2
  have HG : Hid (w.heap.size ≤ g) := Nat.le_of_eq hg.symm
  clear hg hw0 h0
  go_loopw [8] (fun i wq => ∃ k : Nat, k ≤ 16 ∧ i = .int .i64 (k : Int) ∧ wq.heap[g]? = some (.cells (num r) 95 (0, 0)) ∧ wq.heap[g + 1]? = some (.cells (num kk) 95 (0, 0)) ∧ wq.heap[g + 1 + 1]? = some (.cells (num mm) 95 (0, 0)) ∧ wq.heap[g + 1 + 1 + 1]? = some (.cells (num fun _ => 0) 95 (0, 0)) ∧ wq.heap[g + 1 + 1 + 1 + 1]? = some (.cells (num3 (sAll r kk mm k)) 3 (0, 0)) ∧ Below g w wq) (fun i _ => 16 - (intOf i).toNat)
  case atStart => exact ⟨0, by omega, rfl, HA0.out, HK0.out, HM0.out, HR0.out, HW0.out, HB0.out⟩
  case round =>
    clear HA0 HK0 HM0 HR0 HB0 HW0
    rename World => wa
    obtain ⟨i, hi, rfl, ha, hk, hm, hr, hp, hb⟩ := hrel
    have HA : Hid _ := ha
    have HK : Hid _ := hk
    have HM : Hid _ := hm
    have HR : Hid _ := hr
    have HW : Hid _ := hp
    have HB : Hid _ := hb
    clear ha hk hm hr hb hp
    have HL : Hid (Lo (17 * i) (sAll r kk mm i)) := sAll_lo Hbr.out Hbk.out Hbm.out i
    by_cases hi16 : i < 16
    · have hc1 := num_cell HA.out i hi16
      have hc3 := num3_cell HW.out i (by omega)
      have hfz := num3_frozen HW.out i
      have hbU := Hbr.out i
      have hbW := HL.out i
      have Hs : Hid ((fun j => if j = i then sAll r kk mm i i + r i else sAll r kk mm i j) = sUp r (sAll r kk mm i) i) := rfl
      have HLu : Hid (Lo (17 * i + 1) (sUp r (sAll r kk mm i) i)) := sUp_lo Hbr.out HL.out i
      have Hend : Hid (mRow kk mm i (sUp r (sAll r kk mm i) i) 16 = sAll r kk mm (i + 1)) := rfl
      generalize sAll r kk mm i i = z at *
      obtain ⟨u, hu⟩ : ∃ u, u = r i := ⟨_, rfl⟩
      rw [← hu] at hc1 hbU Hs
      clear hu HL
      have hws : IntKind.i64.wrap (z + u) = z + u := wrap64 (by omega) (by omega)
      clear hbU hbW
      go_wp2_with fail
      refine Qt.wp_lit_tail 11 (by kernel_rfl) (by kernel_rfl) ?_
      simp only [List.take_succ_cons, List.take_zero, List.drop_succ_cons, List.drop_zero]
      repeat (first | go_big_quiet_step (fail) | quiet_step (fail))
      refine wpQuiet_nil ?_
      intro _ hw'
      obtain ⟨nq, hw''⟩ := hw'
      subst hw''
      have HA1 : Hid (((wa.drewN nq).setCell ⟨g + 1 + 1 + 1 + 1, i, none⟩ (.int .i64 (z + u))).heap[g]? = _) := (Below.heap_setCell _ _ _ g (by show g ≠ g + 1 + 1 + 1 + 1; omega)).trans HA.out
      have HK1 : Hid (((wa.drewN nq).setCell ⟨g + 1 + 1 + 1 + 1, i, none⟩ (.int .i64 (z + u))).heap[g + 1]? = _) := (Below.heap_setCell _ _ _ (g + 1) (by show g + 1 ≠ g + 1 + 1 + 1 + 1; omega)).trans HK.out
      have HM1 : Hid (((wa.drewN nq).setCell ⟨g + 1 + 1 + 1 + 1, i, none⟩ (.int .i64 (z + u))).heap[g + 1 + 1]? = _) := (Below.heap_setCell _ _ _ (g + 1 + 1) (by show g + 1 + 1 ≠ g + 1 + 1 + 1 + 1; omega)).trans HM.out
      have HR1 : Hid (((wa.drewN nq).setCell ⟨g + 1 + 1 + 1 + 1, i, none⟩ (.int .i64 (z + u))).heap[g + 1 + 1 + 1]? = _) := (Below.heap_setCell _ _ _ (g + 1 + 1 + 1) (by show g + 1 + 1 + 1 ≠ g + 1 + 1 + 1 + 1; omega)).trans HR.out
      have HW1 : Hid (((wa.drewN nq).setCell ⟨g + 1 + 1 + 1 + 1, i, none⟩ (.int .i64 (z + u))).heap[g + 1 + 1 + 1 + 1]? = some (.cells (num3 (sUp r (sAll r kk mm i) i)) 3 (0, 0))) := by
        rw [← Hs.out]
        exact num3_store (w := wa.drewN nq) HW.out i _
      have HB1 : Hid (Below g w ((wa.drewN nq).setCell ⟨g + 1 + 1 + 1 + 1, i, none⟩ (.int .i64 (z + u)))) := below_cell (HB.out.trans (Fw.below_drewN _ _ _)) _ _ (by omega) _
      clear HA HK HM HR HW HB
      go_wp2_with fail
      generalize (wa.drewN nq).setCell ⟨g + 1 + 1 + 1 + 1, i, none⟩ (.int .i64 (z + u)) = wb at *
      go_loopw [9] (fun x wq => ∃ k : Nat, k ≤ 16 ∧ x = .int .i64 (k : Int) ∧ wq.heap[g]? = some (.cells (num r) 95 (0, 0)) ∧ wq.heap[g + 1]? = some (.cells (num kk) 95 (0, 0)) ∧ wq.heap[g + 1 + 1]? = some (.cells (num mm) 95 (0, 0)) ∧ wq.heap[g + 1 + 1 + 1]? = some (.cells (num fun _ => 0) 95 (0, 0)) ∧ wq.heap[g + 1 + 1 + 1 + 1]? = some (.cells (num3 (mRow kk mm i (sUp r (sAll r kk mm i) i) k)) 3 (0, 0)) ∧ Below g w wq) (fun x _ => 16 - (intOf x).toNat)
      case atStart => exact ⟨0, by omega, rfl, HA1.out, HK1.out, HM1.out, HR1.out, HW1.out, HB1.out⟩
      case round =>
        clear HA1 HK1 HM1 HR1 HB1 HW1 Hs hc1 hc3 hfz
        rename World => wa
        obtain ⟨k, hk, rfl, ha, hkk, hm, hr, hp, hb⟩ := hrel
        have HA : Hid _ := ha
        have HK : Hid _ := hkk
        have HM : Hid _ := hm
        have HR : Hid _ := hr
        have HW : Hid _ := hp
        have HB : Hid _ := hb
        clear ha hkk hm hr hb hp
        obtain ⟨W, hW⟩ : ∃ W, W = sUp r (sAll r kk mm i) i := ⟨_, rfl⟩
        rw [← hW] at HW HLu Hend
        by_cases hk16 : k < 16
        · have hc1 := num_cell HK.out i hi16
          have hc2 := num_cell HM.out k hk16
          have hc3 := num3_cell HW.out (i + k) (by omega)
          have hfz := num3_frozen HW.out (i + k)
          have hbU := Hbk.out i
          have hbM := Hbm.out k
          have hpr := prod_bd hbU hbM
          have hbW := mRow_lo Hbk.out Hbm.out (i := i) HLu.out k (i + k)
          have Hs : Hid ((fun j => if j = i + k then mRow kk mm i W k (i + k) + kk i * mm k else mRow kk mm i W k j) = mRow kk mm i W (k + 1)) := rfl
          generalize mRow kk mm i W k (i + k) = y at *
          obtain ⟨u2, hu2⟩ : ∃ u, u = kk i := ⟨_, rfl⟩
          obtain ⟨v2, hv2⟩ : ∃ u, u = mm k := ⟨_, rfl⟩
          rw [← hu2] at hc1 hbU hpr Hs
          rw [← hv2] at hc2 hbM hpr Hs
          have HWW : Hid _ := hW
          clear hu2 hv2 hW
          obtain ⟨p, hp⟩ : ∃ p, p = i + k := ⟨_, rfl⟩
          rw [← hp] at hc3 hfz Hs
          have hp33 : p < 33 := by omega
          have hwp : IntKind.i64.wrap ((i : Int) + (k : Int)) = (p : Int) := by rw [hp, Int.natCast_add]; exact wrap64 (by omega) (by omega)
          have hwm : IntKind.i64.wrap (u2 * v2) = u2 * v2 := wrap64 (by omega) (by omega)
          have hwt : IntKind.i64.wrap (y + u2 * v2) = y + u2 * v2 := wrap64 (by omega) (by omega)
          clear hp hpr hbW hbU hbM hws
          go_wp2_with fail
          refine Qt.wp_lit_tail 19 (by kernel_rfl) (by kernel_rfl) ?_
          simp only [List.take_succ_cons, List.take_zero, List.drop_succ_cons, List.drop_zero]
          repeat (first | go_big_quiet_step (fail) | quiet_step (fail))
          refine wpQuiet_nil ?_
          intro _ hw'
          obtain ⟨nq, hw''⟩ := hw'
          subst hw''
          go_wp2_with fail
          refine ⟨⟨k + 1, by omega, by rw [Int.natCast_add]; rfl, ?_, ?_, ?_, ?_, ?_, ?_⟩, ?_⟩
          · exact (Below.heap_setCell _ _ _ g (by show g ≠ g + 1 + 1 + 1 + 1; omega)).trans HA.out
          · exact (Below.heap_setCell _ _ _ (g + 1) (by show g + 1 ≠ g + 1 + 1 + 1 + 1; omega)).trans HK.out
          · exact (Below.heap_setCell _ _ _ (g + 1 + 1) (by show g + 1 + 1 ≠ g + 1 + 1 + 1 + 1; omega)).trans HM.out
          · exact (Below.heap_setCell _ _ _ (g + 1 + 1 + 1) (by show g + 1 + 1 + 1 ≠ g + 1 + 1 + 1 + 1; omega)).trans HR.out
          · refine (num3_store (w := wa.drewN nq) HW.out p _).trans ?_
            rw [Hs.out, ← HWW.out]
          · exact below_cell (HB.out.trans (Fw.below_drewN _ _ _)) _ _ (by omega) _
          · show 16 - ((k : Int) + 1).toNat < 16 - (k : Int).toNat
            omega
        · obtain rfl : k = 16 := by omega
          rw [Hend.out] at HW
          clear hW HLu Hend
          go_wp2_with fail
          refine ⟨⟨i + 1, by omega, by rw [Int.natCast_add]; rfl, HA.out, HK.out, HM.out, HR.out, HW.out, HB.out⟩, ?_⟩
          show 16 - ((i : Int) + 1).toNat < 16 - (i : Int).toNat
          omega
    · obtain rfl : i = 16 := by omega
      generalize sAll r kk mm 16 = W at *
      have HW' : Hid (wa.heap[g + 1 + 1 + 1 + 1]? = some (.cells (num3 (cH W 0)) 3 (0, 0))) := HW.out
      clear HA HK HM HW
      go_wp2_with fail
      go_loopw [10, 11] (fun x y wq => ∃ k : Nat, k ≤ 33 ∧ y = .int .i64 (k : Int) ∧ x = .int .i64 (cF 65536 0 W k) ∧ wq.heap[g + 1 + 1 + 1]? = some (.cells (num fun _ => 0) 95 (0, 0)) ∧ wq.heap[g + 1 + 1 + 1 + 1]? = some (.cells (num3 (cH W k)) 3 (0, 0)) ∧ Below g w wq) (fun _ y _ => 33 - (intOf y).toNat)
      case atStart => exact ⟨0, by omega, rfl, rfl, HR.out, HW'.out, HB.out⟩
      case round =>
        clear HR HW' HB
        rename World => wa
        obtain ⟨k, hk, rfl, rfl, hr, hp, hb⟩ := hrel
        have HR : Hid _ := hr
        have HW : Hid _ := hp
        have HB : Hid _ := hb
        clear hr hb hp
        by_cases hk33 : k < 33
        · have hc1 := num3_cell HW.out k hk33
          have hfz := num3_frozen HW.out k
          rw [cH, if_neg (Nat.lt_irrefl k)] at hc1
          have hbW := HL.out k
          have hbC := cF_bound (c0 := 0) (n := 33) (f := W) (fun j _ => by have := HL.out j; omega) (by omega) k (by omega)
          have hbN := cF_nonneg (fun j => (HL.out j).1) k
          have Hs1 : Hid ((W k + cF 65536 0 W k) / 65536 = cF 65536 0 W (k + 1)) := rfl
          have Hs2 : Hid (∀ j, (if j = k then (W k + cF 65536 0 W k) % 65536 else cH W k j) = cH W (k + 1) j) := cH_step W k
          generalize cF 65536 0 W k = v at *
          obtain ⟨u, hu⟩ : ∃ u, u = W k := ⟨_, rfl⟩
          rw [← hu] at hc1 hbW Hs1 Hs2
          clear hu
          go_wp2_with fail
          refine ⟨⟨k + 1, by omega, by rw [Int.natCast_add]; rfl, by rw [Hs1.out], ?_, ?_, ?_⟩, ?_⟩
          · exact (Below.heap_setCell _ _ _ (g + 1 + 1 + 1) (by show g + 1 + 1 + 1 ≠ g + 1 + 1 + 1 + 1; omega)).trans HR.out
          · refine (num3_store HW.out k _).trans (congrArg (fun r => some (Obj.cells r 3 (0, 0))) (Own.mkRow_congr fun j _ => ?_))
            exact congrArg (Value.int .i64) (Hs2.out j)
          · exact below_cell HB.out _ _ (by omega) _
          · show 33 - ((k : Int) + 1).toNat < 33 - (k : Int).toNat
            omega
        · obtain rfl : k = 33 := by omega
          have Hcells : Hid (∀ j, j < 33 → wa.cell? ⟨g + 1 + 1 + 1 + 1, j, none⟩ = some (.int .i64 (dg (vi 65536 W 33) j))) := fun j hj => by rw [num3_cell HW.out j hj, cH_all W j hj]
          have Hlt : Hid (g + 1 + 1 + 1 + 1 < wa.heap.size) := (Array.getElem?_eq_some_iff.1 HW.out).1
          generalize cF 65536 0 W 33 = cy at *
          clear HL HW
          go_wp2_with fail
          refine (Hrest.out _ _ Hlt.out Hcells.out).mono ?_
          rintro e w1 ⟨rfl, hb1⟩
          have HR1 : Hid (w1.heap[g + 1 + 1 + 1]? = some (.cells (num fun _ => 0) 95 (0, 0))) := (hb1.block _ (Array.getElem?_eq_some_iff.1 HR.out).1).trans HR.out
          have HB1 : Hid (Below g w w1) := HB.out.trans (hb1.mono (by have := Hlt.out; omega))
          clear hb1
          go_wp2_with (refine l_store rfl _ _ rfl (g + 1 + 1 + 1) _ _ rfl rfl HR1.out ?_)
          exact Own.ret_row Tryz.results128 rfl (g + 1 + 1 + 1) 95 _ (0, 0) _ rfl (setRow_heap _ _ _ _ _ _ HR1.out) Tryz.underlying95 rfl (by rw [num_size]; kernel_rfl) ⟨rfl, (HB1.out.trans ((Fw.below_setRow _ _ _).mono (by omega))).mono HG.out⟩
end Dc
end Go.Proofs.YtbojijefenfbgaaGreatDoor
namespace Go.Proofs.YtbojijefenfbgaaGreatDoor
open Go.RowKit
namespace Dc
open Bt Ed Cw
theorem dg_addT (N b : Int) (h0 : 0 ≤ N) (hN : N < 57896044618658097711785492504343953926634992332820282019728792003956564819968) (hb : b = 0 ∨ b = 1) (j : Nat) (hj : j < 16) : (if j = 15 then dg N 15 + 32768 * b else dg N j) = dg (N + 57896044618658097711785492504343953926634992332820282019728792003956564819968 * b) j := by
  have e : (57896044618658097711785492504343953926634992332820282019728792003956564819968 : Int) = 32768 * 65536 ^ 15 := by decide
  by_cases ej : j = 15
  · subst ej
    rw [if_pos rfl]
    unfold dg
    rw [e, show N + 32768 * 65536 ^ 15 * b = N + (32768 * b) * 65536 ^ 15 by rw [Int.mul_right_comm], Int.add_mul_ediv_right _ _ (by decide)]
    have h1 : 0 ≤ N / 65536 ^ 15 ∧ N / 65536 ^ 15 < 32768 := ⟨Int.ediv_nonneg h0 (by decide), Int.ediv_lt_of_lt_mul (by decide) (by rw [← e]; exact hN)⟩
    generalize N / 65536 ^ 15 = x at *
    omega
  · rw [if_neg ej]
    unfold dg
    have e2 : (65536 : Int) ^ 15 = 65536 ^ (14 - j) * (65536 * 65536 ^ j) := by
      rw [← Int.mul_assoc, Int.mul_comm _ 65536, Int.mul_assoc, ← Int.pow_add, ← Int.pow_succ']
      congr 1
      omega
    rw [e, e2, show N + 32768 * (65536 ^ (14 - j) * (65536 * 65536 ^ j)) * b = N + (65536 * (32768 * 65536 ^ (14 - j) * b)) * 65536 ^ j by
      generalize (65536 : Int) ^ (14 - j) = u
      generalize (65536 : Int) ^ j = v
      simp only [Int.mul_assoc, Int.mul_comm, Int.mul_left_comm]
    , Int.add_mul_ediv_right _ _ (Int.ne_of_gt (pow_pos' (by decide) j))]
    generalize N / 65536 ^ j = x
    generalize (32768 * 65536 ^ (14 - j) * b) = y
    omega
theorem load_rf {ops : Array Oper} {rest : List Oper} {o : Oper} {a : Act} {w : World} {Q : Exit → Act → World → Prop} (hg : o.guard = none) (x : Operand) (ho : o.op = .load 95 x) (b off : Nat) (v : F) (hx : a.eval x = .pointer (some ⟨b, off, none⟩)) (hr : w.rangeAt b off (rn v).toList)
    (h : wpList Tryz.prog ops Q rest (a.put o.dst (.agg (rn v))) w) : wpList Tryz.prog ops Q (o :: rest) a w :=
  wpList_load_mid hg 95 x ho b off hx (rn v).toList _ hr Tryz.underlying95 rfl (by rw [Array.length_toList, rn_size]; kernel_rfl) h
theorem odd_dg (x : F) : dg (x.val : Int) 0 % 2 = if oddF x then 1 else 0 := by
  rw [dg_nat, Nat.pow_zero, Nat.div_one]
  unfold oddF
  rcases Nat.mod_two_eq_zero_or_one x.val with h | h
  · rw [h, if_neg (by decide)]
    omega
  · rw [h, if_pos (by decide)]
    omega
theorem enc_int (x y : F) : (y.val : Int) + 57896044618658097711785492504343953926634992332820282019728792003956564819968 * (if oddF x then 1 else 0) = ((enc x y : Nat) : Int) := by
  unfold enc
  split <;> omega
set_option maxRecDepth 100000 in
set_option maxHeartbeats 400000 in
theorem bytes_d (p : T3) (w : World) : Calls Tryz.prog 51 #[.agg (tp p)] w fun e w' => e = .returned (.string ⟨(leB (enc (p.x * inv p.z) (p.y * inv p.z)) 32).toArray⟩) ∧ Below w.heap.size w w' := by
  obtain ⟨s, hs⟩ : ∃ s, s = (leB (enc (p.x * inv p.z) (p.y * inv p.z)) 32).toArray := ⟨_, rfl⟩
  obtain ⟨u, hu⟩ : ∃ u, u = inv p.z := ⟨_, rfl⟩
  have Hun : Hid (∀ w, Calls Tryz.prog 96 #[.agg (rn p.z)] w fun e w' => e = .returned (.agg (rn u)) ∧ Below w.heap.size w w') := by rw [hu]; exact under_d _
  rw [← hs]
  rw [← hu] at hs
  obtain ⟨x, hx⟩ : ∃ x, x = p.x * u := ⟨_, rfl⟩
  obtain ⟨y, hy⟩ : ∃ y, y = p.y * u := ⟨_, rfl⟩
  have Hx : Hid (∀ w, Calls Tryz.prog 93 #[.agg (rn p.x), .agg (rn u)] w fun e w' => e = .returned (.agg (rn x)) ∧ Below w.heap.size w w') := by rw [hx]; exact mul_d _ _
  have Hy : Hid (∀ w, Calls Tryz.prog 93 #[.agg (rn p.y), .agg (rn u)] w fun e w' => e = .returned (.agg (rn y)) ∧ Below w.heap.size w w') := by rw [hy]; exact mul_d _ _
  rw [← hx, ← hy] at hs
  have Hlo : Hid (∀ w, Calls Tryz.prog 104 #[.agg (nm ((enc x y : Nat) : Int))] w fun e w' => e = .returned (.string ⟨s⟩) ∧ Below w.heap.size w w') := by rw [hs]; exact low_d _
  clear hs hx hy hu
  go_enter Tryz.func51, Tryz.ntmps51
  generalize hw0 : w.alloc (.cells (tp p) 100) = w0
  have h0 := al1 hw0
  have HP0 : Hid (TAt w0 w.heap.size p) := h0.1
  have HB0 : Hid _ := h0.2
  have Hw0 : Hid _ := hw0
  clear hw0 h0
  go_wp2_with (first | (rw [Hw0.out]; refine load_rf rfl _ rfl w.heap.size 32 p.z rfl HP0.out.z ?_) | fail)
  refine (Hun.out _).mono ?_
  rintro e w1 ⟨rfl, hb1⟩
  have HP1 : Hid (TAt w1 w.heap.size p) := HP0.out.below hb1 HP0.out.lt
  have HB1 : Hid (Below w.heap.size w w1) := HB0.out.trans (hb1.mono HB0.out.size)
  clear hb1 HP0 HB0 Hw0 Hun
  obtain ⟨gu, hgu⟩ : ∃ x, x = w1.heap.size := ⟨_, rfl⟩
  have hgl : w.heap.size < gu := by
    rw [hgu]
    exact HP1.out.lt
  generalize hw0 : w1.alloc (.cells (rn u) 95) = w2
  have h0 := al1 hw0
  rw [← hgu] at h0
  have HP2 : Hid (TAt w2 w.heap.size p) := HP1.out.below h0.2 (by omega)
  have HU2 : Hid (RAt w2 gu u) := h0.1
  have HB2 : Hid (Below w.heap.size w w2) := HB1.out.trans (h0.2.mono (by omega))
  have Hw0 : Hid _ := hw0
  have Hgu : Hid _ := hgu
  clear hw0 h0 hgu
  go_wp2_with (first | refine l_alloc _ rfl rfl ?_ | (refine new_r' rfl _ _ rfl u rfl _ _ rfl rfl ?_; rw [Hw0.out, ← Hgu.out]) | refine load_rf rfl _ rfl w.heap.size 0 p.x rfl HP2.out.x ?_ | refine load_r rfl _ rfl gu u rfl HU2.out ?_)
  refine (Hx.out _).mono ?_
  rintro e w3 ⟨rfl, hb3⟩
  have HP3 : Hid (TAt w3 w.heap.size p) := HP2.out.below hb3 HP2.out.lt
  have HU3 : Hid (RAt w3 gu u) := HU2.out.below hb3 HU2.out.lt
  have HB3 : Hid (Below w.heap.size w w3) := HB2.out.trans (hb3.mono HB2.out.size)
  clear hb3 HP2 HU2 HB2 Hw0 Hgu HP1 HB1 Hx
  obtain ⟨gx, hgx⟩ : ∃ x, x = w3.heap.size := ⟨_, rfl⟩
  have hgl2 : gu < gx := by
    rw [hgx]
    exact HU3.out.lt
  generalize hw0 : w3.alloc (.cells (rn x) 95) = w4
  have h0 := al1 hw0
  rw [← hgx] at h0
  have HP4 : Hid (TAt w4 w.heap.size p) := HP3.out.below h0.2 (by omega)
  have HU4 : Hid (RAt w4 gu u) := HU3.out.below h0.2 (by omega)
  have HX4 : Hid (RAt w4 gx x) := h0.1
  have HB4 : Hid (Below w.heap.size w w4) := HB3.out.trans (h0.2.mono (by omega))
  have Hw0 : Hid _ := hw0
  have Hgx : Hid _ := hgx
  clear hw0 h0 hgx
  go_wp2_with (first | refine l_alloc _ rfl rfl ?_ | (refine new_r' rfl _ _ rfl x rfl _ _ rfl rfl ?_; rw [Hw0.out, ← Hgx.out]) | refine load_rf rfl _ rfl w.heap.size 16 p.y rfl HP4.out.y ?_ | refine load_r rfl _ rfl gu u rfl HU4.out ?_)
  refine (Hy.out _).mono ?_
  rintro e w5 ⟨rfl, hb5⟩
  have HX5 : Hid (RAt w5 gx x) := HX4.out.below hb5 HX4.out.lt
  have HB5 : Hid (Below w.heap.size w w5) := HB4.out.trans (hb5.mono HB4.out.size)
  clear hb5 HP4 HU4 HX4 HB4 Hw0 Hgx HP3 HU3 HB3 Hy
  obtain ⟨gy, hgy⟩ : ∃ x, x = w5.heap.size := ⟨_, rfl⟩
  have hgl3 : gx < gy := by
    rw [hgy]
    exact HX5.out.lt
  generalize hw0 : w5.alloc (.cells (rn y) 95) = w6
  have h0 := al1 hw0
  rw [← hgy] at h0
  have HX6 : Hid (w6.heap[gx]? = some (.cells (num (dg (x.val : Int))) 95 (0, 0))) := by
    have := HX5.out.below h0.2 (by omega)
    unfold RAt at this
    rw [rn_def] at this
    exact this
  have HY6 : Hid (w6.heap[gy]? = some (.cells (num (dg (y.val : Int))) 95 (0, 0))) := by
    have := h0.1
    rw [rn_def] at this
    exact this
  have HB6 : Hid (Below w.heap.size w w6) := HB5.out.trans (h0.2.mono (by omega))
  have Hw0 : Hid _ := hw0
  have Hgy : Hid _ := hgy
  clear hw0 h0 hgy
  have hc15 := num_cell HY6.out 15 (by omega)
  have hf15 := num_frozen HY6.out 15
  have hc0 := num_cell HX6.out 0 (by omega)
  have hd15 := dg_bd (y.val : Int) 15
  have hd0 := dg_bd (x.val : Int) 0
  have Hodd : Hid _ := odd_dg x
  have HN7 : Hid ((w6.setCell ⟨gy, 15, none⟩ (.int .i64 (dg (y.val : Int) 15 + 32768 * (dg (x.val : Int) 0 % 2)))).heap[gy]? = some (.cells (nm ((enc x y : Nat) : Int)) 95 (0, 0))) := by
    rw [Hodd.out, ← enc_int]
    refine (num_store HY6.out 15 _).trans (congrArg (fun r => some (Obj.cells r 95 (0, 0))) (num_congr fun j hj => ?_))
    refine dg_addT (y.val : Int) _ (Int.natCast_nonneg _) ?_ ?_ j hj
    · exact Int.lt_trans (Int.ofNat_lt.2 y.isLt) (by decide)
    · split
      · exact .inr rfl
      · exact .inl rfl
  have HB7 : Hid (Below w.heap.size w (w6.setCell ⟨gy, 15, none⟩ (.int .i64 (dg (y.val : Int) 15 + 32768 * (dg (x.val : Int) 0 % 2))))) := below_cell HB6.out _ _ (by omega) _
  obtain ⟨a, ha⟩ : ∃ a, a = dg (y.val : Int) 15 := ⟨_, rfl⟩
  obtain ⟨b, hb⟩ : ∃ b, b = dg (x.val : Int) 0 := ⟨_, rfl⟩
  rw [← ha] at hc15 hd15 HN7 HB7
  rw [← hb] at hc0 hd0 HN7 HB7
  obtain ⟨E, hE⟩ : ∃ E, E = dg ((enc x y : Nat) : Int) := ⟨_, rfl⟩
  have HN8 : Hid ((w6.setCell ⟨gy, 15, none⟩ (.int .i64 (a + 32768 * (b % 2)))).heap[gy]? = some (.cells (num E) 95 (0, 0))) := by rw [hE]; exact HN7.out
  have Hlo2 : Hid (∀ w, Calls Tryz.prog 104 #[.agg (num E)] w fun e w' => e = .returned (.string ⟨s⟩) ∧ Below w.heap.size w w') := by rw [hE]; exact Hlo.out
  clear ha hb HN7 Hodd hE Hlo
  go_wp2_with (first | refine l_alloc _ rfl rfl ?_ | (refine new_r' rfl _ _ rfl y rfl _ _ rfl rfl ?_; rw [Hw0.out, ← Hgy.out]) | refine l_load rfl _ rfl gy E rfl HN8.out ?_)
  refine (Hlo2.out _).mono ?_
  rintro e w8 ⟨rfl, hb8⟩
  have HB8 : Hid (Below w.heap.size w w8) := HB7.out.trans (hb8.mono HB7.out.size)
  clear hb8
  go_wp2_with fail
  exact bodyPost_ret (v := .string ⟨s⟩) (by simp [results, Tryz.results51, go_sem]) rfl ⟨rfl, HB8.out⟩
theorem bytes_rep {e : T3} {p : Pt} (h : RepT e p) (w : World) : Calls Tryz.prog 51 #[.agg (tp e)] w fun e' w' => e' = .returned (.string ⟨(encP p).toArray⟩) ∧ Below w.heap.size w w' := by
  have := bytes_d e w
  rw [repT_x h, repT_y h] at this
  exact this
end Dc
end Go.Proofs.YtbojijefenfbgaaGreatDoor

/- Walks of the document's secret. -/
/- Walks of the document's Key, Sign. -/
/- Walk of the document's Sign. -/
/- What Right asks, in points. -/
/- The base's order; a signature is right, and with another s it is not. -/
import Derived.Test.YtbojijefenfbgaaGreatDoorTkDocR
import Derived.Test.YtbojijefenfbgaaGreatDoorTkRefHash
import Derived.Test.YtbojijefenfbgaaGreatDoorTkSignB
import Derived.Test.YtbojijefenfbgaaGreatDoorTkSignE
namespace Go.Proofs.YtbojijefenfbgaaGreatDoor
open Go.RowKit
namespace Dc
open Bt Ed Cw Sw Gw
theorem low8_div (N q : Nat) : (N - N % 8) / (8 * q) = N / (8 * q) := by
  rw [← Nat.div_div_eq_div_mul, ← Nat.div_div_eq_div_mul]
  congr 1
  omega
theorem low8_pow (N j : Nat) : (N - N % 8) / 65536 ^ (j + 1) = N / 65536 ^ (j + 1) := by
  have e : (65536 : Nat) ^ (j + 1) = 8 * (8192 * 65536 ^ j) := by
    rw [Nat.pow_succ, Nat.mul_comm, ← Nat.mul_assoc]
  rw [e]
  exact low8_div _ _
theorem mid_part (M q B c : Nat) (hq : 0 < q) : (M % (q * (B * c)) + q * (B * c)) / q % B = M / q % B := by
  rw [Nat.add_mul_div_left _ _ hq, Nat.mod_mul_right_div_self, Nat.add_mul_mod_self_left, Nat.mod_mul_right_mod]
theorem secN_eq (N : Nat) : secN N = (N - N % 8) % (65536 ^ 15 * 16384) + 65536 ^ 15 * 16384 := rfl
/-- The parts of a seed's number. -/
theorem sec_dg (N : Nat) (j : Nat) (hj : j < 16) : (if j = 15 then dg (N : Int) 15 % 16384 + 16384 else if j = 0 then dg (N : Int) 0 - dg (N : Int) 0 % 8 else dg (N : Int) j) = dg ((secN N : Nat) : Int) j := by
  by_cases h15 : j = 15
  · subst h15
    rw [if_pos rfl, dg_nat, dg_nat, secN_eq, Nat.add_mul_div_left _ _ (Nat.pow_pos (by decide)), Nat.mod_mul_right_div_self, low8_pow N 14]
    generalize N / 65536 ^ (14 + 1) = x
    omega
  · rw [if_neg h15]
    by_cases h0 : j = 0
    · subst h0
      rw [if_pos rfl, dg_nat, dg_nat, Nat.pow_zero, Nat.div_one, Nat.div_one, secN_eq]
      rw [show 65536 ^ 15 * 16384 = 65536 * (65536 ^ 14 * 16384) by decide, Nat.add_mul_mod_self_left, Nat.mod_mul_right_mod]
      omega
    · rw [if_neg h0, dg_nat, dg_nat, secN_eq]
      obtain ⟨i, rfl⟩ : ∃ i, j = i + 1 := ⟨j - 1, by omega⟩
      have e : 65536 ^ 15 * 16384 = 65536 ^ (i + 1) * (65536 * (65536 ^ (13 - i) * 16384)) := by
        rw [show (15 : Nat) = (i + 1) + 1 + (13 - i) by omega, Nat.pow_add, Nat.pow_add _ (i + 1) 1, Nat.pow_one, Nat.mul_assoc, Nat.mul_assoc]
      rw [e, mid_part _ _ _ _ (Nat.pow_pos (by decide)), low8_pow]
theorem y_num {W : World} {K : Act → Prop} {l : List Oper} {o : Oper} {a : Act} (hg : o.guard = none) (x : Operand) (ho : o.op = .load 95 x) (b : Nat) (f : Nat → Int) (hx : a.eval x = .pointer (some ⟨b, 0, none⟩)) (hb : W.heap[b]? = some (.cells (num f) 95 (0, 0)))
    (h : Qt.Lex Tryz.prog W K l (a.put o.dst (.agg (num f)))) : Qt.Lex Tryz.prog W K (o :: l) a :=
  Qt.y_row hg 95 x ho b hx 95 (num f) (0, 0) _ hb Tryz.underlying95 rfl (by rw [num_size]; kernel_rfl) h
theorem refHash_l (l : List UInt8) (hl : l.length ≤ 1000000000) (w : World) : Calls Tryz.prog 46 #[.string ⟨l.toArray⟩] w fun e w' => e = .returned (.string ⟨(Sha.sha l).toArray⟩) ∧ Below w.heap.size w w' := refHash_any ⟨l.toArray⟩ (by show l.toArray.size ≤ _; simp; omega) w
set_option maxRecDepth 100000 in
set_option maxHeartbeats 400000 in
theorem secret_d (l : List UInt8) (hl : l.length ≤ 1000000000) (w : World) : Calls Tryz.prog 127 #[.string ⟨l.toArray⟩] w fun e w' => e = .returned (.tuple #[.agg (nm ((sec l : Nat) : Int)), .string ⟨((Sha.sha l).drop 32).toArray⟩]) ∧ Below w.heap.size w w' := by
  have Hha : Hid (∀ w, Calls Tryz.prog 46 #[.string ⟨l.toArray⟩] w fun e w' => e = .returned (.string ⟨(Sha.sha l).toArray⟩) ∧ Below w.heap.size w w') := refHash_l l hl
  obtain ⟨h, hh⟩ : ∃ h, h = Sha.sha l := ⟨_, rfl⟩
  have Hlen : Hid (h.length = 64) := by rw [hh]; exact sha_len l
  have Hsec : Hid (sec l = secN (le (h.take 32))) := by rw [hh]; rfl
  rw [← hh] at Hha ⊢
  rw [Hsec.out]
  clear hh hl Hsec
  obtain ⟨N, hN⟩ : ∃ N, N = le (h.take 32) := ⟨_, rfl⟩
  have Hpa : Hid (∀ w, Calls Tryz.prog 38 #[.string ⟨(h.take 32).toArray⟩] w fun e w' => e = .returned (.agg (nm (N : Int))) ∧ Below w.heap.size w w') := by rw [hN]; exact parts_l _ (by have := Hlen.out; simp; omega)
  rw [← hN]
  clear hN
  have hli : (h.length : Int) = 64 := by have := Hlen.out; omega
  go_enter Tryz.func127, Tryz.ntmps127
  go_wp2_with (refine l_alloc _ rfl rfl ?_)
  generalize hw0 : World.alloc _ _ = w0
  have h0 := al1 hw0
  have HR0 : Hid _ := h0.1
  have HB0 : Hid _ := h0.2
  clear hw0 h0
  refine (Hha.out _).mono ?_
  rintro e w1 ⟨rfl, hb1⟩
  have HR1 : Hid (w1.heap[w.heap.size]? = _) := (hb1.block _ (Array.getElem?_eq_some_iff.1 HR0.out).1).trans HR0.out
  have HB1 : Hid (Below w.heap.size w w1) := HB0.out.trans (hb1.mono HB0.out.size)
  clear hb1 HR0 HB0 Hha
  go_wp2_with fail
  rw [ext_str, List.drop_zero]
  refine (Hpa.out _).mono ?_
  rintro e w2 ⟨rfl, hb2⟩
  have HR2 : Hid (w2.heap[w.heap.size]? = _) := (hb2.block _ (Array.getElem?_eq_some_iff.1 HR1.out).1).trans HR1.out
  have HB2 : Hid (Below w.heap.size w w2) := HB1.out.trans (hb2.mono HB1.out.size)
  clear hb2 HR1 HB1 Hpa
  obtain ⟨gn, hgn⟩ : ∃ x, x = w2.heap.size := ⟨_, rfl⟩
  have hgl : w.heap.size < gn := by
    rw [hgn]
    exact (Array.getElem?_eq_some_iff.1 HR2.out).1
  generalize hw0 : w2.alloc (.cells (num (dg (N : Int))) 95) = w3
  have h0 := al1 hw0
  rw [← hgn] at h0
  have HN3 : Hid _ := h0.1
  have HR3 : Hid (w3.heap[w.heap.size]? = _) := (h0.2.block _ hgl).trans HR2.out
  have HB3 : Hid (Below w.heap.size w w3) := HB2.out.trans (h0.2.mono (Nat.le_of_lt hgl))
  have Hw0 : Hid _ := hw0
  have Hgn : Hid _ := hgn
  clear hw0 h0 hgn HR2 HB2
  have hc0 := num_cell HN3.out 0 (by omega)
  have hf0 := num_frozen HN3.out 0
  have hd0 := dg_bd (N : Int) 0
  have hd15 := dg_bd (N : Int) 15
  have HN4 : Hid _ := num_store HN3.out 0 (dg (N : Int) 0 - dg (N : Int) 0 % 8)
  have hc15 := num_cell HN4.out 15 (by omega)
  have hf15 := num_frozen HN4.out 15
  rw [if_neg (by decide)] at hc15
  have HN5 : Hid (((w3.setCell ⟨gn, 0, none⟩ (.int .i64 (dg (N : Int) 0 - dg (N : Int) 0 % 8))).setCell ⟨gn, 15, none⟩ (.int .i64 (dg (N : Int) 15 % 16384 + 16384))).heap[gn]? = some (.cells (nm ((secN N : Nat) : Int)) 95 (0, 0))) := (num_store HN4.out 15 _).trans (congrArg (fun r => some (Obj.cells r 95 (0, 0))) (num_congr fun j hj => sec_dg N j hj))
  have HR5 : Hid (((w3.setCell ⟨gn, 0, none⟩ (.int .i64 (dg (N : Int) 0 - dg (N : Int) 0 % 8))).setCell ⟨gn, 15, none⟩ (.int .i64 (dg (N : Int) 15 % 16384 + 16384))).heap[w.heap.size]? = _) := ((Below.heap_setCell _ _ _ w.heap.size (by show w.heap.size ≠ gn; omega)).trans (Below.heap_setCell _ _ _ w.heap.size (by show w.heap.size ≠ gn; omega))).trans HR3.out
  have HB5 : Hid (Below w.heap.size w ((w3.setCell ⟨gn, 0, none⟩ (.int .i64 (dg (N : Int) 0 - dg (N : Int) 0 % 8))).setCell ⟨gn, 15, none⟩ (.int .i64 (dg (N : Int) 15 % 16384 + 16384)))) := below_cell (below_cell HB3.out _ _ (Nat.le_of_lt hgl) _) _ _ (Nat.le_of_lt hgl) _
  obtain ⟨E, hE⟩ : ∃ E, E = dg ((secN N : Nat) : Int) := ⟨_, rfl⟩
  unfold nm at HN5
  rw [← hE] at HN5
  have HE : Hid (num E = nm ((secN N : Nat) : Int)) := by rw [hE]; rfl
  clear hE HN4 HB3 HR3
  generalize dg (N : Int) 0 = a at *
  generalize dg (N : Int) 15 = b at *
  go_wp2_with (first | refine l_alloc _ rfl rfl ?_ | (refine l_store_new rfl _ _ rfl _ (dg (N : Int)) rfl rfl ?_; rw [Hw0.out, ← Hgn.out]))
  generalize (w3.setCell ⟨gn, 0, none⟩ (.int .i64 (a - a % 8))).setCell ⟨gn, 15, none⟩ (.int .i64 (b % 16384 + 16384)) = w5 at *
  clear Hw0 Hgn hc0 hf0 hd0 hd15 hc15 hf15 HN3
  refine Qt.wp_store 3 1 (by kernel_rfl) (by kernel_rfl) (by decide) (by decide) _ rfl 95 _ _ rfl w.heap.size (num fun _ => 0) (num E) HR5.out (by rw [num_size]; kernel_rfl) (by rw [num_size, num_size]) (num_one E) ?_
  refine y_num rfl _ rfl gn E rfl HN5.out ?_
  refine Qt.y_nil ?_
  refine Qt.p_t (by decide) rfl (.string ⟨h.toArray⟩) (fun _ => by kernel_rfl) ?_
  simp only [Act.put, List.setIfInBounds_toArray, List.set_cons_zero, List.set_cons_succ]
  refine Qt.p_t (by decide) rfl (.string ⟨(h.drop 32).toArray⟩) (fun w' => ?_) ?_
  · go_simp
    rw [ext_str, List.take_of_length_le (by simp)]
  simp only [Act.put, List.setIfInBounds_toArray, List.set_cons_zero, List.set_cons_succ]
  refine Qt.p_nil ?_
  refine ⟨rfl, rfl, ?_⟩
  intro w7 hb7
  have HR7 : Hid (w7.heap[w.heap.size]? = _) := (hb7.block _ (Array.getElem?_eq_some_iff.1 HR5.out).1).trans HR5.out
  have HB7 : Hid (Below w.heap.size w (w7.setRow w.heap.size (num E))) := Fw.below_store HB5.out hb7 _ (Nat.le_refl _) _
  clear hb7
  go_wp2_with fail
  exact Ww.ret_rv Tryz.results127 rfl w.heap.size 95 (num E) (0, 0) _ (.string ⟨(h.drop 32).toArray⟩) rfl rfl (setRow_heap _ _ _ _ _ _ HR7.out) Tryz.underlying95 rfl (by rw [num_size]; kernel_rfl) ⟨by rw [HE.out], HB7.out⟩
end Dc
end Go.Proofs.YtbojijefenfbgaaGreatDoor
namespace Go.Proofs.YtbojijefenfbgaaGreatDoor
open Go.RowKit
namespace Dc
open Bt Ed Cw Sw Gw
/-- The bytes of N times the base. -/
theorem baseN (N : Nat) (hN : N < 2 ^ 256) : ∃ e : T3, (∀ w, Calls Tryz.prog 48 #[.agg (tp (taff bX bY)), .agg (nm (N : Int))] w fun e' w' => e' = .returned (.agg (tp e)) ∧ Below w.heap.size w w') ∧ RepT e (mulP bP N) := by
  have h := tmul_rep bP_on (taff_rep bX bY) N hN 256 (Nat.le_refl _)
  rw [Nat.sub_self, Nat.pow_zero, Nat.div_one] at h
  exact ⟨tmul (taff bX bY) N 256, times_d _ N, h⟩
theorem sec_lt2 (l : List UInt8) : sec l < 2 ^ 256 := Nat.lt_of_lt_of_le (sec_lt l) (by decide)
set_option maxRecDepth 100000 in
set_option maxHeartbeats 400000 in
theorem refKey_d (l : List UInt8) (hl : l.length = 32) (w : World) : Calls Tryz.prog 126 #[.string ⟨l.toArray⟩] w fun e w' => e = .returned (.tuple #[.string ⟨(keyB l).toArray⟩, .int .i64 0]) ∧ Below w.heap.size w w' := by
  obtain ⟨e, Hti0, hrep⟩ := baseN (sec l) (sec_lt2 l)
  obtain ⟨kb, hkb⟩ : ∃ k, k = keyB l := ⟨_, rfl⟩
  have Hby : Hid (∀ w, Calls Tryz.prog 51 #[.agg (tp e)] w fun e' w' => e' = .returned (.string ⟨kb.toArray⟩) ∧ Below w.heap.size w w') := by rw [hkb]; exact bytes_rep hrep
  obtain ⟨E, hE⟩ : ∃ E, E = dg ((sec l : Nat) : Int) := ⟨_, rfl⟩
  obtain ⟨s2, hs2⟩ : ∃ s2, s2 = ((Sha.sha l).drop 32).toArray := ⟨_, rfl⟩
  have Hse : Hid (∀ w, Calls Tryz.prog 127 #[.string ⟨l.toArray⟩] w fun e w' => e = .returned (.tuple #[.agg (num E), .string ⟨s2⟩]) ∧ Below w.heap.size w w') := by rw [hE, hs2]; exact secret_d l (by omega)
  have Hti : Hid (∀ w, Calls Tryz.prog 48 #[.agg (tp (taff bX bY)), .agg (num E)] w fun e' w' => e' = .returned (.agg (tp e)) ∧ Below w.heap.size w w') := by rw [hE]; exact Hti0
  have Hba : Hid (∀ w, Calls Tryz.prog 49 #[] w fun e w' => e = .returned (.agg (tp (taff bX bY))) ∧ Below w.heap.size w w') := base_d
  obtain ⟨B, hB⟩ : ∃ B, B = taff bX bY := ⟨_, rfl⟩
  rw [← hkb]
  rw [← hB] at Hti Hba
  clear Hti0 hrep hkb hE hs2 hB
  have hli : (l.length : Int) = 32 := by omega
  clear hl
  go_enter Tryz.func126, Tryz.ntmps126
  go_wp2_with fail
  refine (Hse.out _).mono ?_
  rintro _ w1 ⟨rfl, hb1⟩
  have HB1 : Hid (Below w.heap.size w w1) := hb1
  clear hb1 Hse
  obtain ⟨gn, hgn⟩ : ∃ x, x = w1.heap.size := ⟨_, rfl⟩
  generalize hw0 : w1.alloc (.cells (num E) 95) = w2
  have h0 := al1 hw0
  rw [← hgn] at h0
  have HN2 : Hid _ := h0.1
  have HB2 : Hid (Below w.heap.size w w2) := HB1.out.trans (h0.2.mono (by have := HB1.out.size; omega))
  have Hw0 : Hid _ := hw0
  have Hgn : Hid _ := hgn
  clear hw0 h0 hgn HB1
  go_wp2_with (first | refine l_alloc _ rfl rfl ?_ | (refine l_store_new rfl _ _ rfl _ E rfl rfl ?_; rw [Hw0.out, ← Hgn.out]))
  refine Qt.wp_tail 4 (by kernel_rfl) (by kernel_rfl) ?_
  refine Qt.y_call rfl 49 #[] (.agg (tp B)) (fun _ => by kernel_rfl) (fun w' _ => Hba.out w') ?_
  refine y_num rfl _ rfl gn E rfl HN2.out ?_
  simp only [Act.put, List.setIfInBounds_toArray, List.set_cons_zero, List.set_cons_succ]
  refine Qt.y_call rfl 48 #[.agg (tp B), .agg (num E)] (.agg (tp e)) (fun _ => by kernel_rfl) (fun w' _ => Hti.out w') ?_
  simp only [Act.put, List.setIfInBounds_toArray, List.set_cons_zero, List.set_cons_succ]
  refine Qt.y_call rfl 51 #[.agg (tp e)] (.string ⟨kb.toArray⟩) (fun _ => by kernel_rfl) (fun w' _ => Hby.out w') ?_
  simp only [Act.put, List.setIfInBounds_toArray, List.set_cons_zero, List.set_cons_succ]
  refine Qt.y_nil ?_
  intro w3 hb3
  have HB3 : Hid (Below w.heap.size w w3) := HB2.out.trans (hb3.mono HB2.out.size)
  clear hb3
  simp only [List.drop_succ_cons, List.drop_zero]
  go_wp2_with fail
  exact bodyPost_ret (v := .tuple #[.string ⟨kb.toArray⟩, .int .i64 0]) (by simp [results, Tryz.results126, go_sem]) rfl ⟨rfl, HB3.out⟩
theorem refKey_n (l : List UInt8) (hl : l.length ≠ 32) (w : World) : Calls Tryz.prog 126 #[.string ⟨l.toArray⟩] w fun e w' => e = .returned (.tuple #[.string ⟨#[]⟩, .int .i64 1]) ∧ Below w.heap.size w w' := by
  have hli : (l.length : Int) ≠ 32 := by omega
  go_enter Tryz.func126, Tryz.ntmps126
  go_wp2_with fail
  exact bodyPost_ret (v := .tuple #[.string ⟨#[]⟩, .int .i64 1]) (by simp [results, Tryz.results126, go_sem]) rfl ⟨rfl, Below.refl _ _⟩
end Dc
end Go.Proofs.YtbojijefenfbgaaGreatDoor
namespace Go.Proofs.YtbojijefenfbgaaGreatDoor
open Go.RowKit
namespace Dc
open Bt Ed Cw Sw Gw
theorem le_lt64 (h : List UInt8) (hl : h.length = 64) (n : Nat) (hn : n = 32) : le h < 2 ^ (16 * n) := by
  have h1 := le_lt h
  rw [hl] at h1
  have e : (2 : Nat) ^ (16 * n) = 256 ^ 64 := by
    rw [Nat.pow_mul, hn, show (256 : Nat) ^ 64 = (256 ^ 2) ^ 32 by rw [← Nat.pow_mul]]
  rw [e]
  exact h1
/-- The rest of a hash's number. -/
theorem long_h (h : List UInt8) (hl : h.length = 64) (w : World) : Calls Tryz.prog 45 #[.string ⟨h.toArray⟩] w fun e w' => ∃ v, e = .returned v ∧ (∀ w'', Below w'.heap.size w' w'' → Calls Tryz.prog 44 #[v] w'' fun e w3 => e = .returned (.agg (nm ((le h % LL : Nat) : Int))) ∧ Below w''.heap.size w'' w3) ∧ Below w.heap.size w w' := by
  refine (long_d ⟨h.toArray⟩ 32 (by show h.toArray.size = _; simp [hl]) (by decide) (by decide) w).mono ?_
  rintro e w' ⟨v, rfl, ho, hb⟩
  exact ⟨v, rfl, fun w'' hw => long_rest (by decide) ho (le_lt64 h hl 32 rfl) (by decide) hw, hb⟩
theorem LL_16 {n : Nat} (h : n < LL) : n < 65536 ^ 16 := Nat.lt_trans h (by decide)
set_option maxRecDepth 100000 in
set_option maxHeartbeats 1000000 in
theorem refSign_d (l t : List UInt8) (hl : l.length = 32) (htl : t.length ≤ 900000000) (w : World) : Calls Tryz.prog 62 #[.string ⟨l.toArray⟩, .string ⟨t.toArray⟩] w fun e w' => e = .returned (.tuple #[.string ⟨(sigB l t).toArray⟩, .int .i64 0]) ∧ Below w.heap.size w w' := by
  obtain ⟨o, ho⟩ : ∃ o, o = (Sha.sha l).drop 32 := ⟨_, rfl⟩
  obtain ⟨A, hA⟩ : ∃ A, A = keyB l := ⟨_, rfl⟩
  obtain ⟨n, hn⟩ : ∃ n, n = sec l := ⟨_, rfl⟩
  obtain ⟨r, hr⟩ : ∃ r, r = rN l t := ⟨_, rfl⟩
  obtain ⟨R, hR⟩ : ∃ R, R = rB l t := ⟨_, rfl⟩
  obtain ⟨k, hk⟩ : ∃ k, k = kN (rB l t) (keyB l) t := ⟨_, rfl⟩
  have Hr : Hid (le (Sha.sha (o ++ t)) % LL = r) := by rw [hr, ho]; rfl
  have Hk : Hid (le (Sha.sha (R ++ A ++ t)) % LL = k) := by rw [hk, hR, hA]; rfl
  have Hsig : Hid (sigB l t = R ++ leB ((r + k * n) % LL) 32) := by rw [hR, hr, hk, hn]; rfl
  have hrl : r < LL := by rw [← Hr.out]; exact modL_lt _
  have hkl : k < LL := by rw [← Hk.out]; exact modL_lt _
  have hnl : n < 65536 ^ 16 := by rw [hn]; exact Nat.lt_of_lt_of_le (sec_lt2 l) (by decide)
  obtain ⟨h1, hh1⟩ : ∃ h1, h1 = Sha.sha (o ++ t) := ⟨_, rfl⟩
  obtain ⟨h2, hh2⟩ : ∃ h2, h2 = Sha.sha (R ++ A ++ t) := ⟨_, rfl⟩
  have hol : o.length = 32 := by rw [ho]; simp [sha_len]
  have hAl : A.length = 32 := by rw [hA]; exact encP_len _
  have hRl : R.length = 32 := by rw [hR]; exact encP_len _
  have Hh1 : Hid (∀ w, Calls Tryz.prog 46 #[.string ⟨(o ++ t).toArray⟩] w fun e w' => e = .returned (.string ⟨h1.toArray⟩) ∧ Below w.heap.size w w') := by rw [hh1]; exact refHash_l _ (by simp; omega)
  have Hh2 : Hid (∀ w, Calls Tryz.prog 46 #[.string ⟨(R ++ (A ++ t)).toArray⟩] w fun e w' => e = .returned (.string ⟨h2.toArray⟩) ∧ Below w.heap.size w w') := by rw [hh2, ← List.append_assoc]; exact refHash_l _ (by simp; omega)
  obtain ⟨fr, hfr⟩ : ∃ f, f = dg (r : Int) := ⟨_, rfl⟩
  obtain ⟨fk, hfk⟩ : ∃ f, f = dg (k : Int) := ⟨_, rfl⟩
  obtain ⟨fn, hfn⟩ : ∃ f, f = dg (n : Int) := ⟨_, rfl⟩
  obtain ⟨fs, hfs⟩ : ∃ f, f = dg (((r + k * n) % LL : Nat) : Int) := ⟨_, rfl⟩
  have Hl1 : Hid (∀ w, Calls Tryz.prog 45 #[.string ⟨h1.toArray⟩] w fun e w' => ∃ v, e = .returned v ∧ (∀ w'', Below w'.heap.size w' w'' → Calls Tryz.prog 44 #[v] w'' fun e w3 => e = .returned (.agg (num fr)) ∧ Below w''.heap.size w'' w3) ∧ Below w.heap.size w w') := by
    have h := long_h h1 (by rw [hh1]; exact sha_len _)
    rw [hh1, Hr.out, ← hh1] at h
    rw [hfr]
    exact h
  have Hl2 : Hid (∀ w, Calls Tryz.prog 45 #[.string ⟨h2.toArray⟩] w fun e w' => ∃ v, e = .returned v ∧ (∀ w'', Below w'.heap.size w' w'' → Calls Tryz.prog 44 #[v] w'' fun e w3 => e = .returned (.agg (num fk)) ∧ Below w''.heap.size w'' w3) ∧ Below w.heap.size w w') := by
    have h := long_h h2 (by rw [hh2]; exact sha_len _)
    rw [hh2, Hk.out, ← hh2] at h
    rw [hfk]
    exact h
  have Hke : Hid (∀ w, Calls Tryz.prog 126 #[.string ⟨l.toArray⟩] w fun e w' => e = .returned (.tuple #[.string ⟨A.toArray⟩, .int .i64 0]) ∧ Below w.heap.size w w') := by rw [hA]; exact refKey_d l hl
  have Hse : Hid (∀ w, Calls Tryz.prog 127 #[.string ⟨l.toArray⟩] w fun e w' => e = .returned (.tuple #[.agg (num fn), .string ⟨o.toArray⟩]) ∧ Below w.heap.size w w') := by rw [hfn, hn, ho]; exact secret_d l (by omega)
  obtain ⟨e, Hti0, hrep⟩ := baseN r (Nat.lt_of_lt_of_le (LL_16 hrl) (by decide))
  have Hby : Hid (∀ w, Calls Tryz.prog 51 #[.agg (tp e)] w fun e' w' => e' = .returned (.string ⟨R.toArray⟩) ∧ Below w.heap.size w w') := by rw [hR, rB, ← hr]; exact bytes_rep hrep
  have Hti : Hid (∀ w, Calls Tryz.prog 48 #[.agg (tp (taff bX bY)), .agg (num fr)] w fun e' w' => e' = .returned (.agg (tp e)) ∧ Below w.heap.size w w') := by rw [hfr]; exact Hti0
  have Hba : Hid (∀ w, Calls Tryz.prog 49 #[] w fun e w' => e = .returned (.agg (tp (taff bX bY))) ∧ Below w.heap.size w w') := base_d
  obtain ⟨B, hB⟩ : ∃ B, B = taff bX bY := ⟨_, rfl⟩
  rw [← hB] at Hti Hba
  have Hsu : Hid (∀ w, Calls Tryz.prog 128 #[.agg (num fr), .agg (num fk), .agg (num fn)] w fun e w' => e = .returned (.agg (num fs)) ∧ Below w.heap.size w w') := by rw [hfr, hfk, hfn, hfs]; exact summed_d r k n (LL_16 hrl) (LL_16 hkl) hnl
  obtain ⟨sb, hsb⟩ : ∃ sb, sb = leB ((r + k * n) % LL) 32 := ⟨_, rfl⟩
  have Hlo : Hid (∀ w, Calls Tryz.prog 104 #[.agg (num fs)] w fun e w' => e = .returned (.string ⟨sb.toArray⟩) ∧ Below w.heap.size w w') := by rw [hfs, hsb]; exact low_d _
  have hsl : sb.length = 32 := by rw [hsb]; exact leB_length _ _
  rw [Hsig.out, ← hsb]
  clear Hti0 hrep hB ho hA hn hr hR hk Hr Hk Hsig hh1 hh2 hfr hfk hfn hfs hsb hrl hkl hnl hl
  have ho' : (o.length : Int) = 32 := by omega
  have hA' : (A.length : Int) = 32 := by omega
  have hR' : (R.length : Int) = 32 := by omega
  have hs' : (sb.length : Int) = 32 := by omega
  have hx1 := app_str o t
  have hx2 := app_str R A
  have hx3 := app_str (R ++ A) t
  have hx4 := app_str R sb
  go_enter Tryz.func62, Tryz.ntmps62
  go_wp2_with fail
  refine (Hke.out _).mono ?_
  rintro _ w1 ⟨rfl, hb1⟩
  have HB1 : Hid (Below w.heap.size w w1) := hb1
  clear hb1 Hke
  go_wp2_with fail
  refine (Hse.out _).mono ?_
  rintro _ w2 ⟨rfl, hb2⟩
  have HB2 : Hid (Below w.heap.size w w2) := HB1.out.trans (hb2.mono HB1.out.size)
  clear hb2 Hse HB1
  obtain ⟨gn, hgn⟩ : ∃ x, x = w2.heap.size := ⟨_, rfl⟩
  generalize hw0 : w2.alloc (.cells (num fn) 95) = w3
  have h0 := al1 hw0
  rw [← hgn] at h0
  have HN3 : Hid (w3.heap[gn]? = some (.cells (num fn) 95 (0, 0))) := h0.1
  have HB3 : Hid (Below w.heap.size w w3) := HB2.out.trans (h0.2.mono (by have := HB2.out.size; omega))
  have Hw0 : Hid _ := hw0
  have Hgn : Hid _ := hgn
  clear hw0 h0 hgn HB2
  go_wp2_with (first | refine l_alloc _ rfl rfl ?_ | (refine l_store_new rfl _ _ rfl _ fn rfl rfl ?_; rw [Hw0.out, ← Hgn.out]))
  clear Hw0 Hgn
  refine (Hh1.out _).mono ?_
  rintro _ w4 ⟨rfl, hb4⟩
  have HX4 : Hid (Below w3.heap.size w3 w4) := hb4
  clear hb4 Hh1
  go_wp2_with fail
  refine (Hl1.out _).mono ?_
  rintro _ w5 ⟨v1, rfl, hv1, hb5⟩
  have HX5 : Hid (Below w3.heap.size w3 w5) := HX4.out.trans (hb5.mono HX4.out.size)
  have Hv1 : Hid _ := hv1
  clear hb5 hv1 HX4 Hl1
  go_wp2_with fail
  refine (Hv1.out w5 (Below.refl _ _)).mono ?_
  rintro _ w6 ⟨rfl, hb6⟩
  have HX6 : Hid (Below w3.heap.size w3 w6) := HX5.out.trans (hb6.mono HX5.out.size)
  have HN6 : Hid (w6.heap[gn]? = _) := (HX6.out.block _ (Array.getElem?_eq_some_iff.1 HN3.out).1).trans HN3.out
  have HB6 : Hid (Below w.heap.size w w6) := HB3.out.trans (HX6.out.mono HB3.out.size)
  clear hb6 Hv1 HX5 HX6 HN3 HB3
  obtain ⟨gr, hgr⟩ : ∃ x, x = w6.heap.size := ⟨_, rfl⟩
  have hgl : gn < gr := by
    rw [hgr]
    exact (Array.getElem?_eq_some_iff.1 HN6.out).1
  generalize hw0 : w6.alloc (.cells (num fr) 95) = w7
  have h0 := al1 hw0
  rw [← hgr] at h0
  have HR7 : Hid (w7.heap[gr]? = some (.cells (num fr) 95 (0, 0))) := h0.1
  have HN7 : Hid (w7.heap[gn]? = _) := (h0.2.block _ hgl).trans HN6.out
  have HB7 : Hid (Below w.heap.size w w7) := HB6.out.trans (h0.2.mono (by have := HB6.out.size; omega))
  have Hw0 : Hid _ := hw0
  have Hgr : Hid _ := hgr
  clear hw0 h0 hgr HB6 HN6
  go_wp2_with (first | refine l_alloc _ rfl rfl ?_ | (refine l_store_new rfl _ _ rfl _ fr rfl rfl ?_; rw [Hw0.out, ← Hgr.out]))
  clear Hw0 Hgr
  refine Qt.wp_tail 4 (by kernel_rfl) (by kernel_rfl) ?_
  refine Qt.y_call rfl 49 #[] (.agg (tp B)) (fun _ => by kernel_rfl) (fun w' _ => Hba.out w') ?_
  refine y_num rfl _ rfl gr fr rfl HR7.out ?_
  simp only [Act.put, List.setIfInBounds_toArray, List.set_cons_zero, List.set_cons_succ]
  refine Qt.y_call rfl 48 #[.agg (tp B), .agg (num fr)] (.agg (tp e)) (fun _ => by kernel_rfl) (fun w' _ => Hti.out w') ?_
  simp only [Act.put, List.setIfInBounds_toArray, List.set_cons_zero, List.set_cons_succ]
  refine Qt.y_call rfl 51 #[.agg (tp e)] (.string ⟨R.toArray⟩) (fun _ => by kernel_rfl) (fun w' _ => Hby.out w') ?_
  simp only [Act.put, List.setIfInBounds_toArray, List.set_cons_zero, List.set_cons_succ]
  refine Qt.y_nil ?_
  intro w8 hb8
  have HR8 : Hid (w8.heap[gr]? = _) := (hb8.block _ (Array.getElem?_eq_some_iff.1 HR7.out).1).trans HR7.out
  have HN8 : Hid (w8.heap[gn]? = _) := (hb8.block _ (Array.getElem?_eq_some_iff.1 HN7.out).1).trans HN7.out
  have HB8 : Hid (Below w.heap.size w w8) := HB7.out.trans (hb8.mono HB7.out.size)
  clear hb8 HR7 HN7 HB7
  simp only [List.drop_succ_cons, List.drop_zero]
  go_wp2_with fail
  refine (Hh2.out _).mono ?_
  rintro _ w9 ⟨rfl, hb9⟩
  have HX9 : Hid (Below w8.heap.size w8 w9) := hb9
  clear hb9 Hh2
  go_wp2_with fail
  refine (Hl2.out _).mono ?_
  rintro _ wa ⟨v2, rfl, hv2, hba⟩
  have HXa : Hid (Below w8.heap.size w8 wa) := HX9.out.trans (hba.mono HX9.out.size)
  have Hv2 : Hid _ := hv2
  clear hba hv2 HX9 Hl2
  go_wp2_with fail
  refine (Hv2.out wa (Below.refl _ _)).mono ?_
  rintro _ wb ⟨rfl, hbb⟩
  have HXb : Hid (Below w8.heap.size w8 wb) := HXa.out.trans (hbb.mono HXa.out.size)
  have HRb : Hid (wb.heap[gr]? = _) := (HXb.out.block _ (Array.getElem?_eq_some_iff.1 HR8.out).1).trans HR8.out
  have HNb : Hid (wb.heap[gn]? = _) := (HXb.out.block _ (Array.getElem?_eq_some_iff.1 HN8.out).1).trans HN8.out
  have HBb : Hid (Below w.heap.size w wb) := HB8.out.trans (HXb.out.mono HB8.out.size)
  clear hbb Hv2 HXa HXb HR8 HN8 HB8
  obtain ⟨gk, hgk⟩ : ∃ x, x = wb.heap.size := ⟨_, rfl⟩
  have hgl2 : gr < gk := by
    rw [hgk]
    exact (Array.getElem?_eq_some_iff.1 HRb.out).1
  generalize hw0 : wb.alloc (.cells (num fk) 95) = wc
  have h0 := al1 hw0
  rw [← hgk] at h0
  have HKc : Hid (wc.heap[gk]? = some (.cells (num fk) 95 (0, 0))) := h0.1
  have HRc : Hid (wc.heap[gr]? = some (.cells (num fr) 95 (0, 0))) := (h0.2.block _ hgl2).trans HRb.out
  have HNc : Hid (wc.heap[gn]? = some (.cells (num fn) 95 (0, 0))) := (h0.2.block _ (by omega)).trans HNb.out
  have HBc : Hid (Below w.heap.size w wc) := HBb.out.trans (h0.2.mono (by have := HBb.out.size; omega))
  have Hw0 : Hid _ := hw0
  have Hgk : Hid _ := hgk
  clear hw0 h0 hgk HBb HNb HRb
  go_wp2_with (first | refine l_alloc _ rfl rfl ?_ | (refine l_store_new rfl _ _ rfl _ fk rfl rfl ?_; rw [Hw0.out, ← Hgk.out]) | refine l_load rfl _ rfl gr fr rfl HRc.out ?_ | refine l_load rfl _ rfl gk fk rfl HKc.out ?_ | refine l_load rfl _ rfl gn fn rfl HNc.out ?_)
  refine (Hsu.out _).mono ?_
  rintro _ wd ⟨rfl, hbd⟩
  have HBd : Hid (Below w.heap.size w wd) := HBc.out.trans (hbd.mono HBc.out.size)
  clear hbd HBc HKc HRc HNc Hw0 Hgk
  go_wp2_with fail
  refine (Hlo.out _).mono ?_
  rintro _ we ⟨rfl, hbe⟩
  have HBe : Hid (Below w.heap.size w we) := HBd.out.trans (hbe.mono HBd.out.size)
  clear hbe HBd
  go_wp2_with fail
  exact bodyPost_ret (v := .tuple #[.string ⟨(R ++ sb).toArray⟩, .int .i64 0]) (by simp [results, Tryz.results62, go_sem]) rfl ⟨rfl, HBe.out⟩
theorem refSign_n (l t : List UInt8) (hl : l.length ≠ 32) (w : World) : Calls Tryz.prog 62 #[.string ⟨l.toArray⟩, .string ⟨t.toArray⟩] w fun e w' => e = .returned (.tuple #[.string ⟨#[]⟩, .int .i64 1]) ∧ Below w.heap.size w w' := by
  have Hke : Hid (∀ w, Calls Tryz.prog 126 #[.string ⟨l.toArray⟩] w fun e w' => e = .returned (.tuple #[.string ⟨#[]⟩, .int .i64 1]) ∧ Below w.heap.size w w') := refKey_n l hl
  clear hl
  go_enter Tryz.func62, Tryz.ntmps62
  go_wp2_with fail
  refine (Hke.out _).mono ?_
  rintro _ w1 ⟨rfl, hb1⟩
  have HB1 : Hid (Below w.heap.size w w1) := hb1
  clear hb1 Hke
  go_wp2_with fail
  exact bodyPost_ret (v := .tuple #[.string ⟨#[]⟩, .int .i64 1]) (by simp [results, Tryz.results62, go_sem]) rfl ⟨rfl, HB1.out⟩
end Dc
end Go.Proofs.YtbojijefenfbgaaGreatDoor
namespace Go.Proofs.YtbojijefenfbgaaGreatDoor
open Go.RowKit
namespace Gw
open Fw Bt Ww Sw Cw Ed
theorem lowQ_num (q : Q) : (lowQ q).num = q.num % 57896044618658097711785492504343953926634992332820282019728792003956564819968 := by
  unfold lowQ Q.num
  simp only
  rw [low_val]
  have h0 := q.a0.isLt
  have h1 := q.a1.isLt
  have h2 := q.a2.isLt
  have h3 := q.a3.isLt
  omega
theorem topQ_odd (q : Q) : decide (un (q.a3 >>> (63 : Nat)) = 1) = decide (q.num / 57896044618658097711785492504343953926634992332820282019728792003956564819968 = 1) := by
  have e : (q.a3 >>> (63 : Nat)).toNat = q.num / 57896044618658097711785492504343953926634992332820282019728792003956564819968 := by
    rw [BitVec.toNat_ushiftRight, Nat.shiftRight_eq_div_pow]
    unfold Q.num
    have h0 := q.a0.isLt
    have h1 := q.a1.isLt
    have h2 := q.a2.isLt
    have h3 := q.a3.isLt
    omega
  unfold un
  rw [e]
  by_cases h : q.num / 57896044618658097711785492504343953926634992332820282019728792003956564819968 = 1
  · rw [h]; rfl
  · rw [decide_eq_false h]
    exact decide_eq_false (by omega)
theorem enc_mod (p : Pt) : enc p.1 p.2 % 57896044618658097711785492504343953926634992332820282019728792003956564819968 = p.2.val ∧ enc p.1 p.2 / 57896044618658097711785492504343953926634992332820282019728792003956564819968 = if oddF p.1 then 1 else 0 := by
  have h : p.2.val < 57896044618658097711785492504343953926634992332820282019728792003956564819949 := p.2.isLt
  unfold enc
  split <;> omega
theorem encP_le (p : Pt) : le (encP p) = enc p.1 p.2 := le_leB 32 _ (Nat.lt_of_lt_of_le (enc_lt _ _) (by decide))
theorem encP_inj {p q : Pt} (hp : OnP p) (hq : OnP q) (h : encP p = encP q) : p = q := by
  have e : enc p.1 p.2 = enc q.1 q.2 := by rw [← encP_le, ← encP_le, h]
  have h1 := enc_mod p
  have h2 := enc_mod q
  rw [e] at h1
  have hy : p.2 = q.2 := Fin.ext (h1.1.symm.trans h2.1)
  have ho : oddF p.1 = oddF q.1 := by
    have := h1.2.symm.trans h2.2
    cases hp1 : oddF p.1 <;> cases hq1 : oddF q.1 <;> rw [hp1, hq1] at this <;> simp_all
  obtain ⟨x1, y1⟩ := p
  obtain ⟨x2, y2⟩ := q
  have hy' : y1 = y2 := hy
  subst hy'
  rw [on_unique hp hq ho]
theorem kN_lt (R A t : List UInt8) : kN R A t < LL := modL_lt _
noncomputable def decH (f : F × Bool) (odd : Bool) : E × Bool := if f.2 = false then (e0, false) else if (acrossF f.1 odd).2 = false then (e0, false) else (aff (acrossF f.1 odd).1 f.1, true)
theorem decH_true {f : F × Bool} {odd : Bool} (h : (decH f odd).2 = true) : f.2 = true ∧ (acrossF f.1 odd).2 = true ∧ (decH f odd).1 = aff (acrossF f.1 odd).1 f.1 := by
  unfold decH at *
  by_cases h1 : f.2 = false
  · rw [if_pos h1] at h; cases h
  · rw [if_neg h1] at h ⊢
    by_cases h2 : (acrossF f.1 odd).2 = false
    · rw [if_pos h2] at h; cases h
    · rw [if_neg h2]
      exact ⟨by simpa using h1, by simpa using h2, rfl⟩
theorem decH_false {y : F} {odd : Bool} (h : (decH (y, true) odd).2 = false) : (acrossF y odd).2 = false := by
  unfold decH at h
  rw [if_neg (by simp)] at h
  by_cases h2 : (acrossF y odd).2 = false
  · exact h2
  · rw [if_neg h2] at h; cases h
theorem decG_eq (q : Q) : decG q = decH (fromN (lowQ q)) (decide (un (q.a3 >>> (63 : Nat)) = 1)) := rfl
theorem fromN_val {q : Q} (h : (fromN q).2 = true) : (fromN q).1.val = q.num := by
  unfold fromN at h ⊢
  by_cases h2 : q.num < Ed.P
  · rw [dif_pos h2]
  · rw [dif_neg h2] at h; cases h
theorem enc_of {x y : F} {N : Nat} (hy : y.val = N % 57896044618658097711785492504343953926634992332820282019728792003956564819968) (ho : oddF x = decide (N / 57896044618658097711785492504343953926634992332820282019728792003956564819968 = 1)) (hN : N < 115792089237316195423570985008687907853269984665640564039457584007913129639936) : enc x y = N := by
  unfold enc
  rw [hy, ho]
  by_cases h : N / 57896044618658097711785492504343953926634992332820282019728792003956564819968 = 1
  · rw [decide_eq_true h, if_pos rfl]; omega
  · rw [decide_eq_false h, if_neg (by simp)]; omega
theorem dec_wrap {l : List UInt8} (hl : l.length = 32) {x y : F} (D : E) (h4 : OnP (x, y)) (hD : D = aff x y) (hy : y.val = (bq l).num % 57896044618658097711785492504343953926634992332820282019728792003956564819968) (h5 : oddF x = decide ((bq l).num / 57896044618658097711785492504343953926634992332820282019728792003956564819968 = 1)) : ∃ p : Pt, OnP p ∧ D = aff p.1 p.2 ∧ encP p = l := by
  refine ⟨(x, y), h4, hD, ?_⟩
  have hn := bq_num l (by omega)
  have e := enc_of hy h5 (num_lt _)
  show leB (enc x y) 32 = l
  rw [e, hn]
  have := leB_le l
  rwa [hl] at this
theorem dec_true {l : List UInt8} (h : (decF l).2 = true) : ∃ p : Pt, OnP p ∧ (decF l).1 = aff p.1 p.2 ∧ encP p = l := by
  unfold decF at h ⊢
  by_cases hl : l.length = 32
  · rw [if_pos hl] at h ⊢
    rw [decG_eq, topQ_odd] at h ⊢
    obtain ⟨h1, h2, h3⟩ := decH_true h
    obtain ⟨h4, h5⟩ := acrossF_true h2
    exact dec_wrap hl _ h4 h3 ((fromN_val h1).trans (lowQ_num (bq l))) h5
  · rw [if_neg hl] at h; cases h
theorem dec_false {l : List UInt8} (h : (decF l).2 = false) (p : Pt) (hp : OnP p) : encP p ≠ l := by
  intro he
  have hl : l.length = 32 := by rw [← he]; exact encP_len p
  have hN : (bq l).num = enc p.1 p.2 := by rw [bq_num l (by omega), ← he, encP_le]
  unfold decF at h
  rw [if_pos hl, decG_eq, topQ_odd] at h
  have hm := enc_mod p
  have hlow := lowQ_num (bq l)
  rw [hN, hm.1] at hlow
  have hf : fromN (lowQ (bq l)) = (p.2, true) := by
    unfold fromN
    rw [dif_pos (by rw [hlow]; exact p.2.isLt)]
    exact Prod.ext (Fin.ext hlow) rfl
  rw [hN, hf, hm.2] at h
  have ho : decide ((if oddF p.1 = true then 1 else 0) = 1) = oddF p.1 := by cases oddF p.1 <;> rfl
  rw [ho] at h
  exact acrossF_false (decH_false h) p.1 hp rfl
theorem sum_math {p : Pt} (hp : OnP p) (s k : Q) : sumY s k (aff p.1 p.2) = encP (padd (mulP bP s.num) (mulP (neg p) k.num)) := by
  have h := esum_all (T := TT s k (aff p.1 p.2)) (p := fun j => if j = 0 then bP else neg p) (fun j => by
    show OnP (if j = 0 then bP else neg p)
    split
    · exact bP_on
    · exact neg_on hp) (fun j => by
    show Rep (TU s k (aff bX bY) (eneg (aff p.1 p.2)) j).2 (if j = 0 then bP else neg p)
    unfold TU
    by_cases hj : j = 0
    · rw [if_pos hj, if_pos hj]; exact aff_rep bX bY
    · rw [if_neg hj, if_neg hj]; exact eneg_rep (aff_rep p.1 p.2)) 2
  have h2 : pS (fun j => if j = 0 then bP else neg p) (fun j => (TT s k (aff p.1 p.2) j).1.num) 2 = padd (mulP bP s.num) (mulP (neg p) k.num) := by
    show padd (padd zero (mulP bP s.num)) (mulP (neg p) k.num) = _
    rw [zero_padd]
  rw [h2] at h
  exact rep_bytes h
theorem right_iff (k t g : List UInt8) : rightE k t g = true ↔ g.length = 64 ∧ le (g.drop 32) < LL ∧ ∃ p : Pt, OnP p ∧ encP p = k ∧ encP (padd (mulP bP (le (g.drop 32))) (mulP (neg p) (kN (g.take 32) k t))) = g.take 32 := by
  unfold rightE
  constructor
  · intro h
    by_cases h1 : k.length = 32 ∧ g.length = 64
    · rw [if_pos h1] at h
      by_cases h2 : le (g.drop 32) < LL
      · rw [if_pos h2] at h
        by_cases h3 : (decF k).2 = true
        · rw [if_pos h3] at h
          obtain ⟨p, hp, hd, he⟩ := dec_true h3
          have h4 := of_decide_eq_true h
          rw [hd, sum_math hp, bq_num _ (by simp; omega), nq_num (LL_lt (kN_lt _ _ _))] at h4
          exact ⟨h1.2, h2, p, hp, he, h4⟩
        · rw [if_neg h3] at h; cases h
      · rw [if_neg h2] at h; cases h
    · rw [if_neg h1] at h; cases h
  · rintro ⟨hg, hs, p, hp, he, hr⟩
    have hk : k.length = 32 := by rw [← he]; exact encP_len p
    rw [if_pos ⟨hk, hg⟩, if_pos hs]
    have h3 : (decF k).2 = true := by
      cases h : (decF k).2 with
      | true => rfl
      | false => exact absurd he (dec_false h p hp)
    rw [if_pos h3]
    obtain ⟨p', hp', hd, he'⟩ := dec_true h3
    have hpp : p' = p := encP_inj hp' hp (he'.trans he.symm)
    subst hpp
    refine decide_eq_true ?_
    rw [hd, sum_math hp, bq_num _ (by simp; omega), nq_num (LL_lt (kN_lt _ _ _))]
    exact hr
end Gw
end Go.Proofs.YtbojijefenfbgaaGreatDoor
namespace Go.Proofs.YtbojijefenfbgaaGreatDoor
open Go.RowKit
namespace Ed
theorem gen_mmneg (n : Nat) [NeZero n] (a b c d : Fin n) : (-a) * (-b) * c * d = a * b * c * d := by grind
theorem gen_ne1' (n : Nat) [NeZero n] (c a b x y u : Fin n) : c * (-a * y + x * -b) * u = -(c * (a * y + x * b) * u) := by grind
theorem gen_ne2' (n : Nat) [NeZero n] (c a b x y u : Fin n) : c * (x * y + -a * -b) * u = c * (x * y + a * b) * u := by grind
theorem neg_padd (p q : Pt) : neg (padd p q) = padd (neg p) (neg q) := by
  have hm : mm (neg p) (neg q) = mm p q := gen_mmneg P p.1 q.1 p.2 q.2
  have hx : (padd (neg p) (neg q)).1 = (neg (padd p q)).1 := by
    unfold padd
    rw [hm]
    exact gen_ne1' P cC p.1 q.1 p.2 q.2 _
  have hy : (padd (neg p) (neg q)).2 = (neg (padd p q)).2 := by
    unfold padd
    rw [hm]
    exact gen_ne2' P cC p.1 q.1 p.2 q.2 _
  exact (Prod.ext hx hy).symm
theorem neg_zero : neg zero = zero := by decide
theorem mulP_neg (p : Pt) (n : Nat) : mulP (neg p) n = neg (mulP p n) := by
  induction n with
  | zero => exact neg_zero.symm
  | succ n ih =>
    show padd (mulP (neg p) n) (neg p) = neg (padd (mulP p n) p)
    rw [ih, neg_padd]
theorem mulP_zero (n : Nat) : mulP zero n = zero := by
  induction n with
  | zero => rfl
  | succ n ih =>
    show padd (mulP zero n) zero = zero
    rw [ih]; exact padd_zero zero
theorem cancel {a b c : Pt} (ha : OnP a) (hb : OnP b) (hc : OnP c) (h : padd a c = padd b c) : a = b := by
  have h1 : padd (padd a c) (neg c) = padd (padd b c) (neg c) := by rw [h]
  rw [padd_assoc ha hc (neg_on hc), padd_assoc hb hc (neg_on hc), padd_neg hc, padd_zero, padd_zero] at h1
  exact h1
section
variable {b : Pt} {L : Nat}
theorem ord_mod (hb : OnP b) (h0 : mulP b L = zero) (n : Nat) : mulP b (n % L) = mulP b n := by
  have e : mulP b n = mulP b (L * (n / L) + n % L) := by rw [Nat.div_add_mod]
  rw [e, mulP_add hb, ← mulP_mul hb, h0, mulP_zero, zero_padd]
theorem ord_zero (hL : Nt.IsPrime L) (hb : OnP b) (h0 : mulP b L = zero) (hne : b ≠ zero) {d : Nat} (hd : mulP b d = zero) : L ∣ d := by
  by_cases h : L ∣ d
  · exact h
  · have h1 := Nt.fermat_one hL d h
    have h2 : mulP b (d ^ (L - 1)) = zero := by
      have hL2 := hL.1
      rw [show L - 1 = (L - 2) + 1 by omega, Nat.pow_succ, Nat.mul_comm, ← mulP_mul hb, hd, mulP_zero]
    rw [← ord_mod hb h0, h1, mulP_one] at h2
    exact absurd h2 hne
theorem ord_inj (hL : Nt.IsPrime L) (hb : OnP b) (h0 : mulP b L = zero) (hne : b ≠ zero) {i j : Nat} (hi : i < L) (hj : j < L) (h : mulP b i = mulP b j) : i = j := by
  have key : ∀ i j, i ≤ j → j < L → mulP b i = mulP b j → i = j := by
    intro i j hij hj h
    have e : mulP b j = padd (mulP b (j - i)) (mulP b i) := by rw [← mulP_add hb, Nat.sub_add_cancel hij]
    have h1 : padd zero (mulP b i) = padd (mulP b (j - i)) (mulP b i) := by rw [zero_padd, ← e, h]
    have h2 := cancel zero_on (mulP_on hb _) (mulP_on hb _) h1
    have h3 := ord_zero hL hb h0 hne h2.symm
    rcases Nat.eq_zero_or_pos (j - i) with h4 | h4
    · omega
    · have := Nat.le_of_dvd h4 h3
      omega
  rcases Nat.le_total i j with hij | hij
  · exact key i j hij hj h
  · exact (key j i hij hi h.symm).symm
end
end Ed
namespace Gw
open Fw Bt Ww Sw Cw Ed
theorem bP_ne : bP ≠ zero := by decide
theorem key_eq (l : List UInt8) : keyB l = encP (mulP bP (sec l)) := rfl
theorem sig_take (l t : List UInt8) : (sigB l t).take 32 = rB l t := by
  unfold sigB
  rw [List.take_append_of_le_length (by rw [show (rB l t).length = 32 from encP_len _]; exact Nat.le_refl _), List.take_of_length_le (by rw [show (rB l t).length = 32 from encP_len _]; exact Nat.le_refl _)]
theorem sig_drop (l t : List UInt8) : (sigB l t).drop 32 = leB (sN l t) 32 := by
  unfold sigB
  exact List.drop_left' (encP_len _)
theorem sig_len (l t : List UInt8) : (sigB l t).length = 64 := by
  unfold sigB
  rw [List.length_append, leB_length, show (rB l t).length = 32 from encP_len _]
theorem sN_lt (l t : List UInt8) : sN l t < LL := modL_lt _
theorem sig_le (l t : List UInt8) : le ((sigB l t).drop 32) = sN l t := by
  rw [sig_drop]
  exact le_leB 32 _ (Nat.lt_of_lt_of_le (LL_lt (sN_lt l t)) (by decide))
theorem sign_math {b : Pt} (hb : OnP b) {L : Nat} (h0 : mulP b L = zero) (r k a : Nat) : padd (mulP b ((r + k * a) % L)) (mulP (neg (mulP b a)) k) = mulP b r := by
  rw [ord_mod hb h0, mulP_add hb, mulP_neg, mulP_mul hb, Nat.mul_comm k a, padd_assoc (mulP_on hb _) (mulP_on hb _) (neg_on (mulP_on hb _)), padd_neg (mulP_on hb _), padd_zero]
/-- What was signed is right. -/
theorem right_sig (h0 : mulP bP LL = zero) (l t : List UInt8) : rightE (keyB l) t (sigB l t) = true := by
  rw [right_iff]
  refine ⟨sig_len l t, by rw [sig_le]; exact sN_lt l t, mulP bP (sec l), mulP_on bP_on _, (key_eq l).symm, ?_⟩
  rw [sig_le, sig_take]
  have h := sign_math bP_on h0 (rN l t) (kN (rB l t) (keyB l) t) (sec l)
  have e : sN l t = (rN l t + kN (rB l t) (keyB l) t * sec l) % LL := rfl
  rw [e, h]
  rfl
/-- With another s it is not. -/
theorem right_other (hL : Nt.IsPrime LL) (h0 : mulP bP LL = zero) {k t g g' : List UInt8} (h : rightE k t g = true) (ht : g'.take 32 = g.take 32) (hs : le (g'.drop 32) ≠ le (g.drop 32)) : rightE k t g' = false := by
  cases h' : rightE k t g' with
  | false => rfl
  | true =>
    obtain ⟨_, h1, p, hp, he, hr⟩ := (right_iff k t g).1 h
    obtain ⟨_, h1', p', hp', he', hr'⟩ := (right_iff k t g').1 h'
    obtain rfl : p' = p := encP_inj hp' hp (he'.trans he.symm)
    rw [ht] at hr'
    have hn := mulP_on (neg_on hp) (kN (g.take 32) k t)
    have h2 := encP_inj (padd_on (mulP_on bP_on _) hn) (padd_on (mulP_on bP_on _) hn) (hr'.trans hr.symm)
    have h3 := cancel (mulP_on bP_on _) (mulP_on bP_on _) hn h2
    exact absurd (ord_inj hL bP_on h0 bP_ne h1' h1 h3) hs
end Gw
end Go.Proofs.YtbojijefenfbgaaGreatDoor

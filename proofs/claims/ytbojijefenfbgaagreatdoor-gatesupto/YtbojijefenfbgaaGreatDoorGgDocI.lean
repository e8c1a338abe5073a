/- Walks of the document's own reckoning: divided, under, curve. Points by three coordinates, as the document holds them; under. -/
import Derived.Test.YtbojijefenfbgaaGreatDoorGgShort
import Derived.Test.YtbojijefenfbgaaGreatDoorGgDocG
import Derived.Test.YtbojijefenfbgaaGreatDoorGgQFloat
namespace Go.Proofs.YtbojijefenfbgaaGreatDoor
open Go.RowKit
namespace Dc
open Bt Ed
def hF (U : Int) (k j : Nat) : Int := if j < k then dg (U / 2) j else dg U j
theorem half_dg (U : Int) (k : Nat) : dg U k / 2 + 32768 * (dg U (k + 1) % 2) = dg (U / 2) k := by
 have e : U / 2 / 65536 ^ k = U / 65536 ^ k / 2 := by
  rw [Int.ediv_ediv_of_nonneg (show (0 : Int) ≤ 2 by decide), Int.mul_comm 2, ← Int.ediv_ediv_of_nonneg (Int.le_of_lt (pow_pos' (by decide) k))]
 unfold dg
 rw [up_eq, e]
 generalize U / 65536 ^ k = X
 omega
theorem half_top (U : Int) (h : 0 ≤ U ∧ U < 65536 ^ 16) : dg U 16 % 2 = 0 := by
 unfold dg
 rw [low_all h.1 h.2]
 rfl
theorem hF_step (U : Int) (k j : Nat) : (if j = k then dg (U / 2) k else hF U k j) = hF U (k + 1) j := by
 unfold hF
 by_cases e : j = k
 ·subst e
  rw [if_pos rfl, if_pos (by omega)]
 ·rw [if_neg e]
  by_cases h : j < k
  ·rw [if_pos h, if_pos (by omega)]
  ·rw [if_neg h, if_neg (by omega)]
theorem dg_add0 (U b : Int) (h0 : 0 ≤ dg U 0 + b) (h1 : dg U 0 + b < 65536) (j : Nat) : (if j = 0 then dg U 0 + b else dg U j) = dg (U + b) j := by
 by_cases e : j = 0
 ·subst e
  rw [if_pos rfl]
  unfold dg at *
  rw [Int.pow_zero, Int.ediv_one] at *
  omega
 ·rw [if_neg e]
  obtain ⟨k, rfl⟩ : ∃ k, j = k + 1 := ⟨j - 1, by omega⟩
  unfold dg at *
  rw [Int.pow_zero, Int.ediv_one] at h0 h1
  have e1 : ∀ V : Int, V / 65536 ^ (k + 1) = V / 65536 / 65536 ^ k := fun V => by
   rw [Int.pow_succ, Int.mul_comm, Int.ediv_ediv_of_nonneg (by decide)]
  rw [e1, e1, show (U + b) / 65536 = U / 65536 by omega]
set_option maxRecDepth 100000 in
set_option maxHeartbeats 400000 in
theorem divided_i (b : Int) (bits : Nat) (h0 : 0 ≤ 65517 + b) (h1 : 65517 + b < 65536) (hbits : bits ≤ 100) (w : World) : Calls Tryz.prog 165 #[.int .i64 b, .int .i64 (bits : Int)] w fun e w' => e = .returned (.agg (nm ((pI + b) / 2 ^ bits))) ∧ Below w.heap.size w w' := by
 have Hpr : Hid (∀ w, Calls Tryz.prog 97 #[] w fun e w' => e = .returned (.agg (nm pI)) ∧ Below w.heap.size w w') := prime_f
 have Hp0 : Hid (dg pI 0 = 65517) := by
  show _ = _
  decide
 have Hp1 : Hid (0 ≤ pI + b ∧ pI + b < 65536 ^ 16) := by
  show 0 ≤ pI + b ∧ pI + b < 65536 ^ 16
  rw [show (65536 : Int) ^ 16 = 115792089237316195423570985008687907853269984665640564039457584007913129639936 from by decide]
  unfold pI
  omega
 generalize pI = P at *
 obtain ⟨V, hV⟩ : ∃ V, V = P + b := ⟨_, rfl⟩
 have HV : Hid _ := hV
 rw [← hV] at Hp1 ⊢
 clear hV
 go_enter Tryz.func165, Tryz.ntmps165
 go_wp2_with (refine l_alloc _ rfl rfl ?_)
 generalize hw0 : World.alloc _ _ = w0
 obtain ⟨g, hg⟩ : ∃ g, g = w.heap.size := ⟨_, rfl⟩
 have h0' := al1 hw0
 rw [← hg] at h0' ⊢
 have HR0 : Hid _ := h0'.1
 have HB0 : Hid _ := h0'.2
 have HG : Hid (w.heap.size ≤ g) := Nat.le_of_eq hg.symm
 clear hg hw0 h0'
 refine (Hpr.out _).mono ?_
 rintro e w1 ⟨rfl, hb1⟩
 have HR1 : Hid (w1.heap[g]? = _) := (hb1.block _ (Array.getElem?_eq_some_iff.1 HR0.out).1).trans HR0.out
 have HB1 : Hid (Below g w w1) := HB0.out.trans (hb1.mono (Nat.le_of_lt (Array.getElem?_eq_some_iff.1 HR0.out).1))
 clear hb1 HR0 HB0
 obtain ⟨gp, hgp⟩ : ∃ x, x = w1.heap.size := ⟨_, rfl⟩
 have hgl : g < gp := by
  rw [hgp]
  exact (Array.getElem?_eq_some_iff.1 HR1.out).1
 generalize hw0 : w1.alloc (.cells (num (dg P)) 95) = w2
 have h0' := al1 hw0
 rw [← hgp] at h0'
 have HP2 : Hid _ := h0'.1
 have HR2 : Hid (w2.heap[g]? = _) := (h0'.2.block _ (by omega)).trans HR1.out
 have HB2 : Hid (Below g w w2) := HB1.out.trans (h0'.2.mono (by omega))
 have Hgp : Hid _ := hgp
 have Hw0 : Hid _ := hw0
 clear hgp hw0 h0' HR1 HB1
 have hc0 := num_cell HP2.out 0 (by omega)
 have hf0 := num_frozen HP2.out 0
 rw [Hp0.out] at hc0
 go_wp2_with (first | refine l_alloc _ rfl rfl ?_ | (refine l_store_new rfl _ _ rfl _ (dg P) rfl rfl ?_; rw [← Hgp.out, Hw0.out]))
 clear Hgp Hw0 hc0 hf0 Hpr
 have HN3 : Hid ((w2.setCell ⟨gp, 0, none⟩ (.int .i64 (65517 + b))).heap[gp]? = some (.cells (nm (V / 2 ^ 0)) 95 (0, 0))) := by
  refine (num_store HP2.out 0 _).trans ?_
  rw [Int.pow_zero, Int.ediv_one, HV.out, ← Hp0.out]
  exact congrArg (fun r => some (Obj.cells r 95 (0, 0))) (num_congr fun j _ => dg_add0 P b (by rw [Hp0.out]; exact h0) (by rw [Hp0.out]; exact h1) j)
 have HR3 : Hid ((w2.setCell ⟨gp, 0, none⟩ (.int .i64 (65517 + b))).heap[g]? = _) := (Below.heap_setCell _ _ _ g (by show g ≠ gp; omega)).trans HR2.out
 have HB3 : Hid (Below g w (w2.setCell ⟨gp, 0, none⟩ (.int .i64 (65517 + b)))) := below_cell HB2.out _ _ (by omega) _
 generalize w2.setCell ⟨gp, 0, none⟩ (.int .i64 (65517 + b)) = w3 at *
 clear HP2 HR2 HB2 h0 h1 Hp0
 go_loopw [6] (fun i wq => ∃ n : Nat, n ≤ bits ∧ i = .int .i64 (n : Int) ∧ wq.heap[g]? = some (.cells (num fun _ => 0) 95 (0, 0)) ∧ wq.heap[gp]? = some (.cells (nm (V / 2 ^ n)) 95 (0, 0)) ∧ Below g w wq) (fun i _ => bits - (intOf i).toNat)
 case atStart => exact ⟨0, by omega, rfl, HR3.out, HN3.out, HB3.out⟩
 case round =>
  clear HN3 HR3 HB3
  rename World => wa
  obtain ⟨n, hn, rfl, hr, hp, hb⟩ := hrel
  have HR : Hid _ := hr
  have HP : Hid _ := hp
  have HB : Hid _ := hb
  clear hr hp hb
  by_cases hnb : n < bits
  ·obtain ⟨U, hU⟩ : ∃ U, U = V / 2 ^ n := ⟨_, rfl⟩
   have HU : Hid (U / 2 = V / 2 ^ (n + 1)) := by
    show _ = _
    rw [hU, Int.pow_succ, Int.ediv_ediv_of_nonneg (Int.le_of_lt (Int.pow_pos (by decide)))]
   have HU2 : Hid (0 ≤ U ∧ U < 65536 ^ 16) := by
    have h2 : (0 : Int) < 2 ^ n := Int.pow_pos (by decide)
    rw [hU]
    exact ⟨Int.ediv_nonneg Hp1.out.1 (Int.le_of_lt h2), Int.lt_of_le_of_lt (Int.ediv_le_self _ Hp1.out.1) Hp1.out.2⟩
   rw [← hU] at HP
   clear hU
   go_wp2_with fail
   go_loopw [7, 8] (fun i lo wq => ∃ k : Nat, k ≤ 16 ∧ i = .int .i64 (k : Int) ∧ wq.heap[g]? = some (.cells (num fun _ => 0) 95 (0, 0)) ∧ wq.heap[gp]? = some (.cells (num (hF U k)) 95 (0, 0)) ∧ Below g w wq) (fun i _ _ => 16 - (intOf i).toNat)
   case atStart => exact ⟨0, by omega, rfl, HR.out, HP.out, HB.out⟩
   case round =>
    clear HR HP HB
    rename World => wa
    obtain ⟨k, hk, rfl, hr, hp, hb⟩ := hrel
    have HR : Hid _ := hr
    have HP : Hid _ := hp
    have HB : Hid _ := hb
    clear hr hp hb
    by_cases hk16 : k < 16
    ·have hc1 := num_cell HP.out k hk16
     have hfz := num_frozen HP.out k
     rw [hF, if_neg (Nat.lt_irrefl k)] at hc1
     have hbU := dg_bd U k
     have Hs : Hid (∀ j, (if j = k then dg (U / 2) k else hF U k j) = hF U (k + 1) j) := hF_step U k
     by_cases hk15 : k < 15
     ·have hc2 := num_cell HP.out (k + 1) (by omega)
      rw [hF, if_neg (by omega)] at hc2
      have hbV := dg_bd U (k + 1)
      have Hd := half_dg U k
      generalize dg U k = u at *
      generalize dg U (k + 1) = v at *
      go_wp2_with fail
      refine ⟨⟨k + 1, by omega, by rw [Int.natCast_add]; rfl, ?_, ?_, ?_⟩, ?_⟩
      ·exact (Below.heap_setCell _ _ _ g (by show g ≠ gp; omega)).trans HR.out
      ·refine (num_store HP.out k _).trans ?_
       rw [num_congr]
       intro j _
       exact Hs.out j
      ·exact below_cell HB.out _ _ (by omega) _
      ·show 16 - ((k : Int) + 1).toNat < 16 - (k : Int).toNat
       omega
     ·obtain rfl : k = 15 := by omega
      have Hd := half_dg U 15
      rw [half_top U HU2.out, Int.mul_zero, Int.add_zero] at Hd
      generalize dg U 15 = u at *
      go_wp2_with fail
      refine ⟨⟨16, by omega, rfl, ?_, ?_, ?_⟩, by decide⟩
      ·exact (Below.heap_setCell _ _ _ g (by show g ≠ gp; omega)).trans HR.out
      ·refine (num_store HP.out 15 _).trans ?_
       rw [num_congr]
       intro j _
       exact Hs.out j
      ·exact below_cell HB.out _ _ (by omega) _
    ·obtain rfl : k = 16 := by omega
     have HP1 : Hid (wa.heap[gp]? = some (.cells (nm (V / 2 ^ (n + 1))) 95 (0, 0))) := by
      rw [← HU.out]
      exact HP.out.trans (congrArg (fun r => some (Obj.cells r 95 (0, 0))) (num_congr fun j hj => if_pos hj))
     go_wp2_with fail
     refine ⟨⟨n + 1, by omega, by rw [Int.natCast_add]; rfl, HR.out, HP1.out, HB.out⟩, ?_⟩
     show bits - ((n : Int) + 1).toNat < bits - (n : Int).toNat
     omega
  ·obtain rfl : n = bits := by omega
   go_wp2_with (first | refine l_load rfl _ rfl gp _ rfl HP.out ?_ | refine l_store rfl _ _ rfl g _ _ rfl rfl HR.out ?_)
   exact Own.ret_row Tryz.results165 rfl g 95 _ (0, 0) _ rfl (setRow_heap _ _ _ _ _ _ HR.out) Tryz.underlying95 rfl (by rw [num_size]; kernel_rfl) ⟨rfl, (HB.out.trans ((Fw.below_setRow _ _ _).mono (by omega))).mono HG.out⟩
set_option maxHeartbeats 400000 in
theorem curve_d (w : World) : Calls Tryz.prog 50 #[] w fun e w' => e = .returned (.agg (rn dD)) ∧ Below w.heap.size w w' := by
 have HE : Hid (rn dD = #[.int .i64 30883, .int .i64 4953, .int .i64 19914, .int .i64 30187, .int .i64 55467, .int .i64 16705, .int .i64 2637, .int .i64 112, .int .i64 59544, .int .i64 30585, .int .i64 16505, .int .i64 36039, .int .i64 65139, .int .i64 11119, .int .i64 27886, .int .i64 20995]) := by
  show _ = _
  rw [rn_def, lit_num]
  exact num_congr (of_decide_eq_true (by kernel_rfl))
 obtain ⟨x, hx⟩ : ∃ x, x = dD := ⟨_, rfl⟩
 rw [← hx] at HE ⊢
 clear hx
 go_enter Tryz.func50, Tryz.ntmps50
 refine wp_seq (wp_region_list ?_)
 refine l_alloc _ rfl rfl ?_
 simp only [Act.put, List.setIfInBounds_toArray, List.set_cons_zero]
 refine Qt.done ?_
 refine wp_seq (wp_region_list ?_)
 refine Own.wpList_build_at rfl 95 _ rfl (rn x) (by rw [HE.out]; kernel_rfl) ?_
 simp only [Act.put, zA, zB, zC]
 refine new_r rfl _ _ rfl _ x rfl rfl ?_
 simp only [Act.put]
 refine Qt.done ?_
 go_wp2_with fail
 exact ret_r Tryz.results50 rfl w.heap.size x rfl (heap_alloc_new _ _) ⟨rfl, (Below.refl _ _).alloc (Nat.le_refl _) _⟩
end Dc
end Go.Proofs.YtbojijefenfbgaaGreatDoor
namespace Go.Proofs.YtbojijefenfbgaaGreatDoor
open Go.RowKit
namespace Dc
open Bt Ed
theorem mk_sixteen (f : Nat → Value) : Own.mkRow 16 f = #[f 0, f 1, f 2, f 3, f 4, f 5, f 6, f 7, f 8, f 9, f 10, f 11, f 12, f 13, f 14, f 15] :=
 (Own.mkRow_list [f 0, f 1, f 2, f 3, f 4, f 5, f 6, f 7, f 8, f 9, f 10, f 11, f 12, f 13, f 14, f 15] 16 rfl f fun j hj => by
  rcases j with _ | _ | _ | _ | _ | _ | _ | _ | _ | _ | _ | _ | _ | _ | _ | _ | j <;> first | rfl | (simp at hj; omega)).symm
theorem rn_sixteen (x : F) : ∃ v0 v1 v2 v3 v4 v5 v6 v7 v8 v9 v10 v11 v12 v13 v14 v15 : Value, rn x = #[v0, v1, v2, v3, v4, v5, v6, v7, v8, v9, v10, v11, v12, v13, v14, v15] := by
 rw [rn_def, show nm (x.val : Int) = Own.mkRow 16 (fun j => Value.int .i64 (dg x.val j)) from rfl, mk_sixteen]
 exact ⟨_, _, _, _, _, _, _, _, _, _, _, _, _, _, _, _, rfl⟩
theorem rn_zero : rn 0 = num fun _ => 0 := by
 rw [rn_def]
 exact num_congr (by decide)
theorem tp_ex : ∃ f : T3 → Array Value, ∀ e, f e = rn e.x ++ rn e.y ++ rn e.z := ⟨_, fun _ => rfl⟩
noncomputable def tp : T3 → Array Value := Classical.choose tp_ex
theorem tp_def (e : T3) : tp e = rn e.x ++ rn e.y ++ rn e.z := Classical.choose_spec tp_ex e
theorem tp_size (e : T3) : (tp e).size = 48 := by rw [tp_def]; simp [rn_size]
theorem tp_one (e : T3) : (tp e).all (·.oneCell') = true := by
 rw [tp_def]
 simp only [Array.all_append, rn_one, Bool.and_self]
theorem built_tp (x y z : F) : Tryz.prog.built 100 [(0, .agg (rn x)), (1, .agg (rn y)), (2, .agg (rn z))] = some (tp ⟨x, y, z⟩) := by
 rw [tp_def]
 obtain ⟨a0, a1, a2, a3, a4, a5, a6, a7, a8, a9, a10, a11, a12, a13, a14, a15, ha⟩ := rn_sixteen x
 obtain ⟨b0, b1, b2, b3, b4, b5, b6, b7, b8, b9, b10, b11, b12, b13, b14, b15, hb⟩ := rn_sixteen y
 obtain ⟨c0, c1, c2, c3, c4, c5, c6, c7, c8, c9, c10, c11, c12, c13, c14, c15, hc⟩ := rn_sixteen z
 simp only [ha, hb, hc]
 kernel_rfl
def t0 : T3 := ⟨0, 0, 0⟩
def tpZ : Array Value := (List.replicate 48 (Value.int .i64 0)).toArray
theorem tp_zero : tp t0 = tpZ := by
 rw [tp_def]
 simp only [t0, rn_zero, zed_num]
 rfl
theorem tpZ_info : (Tryz.prog.info? 100).map (fun i => i.zero) = some (some (.agg tpZ)) := by kernel_rfl
theorem numZ_info : (Tryz.prog.info? 95).map (fun i => i.zero) = some (some (.agg (num fun _ => 0))) := by
 rw [zed_num]
 kernel_rfl
def TAt (w : World) (b : Nat) (e : T3) : Prop := w.heap[b]? = some (.cells (tp e) 100 (0, 0))
theorem TAt.lt {w : World} {b : Nat} {e : T3} (h : TAt w b e) : b < w.heap.size := (Array.getElem?_eq_some_iff.1 h).1
theorem TAt.below {w w' : World} {b : Nat} {e : T3} (h : TAt w b e) {k : Nat} (hb : Below k w w') (hk : b < k) : TAt w' b e := (hb.block b hk).trans h
theorem TAt.zero {w : World} {b : Nat} (h : w.heap[b]? = some (.cells tpZ 100 (0, 0))) : TAt w b t0 := by unfold TAt; rw [tp_zero]; exact h
theorem TAt.setRow {w : World} {b : Nat} {e : T3} (h : TAt w b e) (f : T3) : TAt (w.setRow b (tp f)) b f := setRow_heap _ _ _ _ _ _ h
theorem TAt.range {w : World} {b : Nat} {e : T3} (h : TAt w b e) (off : Nat) (v : F) (hv : ∀ j, j < 16 → (tp e)[off + j]? = (rn v)[j]?) : w.rangeAt b off (rn v).toList := fun j u hu => by
 have hj : j < 16 := by
  have := (List.getElem?_eq_some_iff.1 hu).1
  rw [Array.length_toList, rn_size] at this
  exact this
 rw [cell_of_row w b (off + j) _ _ _ h, hv j hj]
 simpa using hu
theorem TAt.x {w : World} {b : Nat} {e : T3} (h : TAt w b e) : w.rangeAt b 0 (rn e.x).toList := h.range 0 e.x fun j hj => by
 rw [tp_def, Array.getElem?_append_left (by simp [rn_size]; omega), Array.getElem?_append_left (by simp [rn_size]; omega)]
 congr 1; omega
theorem TAt.y {w : World} {b : Nat} {e : T3} (h : TAt w b e) : w.rangeAt b 16 (rn e.y).toList := h.range 16 e.y fun j hj => by
 rw [tp_def, Array.getElem?_append_left (by simp [rn_size]; omega), Array.getElem?_append_right (by simp [rn_size])]
 congr 1; simp [rn_size]
theorem TAt.z {w : World} {b : Nat} {e : T3} (h : TAt w b e) : w.rangeAt b 32 (rn e.z).toList := h.range 32 e.z fun j hj => by
 rw [tp_def, Array.getElem?_append_right (by simp [rn_size])]
 congr 1; simp [rn_size]
theorem y_r {W : World} {K : Act → Prop} {l : List Oper} {o : Oper} {a : Act} (hg : o.guard = none) (x : Operand) (ho : o.op = .load 95 x) (b : Nat) (v : F) (hx : a.eval x = .pointer (some ⟨b, 0, none⟩)) (hb : RAt W b v)
  (h : Qt.Lex Tryz.prog W K l (a.put o.dst (.agg (rn v)))) : Qt.Lex Tryz.prog W K (o :: l) a :=
 Qt.y_row hg 95 x ho b hx 95 (rn v) (0, 0) _ hb Tryz.underlying95 rfl (by rw [rn_size]; kernel_rfl) h
theorem y_rf {W : World} {K : Act → Prop} {l : List Oper} {o : Oper} {a : Act} (hg : o.guard = none) (x : Operand) (ho : o.op = .load 95 x) (b off : Nat) (v : F) (hx : a.eval x = .pointer (some ⟨b, off, none⟩)) (hb : b < W.heap.size) (hr : W.rangeAt b off (rn v).toList)
  (h : Qt.Lex Tryz.prog W K l (a.put o.dst (.agg (rn v)))) : Qt.Lex Tryz.prog W K (o :: l) a :=
 Qt.y_mid hg 95 x ho b off hx (rn v).toList _ hb hr Tryz.underlying95 rfl (by rw [Array.length_toList, rn_size]; kernel_rfl) h
theorem y_bt {W : World} {K : Act → Prop} {l : List Oper} {o : Oper} {a : Act} (hg : o.guard = none) (parts : Array (Nat × Operand)) (ho : o.op = .build 100 parts) (e : T3) (hf : (parts.map fun (i, x) => (i, a.eval x)).toList = [(0, .agg (rn e.x)), (1, .agg (rn e.y)), (2, .agg (rn e.z))])
  (h : Qt.Lex Tryz.prog W K l (a.put o.dst (.agg (tp e)))) : Qt.Lex Tryz.prog W K (o :: l) a := by
 refine Qt.y_val hg (.agg (tp e)) (fun w' _ => ?_) h
 have hr := run_build (P := Tryz.prog) w' 100 (parts.map fun (i, x) => (i, a.eval x)) (tp e) (by rw [hf]; exact built_tp e.x e.y e.z)
 unfold execOp
 simp only [ho, Sem.run_bind, Sem.run_pure, Result.andThen_ok, hr]
theorem y_t {W : World} {K : Act → Prop} {l : List Oper} {o : Oper} {a : Act} (hg : o.guard = none) (x : Operand) (ho : o.op = .load 100 x) (b : Nat) (v : T3) (hx : a.eval x = .pointer (some ⟨b, 0, none⟩)) (hb : TAt W b v)
  (h : Qt.Lex Tryz.prog W K l (a.put o.dst (.agg (tp v)))) : Qt.Lex Tryz.prog W K (o :: l) a :=
 Qt.y_row hg 100 x ho b hx 100 (tp v) (0, 0) _ hb Tryz.underlying100 rfl (by rw [tp_size]; kernel_rfl) h
theorem store_t {ops : Array Oper} {rest : List Oper} {o : Oper} {a : Act} {w : World} {Q : Exit → Act → World → Prop} (hg : o.guard = none) (x y : Operand) (ho : o.op = .store 100 x y) (b : Nat) (v old : T3) (hx : a.eval x = .pointer (some ⟨b, 0, none⟩)) (hy : a.eval y = .agg (tp v)) (hb : TAt w b old)
  (h : wpList Tryz.prog ops Q rest (a.put o.dst undef) (w.setRow b (tp v))) : wpList Tryz.prog ops Q (o :: rest) a w :=
 wpList_store_row hg 100 x y ho b (tp v) hx hy 100 (tp old) hb (by rw [tp_size]; kernel_rfl) ((tp_size _).trans (tp_size _).symm) (tp_one v) h
theorem load_t {ops : Array Oper} {rest : List Oper} {o : Oper} {a : Act} {w : World} {Q : Exit → Act → World → Prop} (hg : o.guard = none) (x : Operand) (ho : o.op = .load 100 x) (b : Nat) (v : T3) (hx : a.eval x = .pointer (some ⟨b, 0, none⟩)) (hb : TAt w b v)
  (h : wpList Tryz.prog ops Q rest (a.put o.dst (.agg (tp v))) w) : wpList Tryz.prog ops Q (o :: rest) a w :=
 wpList_load_row hg 100 x ho b hx 100 (tp v) (0, 0) _ hb Tryz.underlying100 rfl (by rw [tp_size]; kernel_rfl) h
theorem ret_t {fn : Func} {p : Tmp} (h : fn.results = #[.cell p 100]) {post : Ending → World → Prop} {a : Act} {w : World} (hd : a.defers = []) (g : Nat) (v : T3) (hp : a.tmps.getD p undef = .pointer (some ⟨g, 0, none⟩)) (hg : TAt w g v) (hpost : post (.returned (.agg (tp v))) w) :
  bodyPost Tryz.prog fn post .ret a w :=
 Own.ret_row h hd g 100 (tp v) (0, 0) _ hp hg Tryz.underlying100 rfl (by rw [tp_size]; kernel_rfl) hpost
theorem l_let {ops : Array Oper} {rest : List Oper} {os : Oper} {a : Act} {w0 w : World} {Q : Exit → Act → World → Prop} {x y : Operand} (hgs : os.guard = none) (hs : os.op = .store 95 x y) (b : Nat) (v : F) (hx : a.eval x = .pointer (some ⟨b, 0, none⟩)) (hy : a.eval y = .agg (rn v))
  (hw : Below w0.heap.size w0 w) (hle : w0.heap.size ≤ b) (hb : w.heap[b]? = some (.cells (num fun _ => 0) 95 (0, 0)))
  (h : ∀ w2, RAt w2 b v → Below w0.heap.size w0 w2 → wpList Tryz.prog ops Q rest (a.put os.dst undef) w2) : wpList Tryz.prog ops Q (os :: rest) a w :=
 store_r hgs x y hs b v _ (num_size _) hx hy hb (h _ (RAt.setRow hb v) (hw.trans ((Fw.below_setRow _ _ _).mono hle)))
theorem RAt.other {w : World} {b c : Nat} {e : F} (h : RAt w b e) (hne : b ≠ c) (cs : Array Value) : RAt (w.setRow c cs) b e := by
 unfold RAt at *
 rw [← h]
 show (Array.modify _ _ _)[b]? = _
 rw [Array.getElem?_modify, if_neg (Ne.symm hne)]
theorem TAt.other {w : World} {b c : Nat} {e : T3} (h : TAt w b e) (hne : b ≠ c) (cs : Array Value) : TAt (w.setRow c cs) b e := by
 unfold TAt at *
 rw [← h]
 show (Array.modify _ _ _)[b]? = _
 rw [Array.getElem?_modify, if_neg (Ne.symm hne)]
set_option maxRecDepth 100000 in
set_option maxHeartbeats 400000 in
theorem under_d (x : F) (w : World) : Calls Tryz.prog 96 #[.agg (rn x)] w fun e w' => e = .returned (.agg (rn (inv x))) ∧ Below w.heap.size w w' := by
 have Hdv : Hid (∀ w, Calls Tryz.prog 165 #[.int .i64 (-2), .int .i64 0] w fun e w' => e = .returned (.agg (nm ((P - 2 : Nat) : Int))) ∧ Below w.heap.size w w') := divided_i (-2) 0 (by decide) (by decide) (by decide)
 obtain ⟨v, hv⟩ : ∃ v, v = inv x := ⟨_, rfl⟩
 have Hpo : Hid (∀ w, Calls Tryz.prog 164 #[.agg (rn x), .agg (nm ((P - 2 : Nat) : Int))] w fun e w' => e = .returned (.agg (rn v)) ∧ Below w.heap.size w w') := by
  rw [hv]
  exact power_d x (P - 2) (by decide)
 rw [← hv]
 clear hv
 obtain ⟨E, hE⟩ : ∃ E, E = nm ((P - 2 : Nat) : Int) := ⟨_, rfl⟩
 rw [← hE] at Hdv Hpo
 clear hE
 go_enter Tryz.func96, Tryz.ntmps96
 go_wp2_with (refine l_alloc _ rfl rfl ?_)
 simp only [Act.put, zA, zB, zC]
 rw [World.size_alloc]
 generalize hw0 : World.alloc (World.alloc _ _) _ = w0
 have h0 := al2 hw0
 have HA0 : Hid (RAt w0 w.heap.size x) := h0.1
 have HR0 : Hid _ := h0.2.1
 have HB0 : Hid _ := h0.2.2
 clear hw0 h0
 refine Qt.wp_tail 3 (by kernel_rfl) (by kernel_rfl) ?_
 refine y_r rfl _ rfl w.heap.size x rfl HA0.out ?_
 refine Qt.y_call rfl 165 #[.int .i64 (-2), .int .i64 0] (.agg E) (fun _ => by kernel_rfl) (fun w' _ => Hdv.out w') ?_
 simp only [Act.put, zA, zB, zC]
 refine Qt.y_call rfl 164 #[.agg (rn x), .agg E] (.agg (rn v)) (fun _ => by kernel_rfl) (fun w' _ => Hpo.out w') ?_
 simp only [Act.put, zA, zB, zC]
 refine Qt.y_nil ?_
 intro w1 hb1
 have HR1 : Hid (w1.heap[w.heap.size + 1]? = _) := (hb1.block _ (Array.getElem?_eq_some_iff.1 HR0.out).1).trans HR0.out
 have HB1 : Hid (Below w.heap.size w w1) := HB0.out.trans (hb1.mono HB0.out.size)
 clear hb1
 refine store_r rfl _ _ rfl (w.heap.size + 1) v _ (num_size _) rfl rfl HR1.out ?_
 go_wp2_with fail
 exact ret_r Tryz.results96 rfl (w.heap.size + 1) v rfl (RAt.setRow HR1.out v) ⟨rfl, HB1.out.trans ((Fw.below_setRow _ _ _).mono (by omega))⟩
end Dc
end Go.Proofs.YtbojijefenfbgaaGreatDoor

/- The document's numbers as elements of F; power. -/
/- A region that draws its order, with one operation that may come up at any time (the making of a new variable), n operations ahead of it that leave what was there and yield one value each, and a row of others behind all of them: one walk of the text's order serves every order. -/
import Derived.Test.YtbojijefenfbgaaGreatDoorTkDocD
import Derived.Test.YtbojijefenfbgaaGreatDoorTkQTail
import Derived.Test.YtbojijefenfbgaaGreatDoorTkRoots
namespace Go.Proofs.YtbojijefenfbgaaGreatDoor
open Go.RowKit
namespace Dc
open Bt Ed
theorem rn_ex : ∃ f : F → Array Value, ∀ x : F, f x = nm (x.val : Int) := ⟨fun x => nm (x.val : Int), fun _ => rfl⟩
/-- An element of F, as the document holds it. (By choice, so that nothing opens it but rn_def.) -/
noncomputable def rn : F → Array Value := Classical.choose rn_ex
theorem rn_def (x : F) : rn x = nm (x.val : Int) := Classical.choose_spec rn_ex x
theorem rn_size (x : F) : (rn x).size = 16 := by rw [rn_def]; exact num_size _
theorem rn_one (x : F) : (rn x).all (·.oneCell') = true := by rw [rn_def]; exact num_one _
theorem pI_P : pI = (P : Int) := rfl
theorem val_bd (x : F) : 0 ≤ (x.val : Int) ∧ (x.val : Int) < 65536 ^ 16 := ⟨Int.natCast_nonneg _, Int.lt_trans (show (x.val : Int) < pI by rw [pI_P]; exact Int.ofNat_lt.2 x.isLt) pI_1⟩
theorem add_val (x y : F) : ((x.val : Int) + y.val) % pI = ((x + y).val : Int) := by
  rw [pI_P, ← Int.natCast_add, ← Int.natCast_emod]; rfl
theorem mul_val (x y : F) : ((x.val : Int) * y.val) % pI = ((x * y).val : Int) := by
  rw [pI_P, ← Int.natCast_mul, ← Int.natCast_emod]; rfl
theorem sub_val (x y : F) : ((x.val : Int) - y.val) % pI = ((x - y).val : Int) := by
  have h : ((x - y).val : Int) = (((P - y.val + x.val) % P : Nat) : Int) := rfl
  rw [h, pI_P, Int.natCast_emod, Int.natCast_add, Int.natCast_sub (Nat.le_of_lt y.isLt)]
  rw [show (P : Int) - (y.val : Int) + (x.val : Int) = ((x.val : Int) - y.val) + (P : Int) * 1 by omega, Int.add_mul_emod_self_left]
theorem add_d (x y : F) (w : World) : Calls Tryz.prog 94 #[.agg (rn x), .agg (rn y)] w fun e w' => e = .returned (.agg (rn (x + y))) ∧ Below w.heap.size w w' := by
  have h := add_i x.val y.val (val_bd x) (val_bd y) w
  rw [add_val, ← rn_def, ← rn_def, ← rn_def] at h
  exact h
theorem sub_d (x y : F) (w : World) : Calls Tryz.prog 42 #[.agg (rn x), .agg (rn y)] w fun e w' => e = .returned (.agg (rn (x - y))) ∧ Below w.heap.size w w' := by
  have h := sub_i x.val y.val (val_bd x) (val_bd y) w
  rw [sub_val, ← rn_def, ← rn_def, ← rn_def] at h
  exact h
theorem mul_d (x y : F) (w : World) : Calls Tryz.prog 93 #[.agg (rn x), .agg (rn y)] w fun e w' => e = .returned (.agg (rn (x * y))) ∧ Below w.heap.size w w' := by
  have h := mul_i x.val y.val (val_bd x) (val_bd y) w
  rw [mul_val, ← rn_def, ← rn_def, ← rn_def] at h
  exact h
theorem small_d (n : Nat) (hn : n < 65536) (w : World) : Calls Tryz.prog 43 #[.int .i64 (n : Int)] w fun e w' => e = .returned (.agg (rn (Fin.ofNat P n))) ∧ Below w.heap.size w w' := by
  have h := small_f n (by omega) (by omega) w
  rw [rn_def, show ((Fin.ofNat P n).val : Int) = (n : Int) by show ((n % P : Nat) : Int) = _; rw [Nat.mod_eq_of_lt (Nat.lt_trans hn (by decide))]]
  exact h
/-- A number's block. -/
def RAt (w : World) (b : Nat) (x : F) : Prop := w.heap[b]? = some (.cells (rn x) 95 (0, 0))
theorem RAt.lt {w : World} {b : Nat} {x : F} (h : RAt w b x) : b < w.heap.size := (Array.getElem?_eq_some_iff.1 h).1
theorem RAt.below {w w' : World} {b B : Nat} {x : F} (h : RAt w b x) (hb : Below B w w') (hlt : b < B) : RAt w' b x := (hb.block b hlt).trans h
theorem RAt.setRow {w : World} {b : Nat} {old : Array Value} (h : w.heap[b]? = some (.cells old 95 (0, 0))) (x : F) : RAt (w.setRow b (rn x)) b x := setRow_heap _ _ _ _ _ _ h
theorem load_r {ops : Array Oper} {rest : List Oper} {o : Oper} {a : Act} {w : World} {Q : Exit → Act → World → Prop} (hg : o.guard = none) (x : Operand) (ho : o.op = .load 95 x) (b : Nat) (v : F) (hx : a.eval x = .pointer (some ⟨b, 0, none⟩)) (hb : RAt w b v)
    (h : wpList Tryz.prog ops Q rest (a.put o.dst (.agg (rn v))) w) : wpList Tryz.prog ops Q (o :: rest) a w :=
  wpList_load_row hg 95 x ho b hx 95 (rn v) (0, 0) _ hb Tryz.underlying95 rfl (by rw [rn_size]; kernel_rfl) h
theorem store_r {ops : Array Oper} {rest : List Oper} {o : Oper} {a : Act} {w : World} {Q : Exit → Act → World → Prop} (hg : o.guard = none) (x y : Operand) (ho : o.op = .store 95 x y) (b : Nat) (v : F) (old : Array Value) (hs : old.size = 16) (hx : a.eval x = .pointer (some ⟨b, 0, none⟩)) (hy : a.eval y = .agg (rn v)) (hb : w.heap[b]? = some (.cells old 95 (0, 0)))
    (h : wpList Tryz.prog ops Q rest (a.put o.dst undef) (w.setRow b (rn v))) : wpList Tryz.prog ops Q (o :: rest) a w :=
  wpList_store_row hg 95 x y ho b (rn v) hx hy 95 old hb (by rw [rn_size]; kernel_rfl) (by rw [rn_size, hs]) (rn_one v) h
theorem new_r {ops : Array Oper} {rest : List Oper} {o : Oper} {a : Act} {w : World} {Q : Exit → Act → World → Prop} (hgd : o.guard = none) (x y : Operand) (ho : o.op = .store 95 x y) (g : Nat → Int) (v : F)
    (hx : a.eval x = .pointer (some ⟨w.heap.size, 0, none⟩)) (hy : a.eval y = .agg (rn v))
    (h : wpList Tryz.prog ops Q rest (a.put o.dst undef) (w.alloc (.cells (rn v) 95))) : wpList Tryz.prog ops Q (o :: rest) a (w.alloc (.cells (num g) 95)) :=
  Own.wpList_store_new hgd 95 x y ho (num g) (rn v) 95 hx hy (by rw [rn_size]; kernel_rfl) (by rw [num_size, rn_size]) (rn_one v) h
theorem ret_r {fn : Func} {p : Tmp} (h : fn.results = #[.cell p 95]) {post : Ending → World → Prop} {a : Act} {w : World} (hd : a.defers = []) (g : Nat) (v : F) (hp : a.tmps.getD p undef = .pointer (some ⟨g, 0, none⟩)) (hg : RAt w g v) (hpost : post (.returned (.agg (rn v))) w) : bodyPost Tryz.prog fn post .ret a w :=
  Own.ret_row h hd g 95 (rn v) (0, 0) _ hp hg Tryz.underlying95 rfl (by rw [rn_size]; kernel_rfl) hpost
/-- Bits of a number in parts. -/
theorem bit_low (x r : Nat) (hr : r < 16) : x % 65536 / 2 ^ r % 2 = x / 2 ^ r % 2 := by
  rcases r with _ | _ | _ | _ | _ | _ | _ | _ | _ | _ | _ | _ | _ | _ | _ | _ | r
  all_goals first | omega | simp only [Nat.reduceAdd, Nat.reducePow]; omega
theorem bit_eq (N i : Nat) : dg (N : Int) (i / 16) / 2 ^ (i % 16) % 2 = ((N / 2 ^ i % 2 : Nat) : Int) := by
  have h1 : N / 65536 ^ (i / 16) % 65536 / 2 ^ (i % 16) % 2 = N / 2 ^ i % 2 := by
    rw [bit_low _ _ (Nat.mod_lt _ (by decide)), Nat.div_div_eq_div_mul, show (65536 : Nat) = 2 ^ 16 from rfl, ← Nat.pow_mul, ← Nat.pow_add, Nat.div_add_mod]
  rw [← h1]
  unfold dg
  rw [Int.natCast_emod, Int.natCast_ediv, Int.natCast_emod, Int.natCast_ediv, Int.natCast_pow, Int.natCast_pow]
  rfl
theorem half_eq (N k : Nat) : N / 2 ^ k = 2 * (N / 2 ^ (k + 1)) + N / 2 ^ k % 2 := by
  rw [Nat.pow_succ, ← Nat.div_div_eq_div_mul]
  omega
theorem fpow_dbl (x : F) (n : Nat) : fpow x n * fpow x n = fpow x (2 * n) := by rw [← fpow_add, Nat.two_mul]
set_option maxRecDepth 100000 in
set_option maxHeartbeats 400000 in
theorem power_d (x : F) (N : Nat) (hN : N < 2 ^ 255) (w : World) : Calls Tryz.prog 164 #[.agg (rn x), .agg (nm (N : Int))] w fun e w' => e = .returned (.agg (rn (fpow x N))) ∧ Below w.heap.size w w' := by
  have Hsm : Hid (∀ w, Calls Tryz.prog 43 #[.int .i64 1] w fun e w' => e = .returned (.agg (rn (fpow x (N / 2 ^ 255)))) ∧ Below w.heap.size w w') := by
    rw [Nat.div_eq_of_lt hN, fpow_zero]
    exact small_d 1 (by decide)
  have Hmul : Hid (∀ x y w, Calls Tryz.prog 93 #[.agg (rn x), .agg (rn y)] w fun e w' => e = .returned (.agg (rn (x * y))) ∧ Below w.heap.size w w') := mul_d
  have Hend : Hid (fpow x (N / 2 ^ 0) = fpow x N) := by
    show _ = _
    rw [Nat.pow_zero, Nat.div_one]
  rw [← Hend.out]
  clear Hend hN
  go_enter Tryz.func164, Tryz.ntmps164
  go_wp2_with (refine l_alloc _ rfl rfl ?_)
  generalize hw0 : World.alloc _ _ = w0
  obtain ⟨g, hg⟩ : ∃ g, g = w.heap.size := ⟨_, rfl⟩
  have h0 := al3 hw0
  rw [← hg] at h0 ⊢
  have HA0 : Hid (RAt w0 g x) := h0.1
  have HE0 : Hid _ := h0.2.1
  have HR0 : Hid _ := h0.2.2.1
  have HB0 : Hid _ := h0.2.2.2
  have HG : Hid (w.heap.size ≤ g) := Nat.le_of_eq hg.symm
  clear hg hw0 h0
  refine (Hsm.out _).mono ?_
  rintro e w1 ⟨rfl, hb1⟩
  have HA1 : Hid (RAt w1 g x) := HA0.out.below hb1 HA0.out.lt
  have HE1 : Hid (w1.heap[g + 1]? = _) := (hb1.block _ (Array.getElem?_eq_some_iff.1 HE0.out).1).trans HE0.out
  have HR1 : Hid (w1.heap[g + 1 + 1]? = _) := (hb1.block _ (Array.getElem?_eq_some_iff.1 HR0.out).1).trans HR0.out
  have HB1 : Hid (Below g w w1) := HB0.out.trans (hb1.mono (Nat.le_of_lt HA0.out.lt))
  clear hb1 HA0 HE0 HR0 HB0 Hsm
  obtain ⟨go, hgo⟩ : ∃ x, x = w1.heap.size := ⟨_, rfl⟩
  have hgl : g + 1 + 1 < go := by
    rw [hgo]
    exact (Array.getElem?_eq_some_iff.1 HR1.out).1
  generalize hv : fpow x (N / 2 ^ 255) = v
  have Hv : Hid _ := hv
  clear hv
  go_wp2_with (first | refine l_alloc _ rfl rfl ?_ | refine new_r rfl _ _ rfl _ v rfl rfl ?_)
  generalize hw0 : World.alloc _ _ = w2
  have h0 := al1 hw0
  rw [← hgo] at h0 ⊢
  have HO2 : Hid (RAt w2 go (fpow x (N / 2 ^ 255))) := by rw [Hv.out]; exact h0.1
  have HA2 : Hid (RAt w2 g x) := HA1.out.below h0.2 (by omega)
  have HE2 : Hid (w2.heap[g + 1]? = _) := (h0.2.block _ (by omega)).trans HE1.out
  have HR2 : Hid (w2.heap[g + 1 + 1]? = _) := (h0.2.block _ (by omega)).trans HR1.out
  have HB2 : Hid (Below g w w2) := HB1.out.trans (h0.2.mono (by omega))
  clear hgo hw0 h0 HA1 HE1 HR1 HB1 Hv
  go_loopw [6] (fun i wq => ∃ k : Nat, k ≤ 255 ∧ i = .int .i64 ((k : Int) - 1) ∧ RAt wq g x ∧ wq.heap[g + 1]? = some (.cells (nm (N : Int)) 95 (0, 0)) ∧ wq.heap[g + 1 + 1]? = some (.cells (num fun _ => 0) 95 (0, 0)) ∧ RAt wq go (fpow x (N / 2 ^ k)) ∧ Below g w wq) (fun i _ => (intOf i + 1).toNat)
  case atStart => exact ⟨255, by omega, rfl, HA2.out, HE2.out, HR2.out, HO2.out, HB2.out⟩
  case round =>
    clear HA2 HE2 HR2 HO2 HB2
    rename World => wa
    obtain ⟨k, hk, rfl, ha, he, hr, ho, hb⟩ := hrel
    have HA : Hid (RAt wa g x) := ha
    have HE : Hid _ := he
    have HR : Hid _ := hr
    have HO : Hid (RAt wa go (fpow x (N / 2 ^ k))) := ho
    have HB : Hid _ := hb
    clear ha he hr ho hb
    by_cases hk0 : k = 0
    · subst hk0
      obtain ⟨v, hv⟩ : ∃ v, v = fpow x (N / 2 ^ 0) := ⟨_, rfl⟩
      rw [← hv] at HO
      have Hv : Hid _ := hv
      clear hv
      go_wp2_with (first | refine load_r rfl _ rfl go v rfl HO.out ?_ | refine store_r rfl _ _ rfl (g + 1 + 1) v _ (num_size _) rfl rfl HR.out ?_)
      exact ret_r Tryz.results164 rfl (g + 1 + 1) v rfl (RAt.setRow HR.out v) ⟨by rw [Hv.out], (HB.out.trans ((Fw.below_setRow _ _ _).mono (by omega))).mono HG.out⟩
    · obtain ⟨i, rfl⟩ : ∃ i, k = i + 1 := ⟨k - 1, by omega⟩
      have ei : ((i + 1 : Nat) : Int) - 1 = (i : Int) := by omega
      rw [ei]
      have Hd : Hid (fpow x (N / 2 ^ (i + 1)) * fpow x (N / 2 ^ (i + 1)) = fpow x (2 * (N / 2 ^ (i + 1)))) := fpow_dbl _ _
      obtain ⟨v, hv⟩ : ∃ v, v = fpow x (N / 2 ^ (i + 1)) := ⟨_, rfl⟩
      rw [← hv] at HO Hd
      clear hv
      go_wp2_with (refine load_r rfl _ rfl go v rfl HO.out ?_)
      refine (Hmul.out _ _ _).mono ?_
      rintro e w3 ⟨rfl, hb3⟩
      rw [Hd.out]
      have HA3 : Hid (RAt w3 g x) := HA.out.below hb3 HA.out.lt
      have HE3 : Hid (w3.heap[g + 1]? = _) := (hb3.block _ (Array.getElem?_eq_some_iff.1 HE.out).1).trans HE.out
      have HR3 : Hid (w3.heap[g + 1 + 1]? = _) := (hb3.block _ (Array.getElem?_eq_some_iff.1 HR.out).1).trans HR.out
      have HO3 : Hid (RAt w3 go v) := HO.out.below hb3 HO.out.lt
      have HB3 : Hid (Below g w w3) := HB.out.trans (hb3.mono (Nat.le_of_lt HA.out.lt))
      clear hb3 HA HE HR HO HB Hd
      obtain ⟨u, hu⟩ : ∃ u, u = fpow x (2 * (N / 2 ^ (i + 1))) := ⟨_, rfl⟩
      rw [← hu]
      have Hu : Hid _ := hu
      clear hu
      have HB4 : Hid (Below go w3 (w3.setRow go (rn u))) := Fw.below_setRow _ _ _
      have HA4 : Hid (RAt (w3.setRow go (rn u)) g x) := HA3.out.below HB4.out (by omega)
      have HE4 : Hid ((w3.setRow go (rn u)).heap[g + 1]? = _) := (HB4.out.block _ (by omega)).trans HE3.out
      have HR4 : Hid ((w3.setRow go (rn u)).heap[g + 1 + 1]? = _) := (HB4.out.block _ (by omega)).trans HR3.out
      have HO4 : Hid (RAt (w3.setRow go (rn u)) go u) := RAt.setRow HO3.out u
      have HC4 : Hid (Below g w (w3.setRow go (rn u))) := HB3.out.trans (HB4.out.mono (by omega))
      obtain ⟨w4, hw4⟩ : ∃ w4, w4 = w3.setRow go (rn u) := ⟨_, rfl⟩
      rw [← hw4] at HA4 HE4 HR4 HO4 HC4
      have Hw4 : Hid _ := hw4
      clear hw4 HB4 HA3 HE3 HR3 HB3
      have hc : w4.cell? ⟨g + 1, i / 16, none⟩ = some (.int .i64 (dg (N : Int) (i / 16))) := num_cell HE4.out (i / 16) (by omega)
      have hdb := dg_bd (N : Int) (i / 16)
      have hbit := bit_eq N i
      obtain ⟨d, hd⟩ : ∃ d, d = dg (N : Int) (i / 16) := ⟨_, rfl⟩
      rw [← hd] at hc hdb hbit
      clear hd
      have hlt : i < 255 := by omega
      have htm : (d / 2 ^ (i % 16)).tmod 2 = ((N / 2 ^ i % 2 : Nat) : Int) := by
        rw [Int.tmod_eq_emod_of_nonneg (Int.ediv_nonneg hdb.1 (Int.le_of_lt (Int.pow_pos (by decide)))), hbit]
      clear hbit
      have Hh : Hid (N / 2 ^ i = 2 * (N / 2 ^ (i + 1)) + N / 2 ^ i % 2) := half_eq N i
      by_cases h1 : N / 2 ^ i % 2 = 1
      · rw [h1] at htm Hh
        have Hf : Hid (u * x = fpow x (N / 2 ^ i)) := by
          show _ = _
          rw [Hh.out, fpow_add, fpow_one, Hu.out]
        clear h1 Hh Hu
        go_wp2_with (first | (refine store_r rfl _ _ rfl go u _ (rn_size _) rfl rfl HO3.out ?_; rw [← Hw4.out]) | refine load_r rfl _ rfl go u rfl HO4.out ?_ | refine load_r rfl _ rfl g x rfl HA4.out ?_)
        refine (Hmul.out _ _ _).mono ?_
        rintro e w5 ⟨rfl, hb5⟩
        rw [Hf.out]
        have HA5 : Hid (RAt w5 g x) := HA4.out.below hb5 HA4.out.lt
        have HE5 : Hid (w5.heap[g + 1]? = _) := (hb5.block _ (Array.getElem?_eq_some_iff.1 HE4.out).1).trans HE4.out
        have HR5 : Hid (w5.heap[g + 1 + 1]? = _) := (hb5.block _ (Array.getElem?_eq_some_iff.1 HR4.out).1).trans HR4.out
        have HO5 : Hid (RAt w5 go u) := HO4.out.below hb5 HO4.out.lt
        have HB5 : Hid (Below g w w5) := HC4.out.trans (hb5.mono (Nat.le_of_lt HA4.out.lt))
        clear hb5
        obtain ⟨z, hz⟩ : ∃ z, z = fpow x (N / 2 ^ i) := ⟨_, rfl⟩
        rw [← hz]
        have Hz : Hid _ := hz
        clear hz
        go_wp2_with (refine store_r rfl _ _ rfl go z _ (rn_size _) rfl rfl HO5.out ?_)
        have HB6 : Below go w5 (w5.setRow go (rn z)) := Fw.below_setRow _ _ _
        refine ⟨⟨i, by omega, rfl, HA5.out.below HB6 (by omega), (HB6.block _ (by omega)).trans HE5.out, (HB6.block _ (by omega)).trans HR5.out, by rw [← Hz.out]; exact RAt.setRow HO5.out z, HB5.out.trans (HB6.mono (by omega))⟩, ?_⟩
        show ((i : Int) - 1 + 1).toNat < ((i : Int) + 1).toNat
        omega
      · have h0 : N / 2 ^ i % 2 = 0 := by omega
        rw [h0] at htm Hh
        have Hf : Hid (u = fpow x (N / 2 ^ i)) := by
          show _ = _
          rw [Hh.out, Hu.out]
          rfl
        clear h1 h0 Hh Hu
        go_wp2_with (refine store_r rfl _ _ rfl go u _ (rn_size _) rfl rfl HO3.out ?_; rw [← Hw4.out])
        refine ⟨⟨i, by omega, rfl, HA4.out, HE4.out, HR4.out, by rw [← Hf.out]; exact HO4.out, HC4.out⟩, ?_⟩
        show ((i : Int) - 1 + 1).toNat < ((i : Int) + 1).toNat
        omega
end Dc
end Go.Proofs.YtbojijefenfbgaaGreatDoor
namespace Go.Proofs.YtbojijefenfbgaaGreatDoor
open Go Go.RowKit
namespace Qt

/-- What is asked of an operation carried out in w. -/
def Upon (P : Program) (w : World) (v : Value) : Result Next → Prop
  | .ok (.value u) w1 => w1 = w ∧ u = v
  | .ok (.enter f args) w1 => w1 = w ∧ Calls P f args w (fun e w'' => e = .returned v ∧ Below w.heap.size w w'')
  | _ => False
/-- The operation yields v, wherever what was there in W is there. -/
def Yb (P : Program) (W : World) (o : Oper) (v : Value) (a : Act) : Prop := o.guard = none ∧ ∀ w, Below W.heap.size W w → Upon P w v ((execOp a.eval o).run P w)
theorem Yb.same {P : Program} {W : World} {o : Oper} {v : Value} {a a' : Act} (h : Yb P W o v a) (he : execOp a'.eval o = execOp a.eval o) : Yb P W o v a' := ⟨h.1, fun w hw => by rw [he]; exact h.2 w hw⟩
theorem Yb.wp {P : Program} {W w : World} {o : Oper} {v : Value} {a : Act} {Q : Exit → Act → World → Prop} {K : Act → World → Prop} (h : Yb P W o v a) (hw : Below W.heap.size W w) (hK : ∀ w', Below w.heap.size w w' → K (a.put o.dst v) w') : o.wp P a w K Q := by
  have h1 := h.2 w hw
  unfold Oper.wp
  generalize (execOp a.eval o).run P w = r at h1
  cases r with
  | halt x w' => cases h1
  | ok x w' =>
    cases x with
    | value u =>
      obtain ⟨e1, e2⟩ := h1
      subst e1 e2
      exact hK _ (Below.refl _ _)
    | enter f args =>
      obtain ⟨e1, hc⟩ := h1
      subst e1
      exact hc.mono fun e w'' ⟨he, hb⟩ => by subst he; exact hK _ hb
    | _ => cases h1

section
variable {P : Program} {ops : Array Oper} {n : Nat} {W : World}

/-- f operations of the head are still to come; then K. -/
def Still (P : Program) (ops : Array Oper) (n : Nat) (W : World) (K : Array Bool → Act → Prop) : Nat → Array Bool → Act → Prop
  | 0, listed, a => (∀ j, j < n → listed.getD j false = true) ∧ K listed a
  | f + 1, listed, a => (∃ i, i ∈ Region.ready .any ops listed ∧ i < n) ∧ ∀ i ∈ Region.ready .any ops listed, i < n → ∃ oi v, ops[i]? = some oi ∧ Yb P W oi v a ∧ Still P ops n W K f (listed.setIfInBounds i true) (a.put oi.dst v)

theorem Still.first {K : Array Bool → Act → Prop} (hsel : ∀ (j : Nat) (o : Oper) cs b, ops[j]? = some o → o.op ≠ .select cs b) {i : Nat} {oi : Oper} {v : Value} (hoi : ops[i]? = some oi) (hin : i < n) (f : Nat) :
    ∀ listed a, (∀ j oj, ops[j]? = some oj → j ≠ i → listed.getD j true = false → (∀ e ∈ oj.after, Region.binds .any e = true → e.on ≠ i) → oi.apart ops oj = true) →
      i ∈ Region.ready .any ops listed → Yb P W oi v a → Still P ops n W K f (listed.setIfInBounds i true) (a.put oi.dst v) → Still P ops n W K (f + 1) listed a := by
  induction f with
  | zero =>
    intro listed a _ hr hy H
    refine ⟨⟨i, hr, hin⟩, fun j hj hjn => ?_⟩
    by_cases e : j = i
    · subst e; exact ⟨oi, v, hoi, hy, H⟩
    · have h1 := H.1 j hjn
      rw [getD_set_ne false (Ne.symm e), getD_both (mem_ready.1 hj).1] at h1
      cases h1
  | succ f ih =>
    intro listed a hap hr hy H
    refine ⟨⟨i, hr, hin⟩, fun j hj hjn => ?_⟩
    by_cases e : j = i
    · subst e; exact ⟨oi, v, hoi, hy, H⟩
    · obtain ⟨hun, oj, hoj, hall⟩ := mem_ready.1 hj
      have hno : ∀ e ∈ oj.after, Region.binds .any e = true → e.on ≠ i := fun e he hb heq => by
        have h1 := hall e he hb
        rw [heq, getD_both (mem_ready.1 hr).1] at h1
        cases h1
      obtain ⟨h1, h2, h3⟩ := Oper.apart_spec (hap j oj hoj e hun hno)
      obtain ⟨oj', u, hoj', hyj, hS⟩ := H.2 j (ready_mono hj e) hjn
      obtain rfl : oj' = oj := Option.some.inj (hoj'.symm.trans hoj)
      refine ⟨oj', u, hoj, hyj.same (execOp_put oj' (fun cs b => hsel j oj' cs b hoj) a oi.dst v h1).symm, ?_⟩
      refine ih _ _ (fun k ok hk hki hku hkn => hap k ok hk hki ?_ hkn) (ready_mono hr (Ne.symm e)) (hy.same (execOp_put oi (fun cs b => hsel i oi cs b hoi) a oj'.dst u h3)) ?_
      · by_cases hjk : j = k
        · rw [← hjk]; exact hun
        · rwa [getD_set_ne true hjk] at hku
      · rw [Array.setIfInBounds_comm _ _ e, ← Act.put_comm a v u h2]
        exact hS

/-- The walk of the text's order. -/
def Lex (P : Program) (W : World) (K : Act → Prop) : List Oper → Act → Prop
  | [], a => K a
  | o :: l, a => ∃ v, Yb P W o v a ∧ Lex P W K l (a.put o.dst v)
/-- The head, one by one, may be taken in the text's order; at its end B holds of what has come up. -/
def lexF (ops : Array Oper) (B : Array Bool → Bool) : Nat → Nat → Array Bool → Bool
  | 0, _, listed => B listed
  | f + 1, k, listed => (Region.ready .any ops listed).contains k && Region.free .any ops listed k && lexF ops B f (k + 1) (listed.setIfInBounds k true)
theorem Still.lex {K : Act → Prop} {B : Array Bool → Bool} (hsel : Region.noSelect ops = true) (l : List Oper) : ∀ (k : Nat) (listed : Array Bool) (a : Act), (∀ j, j < l.length → l[j]? = ops[k + j]?) → k + l.length = n → n ≤ listed.size → (∀ j, j < k → listed.getD j false = true) →
    lexF ops B l.length k listed = true → Lex P W K l a → Still P ops n W (fun listed' a' => B listed' = true ∧ K a') l.length listed a := by
  induction l with
  | nil =>
    intro k listed a _ hk _ hall hB h
    have e : k = n := by simpa using hk
    subst e
    exact ⟨hall, hB, h⟩
  | cons o l ih =>
    intro k listed a hl hk hsz hall hB h
    have ho : ops[k]? = some o := by simpa using (hl 0 (by simp)).symm
    simp only [List.length_cons, lexF, Bool.and_eq_true] at hB hk
    obtain ⟨v, hy, hK⟩ := h
    refine Still.first (Region.noSelect_spec hsel) ho (by omega) l.length listed a (Region.free_spec ho hB.1.2) (by simpa using hB.1.1) hy ?_
    refine ih (k + 1) _ _ (fun j hj => by have := hl (j + 1) (by simp; omega); simpa [Nat.add_assoc, Nat.add_comm 1 j] using this) (by omega) (by simpa using hsz) (fun j hj => ?_) hB.2 hK
    by_cases e : k = j
    · subst e
      simp [Array.getD_eq_getD_getElem?, show k < listed.size by omega]
    · rw [getD_set_ne false e]
      exact hall j (by omega)

/-- No operation of the head waits for number n. -/
theorem ready_without {listed : Array Bool} (hw : (List.range n).all (fun i => !Region.waitsFor .any ops i n) = true) {i : Nat} (hi : i ∈ Region.ready .any ops (listed.setIfInBounds n true)) (hin : i < n) : i ∈ Region.ready .any ops listed := by
  rw [mem_ready] at *
  obtain ⟨h0, o, ho, hall⟩ := hi
  have h1 := List.all_eq_true.1 hw i (List.mem_range.2 hin)
  refine ⟨by rwa [getD_set_ne true (by omega)] at h0, o, ho, fun e he hb => ?_⟩
  have h2 := hall e he hb
  have hne : n ≠ e.on := fun h => by
    have : Region.waitsFor .any ops i n = true := by
      unfold Region.waitsFor
      simp only [ho]
      exact Array.any_eq_true'.2 ⟨e, he, by simp [hb, h]⟩
    rw [this] at h1
    cases h1
  rwa [getD_set_ne false hne] at h2
theorem Still.shift {K : Array Bool → Act → Prop} (hsel : Region.noSelect ops = true) (hw : (List.range n).all (fun i => !Region.waitsFor .any ops i n) = true) {on : Oper} (_hon : ops[n]? = some on) (hap : (List.range n).all (fun i => match ops[i]? with | some oi => oi.apart ops on | none => true) = true) (u : Value) (f : Nat) :
    ∀ listed a, n < listed.size → Still P ops n W K f listed a → Still P ops n W (fun listed' a' => ∃ l0 a0, K l0 a0 ∧ listed' = l0.setIfInBounds n true ∧ a' = a0.put on.dst u) f (listed.setIfInBounds n true) (a.put on.dst u) := by
  induction f with
  | zero =>
    intro listed a hn H
    exact ⟨fun j hj => by rw [getD_set_ne false (by omega)]; exact H.1 j hj, listed, a, H.2, rfl, rfl⟩
  | succ f ih =>
    intro listed a hn H
    obtain ⟨⟨i0, hi0, hi0n⟩, H2⟩ := H
    refine ⟨⟨i0, ready_mono hi0 (by omega), hi0n⟩, fun i hi hin => ?_⟩
    obtain ⟨oi, v, hoi, hy, hS⟩ := H2 i (ready_without hw hi hin) hin
    have h1 := List.all_eq_true.1 hap i (List.mem_range.2 hin)
    simp only [hoi] at h1
    obtain ⟨a1, a2, a3⟩ := Oper.apart_spec h1
    refine ⟨oi, v, hoi, hy.same (execOp_put oi (fun cs b => Region.noSelect_spec hsel i oi cs b hoi) a on.dst u a3), ?_⟩
    have := ih (listed.setIfInBounds i true) (a.put oi.dst v) (by simpa using hn) hS
    rw [Array.setIfInBounds_comm _ _ (by omega : i ≠ n)] at this
    rwa [Act.put_comm a v u a2] at this

/-- What has come up is closed. -/
theorem inv_set {listed : Array Bool} {m i : Nat} (inv : HeadInv .any ops m listed) (hi : i ∈ Region.ready .any ops listed) (hin : i < m) : HeadInv .any ops m (listed.setIfInBounds i true) := inv.set hi hin
theorem ready_lt {listed : Array Bool} {m i j : Nat} (hs : Region.sinkB .any ops m = true) (hc : Region.chainB .any ops m = true) (hn : m < ops.size) (inv : HeadInv .any ops m listed) (hun : listed.getD i true = false) (him : i < m) (hj : j ∈ Region.ready .any ops listed) : j < m := by
  rcases Nat.lt_or_ge j m with h | h
  · exact h
  · exact absurd hj (tail_waits hs hc hn inv _ i rfl him hun j h)

theorem Still.end2 {K : Array Bool → Act → Prop} {R : World → Prop} {Q : Exit → Act → World → Prop} {g : Nat} (_hg : ∀ (i : Nat) (o : Oper), ops[i]? = some o → o.guard = none) (hs : Region.sinkB .any ops (n + 1) = true) (hc : Region.chainB .any ops (n + 1) = true) (hn : n + 1 < ops.size)
    (hR : ∀ w w', R w → Below w.heap.size w w' → R w') (hK : ∀ listed a, K listed a → ∀ w, Below W.heap.size W w → R w → wpAny P .any ops Q g listed a w) (f : Nat) :
    ∀ listed a, HeadInv .any ops (n + 1) listed → listed.getD n false = true → Still P ops n W K f listed a → ∀ w, Below W.heap.size W w → R w → wpAny P .any ops Q (g + f) listed a w := by
  induction f with
  | zero => intro listed a _ _ H w hw hr; exact hK _ _ H.2 w hw hr
  | succ f ih =>
    intro listed a inv hln H w hw hr
    obtain ⟨⟨i0, hi0, hi0n⟩, H2⟩ := H
    refine ⟨fun h0 => (by rw [h0] at hi0; cases hi0), fun i hi => ?_⟩
    have hi1 := ready_lt hs hc hn inv (mem_ready.1 hi0).1 (by omega) hi
    have hin : i < n := by
      rcases Nat.lt_or_ge i n with h | h
      · exact h
      · obtain rfl : i = n := by omega
        have := getD_both (mem_ready.1 hi).1
        rw [hln] at this; cases this
    obtain ⟨oi, v, hoi, hy, hS⟩ := H2 i hi hin
    unfold wpOp
    simp only [hoi]
    rw [if_pos (by simp [Region.wanted, hy.1])]
    refine .inl (hy.wp hw fun w' hb => ?_)
    exact ih _ _ (inv.set hi hi1) (by rw [getD_set_ne false (by omega)]; exact hln) hS w' (hw.trans (hb.mono hw.size)) (hR w w' hr hb)

theorem Still.end1 {K : Array Bool → Act → Prop} {R : Value → World → Prop} {Q : Exit → Act → World → Prop} {g : Nat} (hsel : Region.noSelect ops = true) (hg : ∀ (i : Nat) (o : Oper), ops[i]? = some o → o.guard = none) (hs : Region.sinkB .any ops (n + 1) = true) (hc : Region.chainB .any ops (n + 1) = true) (hn : n + 1 < ops.size)
    (hwt : (List.range n).all (fun i => !Region.waitsFor .any ops i n) = true) {on : Oper} (hon : ops[n]? = some on) (hap : (List.range n).all (fun i => match ops[i]? with | some oi => oi.apart ops on | none => true) = true) (hfree : on.after = #[])
    (hR : ∀ u w w', R u w → Below w.heap.size w w' → R u w')
    (hfl : ∀ a w Kn, Below W.heap.size W w → (∀ u w', R u w' → Below W.heap.size W w' → Kn (a.put on.dst u) w') → on.wp P a w Kn Q)
    (hK : ∀ u l0 a0, K l0 a0 → ∀ w, Below W.heap.size W w → R u w → wpAny P .any ops Q g (l0.setIfInBounds n true) (a0.put on.dst u) w) (f : Nat) :
    ∀ listed a, HeadInv .any ops (n + 1) listed → listed.getD n true = false → Still P ops n W K f listed a → ∀ w, Below W.heap.size W w → wpAny P .any ops Q (g + f + 1) listed a w := by
  have hnr : ∀ listed : Array Bool, listed.getD n true = false → n ∈ Region.ready .any ops listed := fun listed h => mem_ready.2 ⟨h, on, hon, fun e he => by rw [hfree] at he; simp at he⟩
  have hfloat : ∀ f listed a, HeadInv .any ops (n + 1) listed → listed.getD n true = false → Still P ops n W K f listed a → ∀ w, Below W.heap.size W w → wpOp P ops Q n (wpAny P .any ops Q (g + f) (listed.setIfInBounds n true)) a w := by
    intro f listed a inv hln H w hw
    unfold wpOp
    simp only [hon]
    rw [if_pos (by simp [Region.wanted, hg n on hon])]
    refine .inl (hfl a w _ hw fun u w' hr hb => ?_)
    have hsz : n < listed.size := by
      rcases Nat.lt_or_ge n listed.size with h | h
      · exact h
      · simp [Array.getD_eq_getD_getElem?, Array.getElem?_eq_none h] at hln
    have hS := Still.shift (P := P) (W := W) hsel hwt hon hap u f listed a hsz H
    have hset : (listed.setIfInBounds n true).getD n false = true := by simp [Array.getD_eq_getD_getElem?, hsz]
    have hend : ∀ listed' a', (∃ l0 a0, K l0 a0 ∧ listed' = l0.setIfInBounds n true ∧ a' = a0.put on.dst u) → ∀ w, Below W.heap.size W w → R u w → wpAny P .any ops Q g listed' a' w := by
      rintro listed' a' ⟨l0, a0, hk, e1, e2⟩ w1 hw1 hr1
      rw [e1, e2]
      exact hK u l0 a0 hk w1 hw1 hr1
    exact Still.end2 (R := R u) hg hs hc hn (hR u) hend f _ _ (inv.set (hnr listed hln) (by omega)) hset hS w' hb hr
  induction f with
  | zero =>
    intro listed a inv hln H w hw
    refine ⟨fun h0 => (by have := hnr listed hln; rw [h0] at this; cases this), fun i hi => ?_⟩
    have hi1 := ready_lt hs hc hn inv hln (by omega) hi
    have hin : i = n := by
      rcases Nat.lt_or_ge i n with h | h
      · have h1 := H.1 i h
        rw [getD_both (mem_ready.1 hi).1] at h1; cases h1
      · omega
    rw [hin]
    exact hfloat 0 listed a inv hln H w hw
  | succ f ih =>
    intro listed a inv hln H w hw
    refine ⟨fun h0 => (by have := hnr listed hln; rw [h0] at this; cases this), fun i hi => ?_⟩
    have hi1 := ready_lt hs hc hn inv hln (by omega) hi
    by_cases e : i = n
    · rw [e]; exact hfloat (f + 1) listed a inv hln H w hw
    · have hin : i < n := by omega
      obtain ⟨oi, v, hoi, hy, hS⟩ := H.2 i hi hin
      unfold wpOp
      simp only [hoi]
      rw [if_pos (by simp [Region.wanted, hy.1])]
      refine .inl (hy.wp hw fun w' hb => ?_)
      exact ih _ _ (inv.set hi hi1) (by rw [getD_set_ne true e]; exact hln) hS w' (hw.trans (hb.mono hw.size))
end

/-- All that the theorem asks of a region. -/
def floatB (ops : Array Oper) (n : Nat) : Bool :=
  Region.noSelect ops && decide (n + 1 < ops.size) && ops.all (fun o => o.guard.isNone) && Region.sinkB .any ops (n + 1) && Region.chainB .any ops (n + 1) && (List.range n).all (fun i => !Region.waitsFor .any ops i n) &&
  (List.range n).all (fun i => match ops[i]?, ops[n]? with | some oi, some on => oi.apart ops on | _, _ => true) && (match ops[n]? with | some on => on.after.isEmpty | none => false) &&
  lexF ops (fun listed => Region.seqB .any ops (ops.size - (n + 1)) (n + 1) (listed.setIfInBounds n true)) n 0 (Array.replicate ops.size false)

theorem wp_region_float {P : Program} {id : Nat} {Q : Exit → Act → World → Prop} {a : Act} {w : World} {l : List Oper} {R : Value → World → Prop} (n : Nat) (hm : P.follows .mixedOrders = true) (hB : floatB l.toArray n = true) (on : Oper) (hon : l[n]? = some on)
    (hR : ∀ u w w', R u w → Below w.heap.size w w' → R u w')
    (hfl : ∀ a w1 Kn, Below w.heap.size w w1 → (∀ u w', R u w' → Below w.heap.size w w' → Kn (a.put on.dst u) w') → on.wp P a w1 Kn Q)
    (h : Lex P w (fun a' => ∀ u w', Below w.heap.size w w' → R u w' → wpList P l.toArray Q (l.drop (n + 1)) (a'.put on.dst u) w') (l.take n) a) : (Code.region id l.toArray true).wp P Q a w := by
  simp only [floatB, Bool.and_eq_true, decide_eq_true_eq] at hB
  obtain ⟨⟨⟨⟨⟨⟨⟨⟨hsel, hn⟩, hgd⟩, hs⟩, hc⟩, hwt⟩, hap⟩, hfr⟩, hlex⟩ := hB
  have hon' : l.toArray[n]? = some on := by simpa using hon
  have hn' : n + 1 < l.length := by simpa using hn
  have htl : (l.take n).length = n := by simp; omega
  have hdl : (l.drop (n + 1)).length = l.toArray.size - (n + 1) := by simp
  have inv0 : HeadInv .any l.toArray (n + 1) (Array.replicate l.toArray.size false) :=
    ⟨by simp, fun j oj _ hl => (by rw [getD_replicate_false] at hl; cases hl), fun t _ ht => getD_in (by simpa using ht) (getD_replicate_false _ _)⟩
  have hguard : ∀ (i : Nat) (o : Oper), l.toArray[i]? = some o → o.guard = none := fun i o ho => by
    have h1 := Array.all_eq_true_iff_forall_mem.1 hgd o (Array.mem_of_getElem? ho)
    simpa using h1
  have hS := Still.lex (P := P) (W := w) (n := n) hsel (l.take n) 0 (Array.replicate l.toArray.size false) a (fun j hj => by rw [htl] at hj; simp [hj]) (by rw [htl]; simp) (by simp; omega) (fun j hj => absurd hj (by omega)) (by rw [htl]; exact hlex) h
  rw [htl] at hS
  simp only [hon'] at hap hfr
  refine wp_region_any hm ?_
  have hK : ∀ (u : Value) (l0 : Array Bool) (a0 : Act), ((fun listed : Array Bool => Region.seqB .any l.toArray (l.toArray.size - (n + 1)) (n + 1) (listed.setIfInBounds n true)) l0 = true ∧ ∀ u w', Below w.heap.size w w' → R u w' → wpList P l.toArray Q (l.drop (n + 1)) (a0.put on.dst u) w') →
      ∀ w1, Below w.heap.size w w1 → R u w1 → wpAny P .any l.toArray Q (l.toArray.size - (n + 1)) (l0.setIfInBounds n true) (a0.put on.dst u) w1 := fun u l0 a0 hk w1 hw1 hr1 => by
    have := wpAny_of_seq (md := .any) (Q' := Q) (l.drop (n + 1)) (n + 1) (l0.setIfInBounds n true) (a0.put on.dst u) w1 (fun j => by simp [List.getElem?_drop]) (by rw [hdl]; exact hk.1) (hk.2 u w1 hw1 hr1)
    rwa [hdl] at this
  have := Still.end1 (P := P) (W := w) (R := R) (Q := Q) (g := l.toArray.size - (n + 1)) hsel hguard hs hc hn hwt hon' (by
    rw [List.all_eq_true] at hap ⊢
    intro i hi
    have := hap i hi
    cases hoi : l.toArray[i]? with
    | none => rfl
    | some oi => rw [hoi] at this; exact this) (by simpa using hfr) hR hfl hK n _ a inv0 (getD_in (by simp; omega) (getD_replicate_false _ _)) hS { w with drawn := w.drawn + 1 } ⟨rfl, rfl, rfl, Nat.le_refl _, fun _ _ => rfl⟩
  rwa [show l.toArray.size - (n + 1) + n + 1 = l.toArray.size by omega] at this
end Qt
end Go.Proofs.YtbojijefenfbgaaGreatDoor

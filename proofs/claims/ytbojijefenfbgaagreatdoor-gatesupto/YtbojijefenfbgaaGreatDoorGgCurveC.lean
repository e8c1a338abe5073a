/- Walks of the program's curve: Zero, Base, multiples. Walks of the program's curve: multiples. Walks of the program's curve: Sum. -/
import Derived.Test.YtbojijefenfbgaaGreatDoorGgShort
import Derived.Test.YtbojijefenfbgaaGreatDoorGgCurveB
namespace Go.Proofs.YtbojijefenfbgaaGreatDoor
open Go.RowKit
namespace Ed
def bX : F := ⟨15112221349535400772501151409588531511454012693041857206046113283949847762202, by decide⟩
def bY : F := ⟨46316835694926478169428394003475163141307993866256225615783033603165251855960, by decide⟩
def bP : Pt := (bX, bY)
theorem bP_on : OnP bP := by unfold OnP On bP; decide
def emul (p : E) : Nat → E
 | 0 => ezero
 | n + 1 => eadd (emul p n) p
theorem ezero_rep : Rep ezero zero := aff_rep 0 1
theorem emul_rep {e : E} {p : Pt} (hp : OnP p) (he : Rep e p) (n : Nat) : Rep (emul e n) (mulP p n) := by
 induction n with
 | zero => exact ezero_rep
 | succ n ih => exact eadd_rep (mulP_on hp n) hp ih he
end Ed
namespace Cw
open Fw
theorem affine_0 (w : World) : Calls Tryz.prog 156 #[.agg #[.int .u64 0, .int .u64 0, .int .u64 0, .int .u64 0], .agg (fw 1)] w fun e w' => e = .returned (.agg (pw Ed.ezero)) ∧ Below w.heap.size w w' := by
 have h := affine_f 0 1 w
 rwa [fw_zero] at h
noncomputable abbrev Z1 (w : World) : World := w.alloc (.cells ptZero 163)
theorem Z1_r (w : World) : PAt (Z1 w) w.heap.size e0 := .zero (alloc_at _ _ _ rfl)
theorem Z1_b (w : World) : Below w.heap.size w (Z1 w) := (Below.refl _ _).alloc (Nat.le_refl _) _
theorem zero_p (w : World) : Calls Tryz.prog 174 #[] w fun e w' => e = .returned (.agg (pw Ed.ezero)) ∧ Below w.heap.size w w' := by
 go_enter Tryz.func174, Tryz.ntmps174
 go_wp2_with fail
 refine (one_f _).mono ?_
 rintro e w1 ⟨rfl, hb1⟩
 have HX1 : Hid (Below (Z1 w).heap.size (Z1 w) w1) := hb1
 clear hb1
 go_wp2_with fail
 refine (affine_0 _).mono ?_
 rintro e w2 ⟨rfl, hb2⟩
 have HX : Hid (Below (Z1 w).heap.size (Z1 w) w2) := HX1.out.trans (hb2.mono HX1.out.size)
 clear hb2
 have HO : Hid (PAt w2 w.heap.size e0) := (Z1_r w).below HX.out (Z1_r w).lt
 go_wp2_with (refine store_p rfl _ _ rfl w.heap.size Ed.ezero e0 rfl rfl HO.out ?_)
 exact ret_p Tryz.results174 rfl w.heap.size Ed.ezero rfl (HO.out.setRow _) ⟨rfl, below_store (Z1_b w) HX.out _ (by omega) _⟩
theorem affine_b (w : World) : Calls Tryz.prog 156 #[.agg #[.int .u64 14507833142362363162, .int .u64 7578651490590762930, .int .u64 13881468655802702940, .int .u64 2407515759118799870], .agg #[.int .u64 7378697629483820632, .int .u64 7378697629483820646, .int .u64 7378697629483820646, .int .u64 7378697629483820646]] w fun e w' => e = .returned (.agg (pw (Ed.aff Ed.bX Ed.bY))) ∧ Below w.heap.size w w' := by
 have h := affine_f Ed.bX Ed.bY w
 rw [fw_lit Ed.bX 14507833142362363162 7578651490590762930 13881468655802702940 2407515759118799870 (by decide) (by decide) (by decide) (by decide) (by decide), fw_lit Ed.bY 7378697629483820632 7378697629483820646 7378697629483820646 7378697629483820646 (by decide) (by decide) (by decide) (by decide) (by decide)] at h
 exact h
theorem base_p (w : World) : Calls Tryz.prog 111 #[] w fun e w' => e = .returned (.agg (pw (Ed.aff Ed.bX Ed.bY))) ∧ Below w.heap.size w w' := by
 go_enter Tryz.func111, Tryz.ntmps111
 go_wp2_with fail
 refine (affine_b _).mono ?_
 rintro e w2 ⟨rfl, hb2⟩
 have HX : Hid (Below (Z1 w).heap.size (Z1 w) w2) := hb2
 clear hb2
 have HO : Hid (PAt w2 w.heap.size e0) := (Z1_r w).below HX.out (Z1_r w).lt
 go_wp2_with (refine store_p rfl _ _ rfl w.heap.size (Ed.aff Ed.bX Ed.bY) e0 rfl rfl HO.out ?_)
 exact ret_p Tryz.results111 rfl w.heap.size (Ed.aff Ed.bX Ed.bY) rfl (HO.out.setRow _) ⟨rfl, below_store (Z1_b w) HX.out _ (by omega) _⟩
noncomputable def tc (f : Nat → Ed.E) (j : Nat) : Value := ((pw (f (j / 16)))[j % 16]?).getD undef
theorem tbl_ex : ∃ g : (Nat → Ed.E) → Array Value, ∀ f, g f = Own.mkRow 256 (tc f) := ⟨_, fun _ => rfl⟩
noncomputable def tbl : (Nat → Ed.E) → Array Value := Classical.choose tbl_ex
theorem tbl_def (f : Nat → Ed.E) : tbl f = Own.mkRow 256 (tc f) := Classical.choose_spec tbl_ex f
theorem tbl_size (f : Nat → Ed.E) : (tbl f).size = 256 := by rw [tbl_def]; exact Own.mkRow_size _ _
def TAt (w : World) (b : Nat) (f : Nat → Ed.E) : Prop := w.heap[b]? = some (.cells (tbl f) 276 (0, 0))
theorem TAt.row {w : World} {b : Nat} {f : Nat → Ed.E} (h : TAt w b f) : w.heap[b]? = some (.cells (Own.mkRow 256 (tc f)) 276 (0, 0)) := by rw [← tbl_def]; exact h
theorem TAt.lt {w : World} {b : Nat} {f : Nat → Ed.E} (h : TAt w b f) : b < w.heap.size := (Array.getElem?_eq_some_iff.1 h).1
theorem TAt.below {w w' : World} {b : Nat} {f : Nat → Ed.E} (h : TAt w b f) {k : Nat} (hb : Below k w w') (hk : b < k) : TAt w' b f := (hb.block b hk).trans h
theorem pw_get (e : Ed.E) (j : Nat) (h : j < 16) : (pw e)[j]? = some (((pw e)[j]?).getD undef) := by
 have : j < (pw e).size := by rw [pw_size]; exact h
 simp [this]
theorem tc_one (f : Nat → Ed.E) (j : Nat) : (tc f j).oneCell' = true := by
 unfold tc
 have h := pw_get (f (j / 16)) (j % 16) (by omega)
 have h1 := Array.all_eq_true_iff_forall_mem.1 (pw_one (f (j / 16))) _ (Array.mem_of_getElem? h)
 exact h1
theorem tbl_one (f : Nat → Ed.E) : (tbl f).all (·.oneCell') = true := by rw [tbl_def]; exact Own.all_one fun j _ => tc_one f j
theorem pw_e0 (j : Nat) (h : j < 16) : ((pw e0)[j]?).getD undef = .int .u64 0 := by
 rw [pw_zero]
 rcases j with _ | _ | _ | _ | _ | _ | _ | _ | _ | _ | _ | _ | _ | _ | _ | _ | j <;> first | rfl | omega
theorem tbl_zero : Tryz.zeroCells276 = tbl (fun _ => e0) := by
 have h : Tryz.zeroCells276 = Own.mkRow 256 (fun _ => .int .u64 0) := by kernel_rfl
 rw [h, tbl_def]
 exact Own.mkRow_congr fun j _ => (pw_e0 (j % 16) (by omega)).symm
theorem TAt.zero {w : World} {b : Nat} (h : w.heap[b]? = some (.cells Tryz.zeroCells276 276 (0, 0))) : TAt w b (fun _ => e0) := by unfold TAt; rw [← tbl_zero]; exact h
theorem TAt.range {w : World} {b : Nat} {f : Nat → Ed.E} (h : TAt w b f) (i : Nat) (hi : i < 16) : w.rangeAt b (16 * i) (pw (f i)).toList := fun j v hv => by
 have hj : j < 16 := by
  have := (List.getElem?_eq_some_iff.1 hv).1
  rw [Array.length_toList, pw_size] at this
  exact this
 rw [Own.row_cell h.row (16 * i + j) (by omega)]
 unfold tc
 rw [show (16 * i + j) / 16 = i by omega, show (16 * i + j) % 16 = j by omega]
 have h2 : (pw (f i))[j]? = some v := by simpa using hv
 rw [h2]; rfl
theorem TAt.there {w : World} {b : Nat} {f : Nat → Ed.E} (h : TAt w b f) (i : Nat) (hi : i < 16) : w.there b (16 * i) 16 := fun j hj =>
 ⟨by rw [Own.row_cell h.row (16 * i + j) (by omega)]; rfl, Own.row_frozen h.row _⟩
theorem row_cells {g n : Nat} {t : TypeId} (vs : List Value) : ∀ (o : Nat) (w : World) (f : Nat → Value), w.heap[g]? = some (.cells (Own.mkRow n f) t (0, 0)) →
  (w.setCells g o vs).heap[g]? = some (.cells (Own.mkRow n (fun j => if o ≤ j ∧ j < o + vs.length then (vs[j - o]?).getD undef else f j)) t (0, 0)) := by
 induction vs with
 | nil =>
  intro o w f h
  rw [show (fun j => if o ≤ j ∧ j < o + ([] : List Value).length then (([] : List Value)[j - o]?).getD undef else f j) = f from funext fun j => if_neg (by simp)]
  exact h
 | cons v vs ih =>
  intro o w f h
  have h1 := ih (o + 1) _ _ (Own.row_store h o v)
  rw [show (w.setCells g o (v :: vs)) = (w.setCell ⟨g, o, none⟩ v).setCells g (o + 1) vs from rfl, h1]
  congr 2
  refine Own.mkRow_congr fun j _ => ?_
  by_cases e : j = o
  ·subst e
   rw [if_neg (by omega), if_pos rfl, if_pos (by simp)]
   simp
  ·by_cases hj : o + 1 ≤ j ∧ j < o + 1 + vs.length
   ·rw [if_pos hj, if_pos (by simp; omega), show j - o = (j - (o + 1)) + 1 by omega]
    simp
   ·rw [if_neg hj, if_neg e, if_neg (by simp; omega)]
theorem below_setCells {B : Nat} {b : Nat} (hb : B ≤ b) (vs : List Value) : ∀ (o : Nat) (a w : World), Below B a w → Below B a (w.setCells b o vs) := by
 induction vs with
 | nil => intro o a w h; exact h
 | cons v vs ih => intro o a w h; exact ih (o + 1) a _ (h.setCell hb v)
def upd (f : Nat → Ed.E) (i : Nat) (e : Ed.E) : Nat → Ed.E := fun k => if k = i then e else f k
theorem TAt.set {w : World} {b : Nat} {f : Nat → Ed.E} (h : TAt w b f) (i : Nat) (_hi : i < 16) (e : Ed.E) : TAt (w.setCells b (16 * i) (pw e).toList) b (upd f i e) := by
 have h' := h.row
 have h2 := row_cells (pw e).toList (16 * i) w (tc f) h'
 unfold TAt
 rw [tbl_def, h2]
 refine congrArg (fun c => some (Obj.cells c 276 (0, 0))) ?_
 refine Own.mkRow_congr fun j hj => ?_
 rw [Array.length_toList, pw_size]
 unfold tc upd
 by_cases hc : 16 * i ≤ j ∧ j < 16 * i + 16
 ·rw [if_pos hc, if_pos (by omega), show j - 16 * i = j % 16 by omega]
  simp
 ·rw [if_neg hc, if_neg (by omega)]
theorem PAt.setCells {w : World} {b c o : Nat} {e : Ed.E} (h : PAt w b e) (hne : b ≠ c) (vs : List Value) : PAt (w.setCells c o vs) b e := by
 induction vs generalizing w o with
 | nil => exact h
 | cons v vs ih =>
  refine ih (w := w.setCell ⟨c, o, none⟩ v) (o := o + 1) ?_
  unfold PAt at *
  rw [Below.heap_setCell _ _ _ _ (by exact hne)]
  exact h
theorem TAt.setCells {w : World} {b c o : Nat} {f : Nat → Ed.E} (h : TAt w b f) (hne : b ≠ c) (vs : List Value) : TAt (w.setCells c o vs) b f := by
 induction vs generalizing w o with
 | nil => exact h
 | cons v vs ih =>
  refine ih (w := w.setCell ⟨c, o, none⟩ v) (o := o + 1) ?_
  unfold TAt at *
  rw [Below.heap_setCell _ _ _ _ (by exact hne)]
  exact h
end Cw
end Go.Proofs.YtbojijefenfbgaaGreatDoor
namespace Go.Proofs.YtbojijefenfbgaaGreatDoor
open Go.RowKit
namespace Qt
theorem run_idx {P : Program} (w : World) (t e : TypeId) (len sz : Nat) (i : TypeInfo) (hu : P.underlying t = some (.array len e)) (hi : P.info? e = some i) (hs : P.cellsOf e = sz) (b off n : Nat) (k : IntKind) (hn : n < len) :
  (Instr.indexAt t (.pointer (some ⟨b, off, none⟩)) (.int k (n : Int))).run P w = .ok (.pointer (some ⟨b, off + n * sz, none⟩)) w := by
 have h1 : (underlying t).run P w = .ok (.array len e) w := run_underlying hu w
 have h2 : (sizeOf e).run P w = .ok sz w := by rw [← hs]; exact run_sizeOf w hi
 have h3 : (0 : Int) ≤ (n : Int) ∧ (n : Int) < (len : Int) := ⟨by omega, by omega⟩
 simp [Instr.indexAt, asIntOf, Instr.sureAddr, h1, h2, h3, hn, Addr.add_mid]
theorem y_idx {P : Program} {W : World} {K : Act → Prop} {l : List Oper} {o : Oper} {a : Act} (hg : o.guard = none) (t : TypeId) (x ix : Operand) (ho : o.op = .indexAddr t x ix) (e : TypeId) (len sz : Nat) (hu : P.underlying t = some (.array len e)) (hs : P.cellsOf e = sz) (hi0 : (P.info? e).isSome = true) (b off n : Nat) (k : IntKind)
  (hx : a.eval x = .pointer (some ⟨b, off, none⟩)) (hi : a.eval ix = .int k (n : Int)) (hn : n < len) (h : Lex P W K l (a.put o.dst (.pointer (some ⟨b, off + n * sz, none⟩)))) : Lex P W K (o :: l) a := by
 refine y_val hg _ (fun w' _ => ?_) h
 obtain ⟨i, hi1⟩ := Option.isSome_iff_exists.1 hi0
 unfold execOp
 simp only [ho, hx, hi, Sem.run_bind, Sem.run_pure, Result.andThen_ok, run_idx w' t e len sz i hu hi1 hs b off n k hn]
end Qt
namespace Cw
open Fw
def ft (p : Ed.E) (k : Nat) : Nat → Ed.E := fun j => if j ≤ k then Ed.emul p j else e0
theorem ft_zero (p : Ed.E) : upd (fun _ => e0) 0 Ed.ezero = ft p 0 := by
 funext j
 unfold upd ft
 by_cases h : j = 0
 ·subst h; rfl
 ·rw [if_neg h, if_neg (by omega)]
theorem ft_succ (p : Ed.E) (k : Nat) : upd (ft p k) (k + 1) (Ed.eadd (ft p k k) p) = ft p (k + 1) := by
 funext j
 unfold upd ft
 by_cases h : j = k + 1
 ·subst h; rw [if_pos rfl, if_pos (Nat.le_refl _), if_pos (Nat.le_refl _)]; rfl
 ·rw [if_neg h]
  by_cases h2 : j ≤ k
  ·rw [if_pos h2, if_pos (by omega)]
  ·rw [if_neg h2, if_neg (by omega)]
theorem tbl_full (p : Ed.E) : tbl (ft p 15) = tbl (Ed.emul p) := by
 rw [tbl_def, tbl_def]
 refine Own.mkRow_congr fun j hj => ?_
 unfold tc ft
 rw [if_pos (by omega)]
theorem y_pmid {W : World} {K : Act → Prop} {l : List Oper} {o : Oper} {a : Act} (hg : o.guard = none) (x : Operand) (ho : o.op = .load 163 x) (b off : Nat) (v : Ed.E) (hx : a.eval x = .pointer (some ⟨b, off, none⟩)) (hb : b < W.heap.size) (hr : W.rangeAt b off (pw v).toList)
  (h : Qt.Lex Tryz.prog W K l (a.put o.dst (.agg (pw v)))) : Qt.Lex Tryz.prog W K (o :: l) a :=
 Qt.y_mid hg 163 x ho b off hx (pw v).toList _ hb hr Tryz.underlying163 rfl (by rw [Array.length_toList, pw_size]; kernel_rfl) h
theorem store_pt {ops : Array Oper} {rest : List Oper} {o : Oper} {a : Act} {w : World} {Q : Exit → Act → World → Prop} (hg : o.guard = none) (x y : Operand) (ho : o.op = .store 163 x y) (b off : Nat) (v : Ed.E) (hx : a.eval x = .pointer (some ⟨b, off, none⟩)) (hy : a.eval y = .agg (pw v)) (hb : w.there b off 16)
  (h : wpList Tryz.prog ops Q rest (a.put o.dst undef) (w.setCells b off (pw v).toList)) : wpList Tryz.prog ops Q (o :: rest) a w :=
 wpList_store_mid hg 163 x y ho b off (pw v) hx hy (by rw [pw_size]; exact hb) (by rw [pw_size]; kernel_rfl) (pw_one v) h
theorem load_t {ops : Array Oper} {rest : List Oper} {o : Oper} {a : Act} {w : World} {Q : Exit → Act → World → Prop} (hg : o.guard = none) (x : Operand) (ho : o.op = .load 276 x) (b : Nat) (v : Nat → Ed.E) (hx : a.eval x = .pointer (some ⟨b, 0, none⟩)) (hb : TAt w b v)
  (h : wpList Tryz.prog ops Q rest (a.put o.dst (.agg (tbl v))) w) : wpList Tryz.prog ops Q (o :: rest) a w :=
 wpList_load_row hg 276 x ho b hx 276 (tbl v) (0, 0) _ hb Tryz.underlying276 rfl (by rw [tbl_size]; kernel_rfl) h
theorem store_t {ops : Array Oper} {rest : List Oper} {o : Oper} {a : Act} {w : World} {Q : Exit → Act → World → Prop} (hg : o.guard = none) (x y : Operand) (ho : o.op = .store 276 x y) (b : Nat) (v old : Nat → Ed.E) (hx : a.eval x = .pointer (some ⟨b, 0, none⟩)) (hy : a.eval y = .agg (tbl v)) (hb : TAt w b old)
  (h : wpList Tryz.prog ops Q rest (a.put o.dst undef) (w.setRow b (tbl v))) : wpList Tryz.prog ops Q (o :: rest) a w :=
 wpList_store_row hg 276 x y ho b (tbl v) hx hy 276 (tbl old) hb (by rw [tbl_size]; kernel_rfl) ((tbl_size _).trans (tbl_size _).symm) (tbl_one v) h
theorem TAt.setRow {w : World} {b : Nat} {e : Nat → Ed.E} (h : TAt w b e) (f : Nat → Ed.E) : TAt (w.setRow b (tbl f)) b f := setRow_heap _ _ _ _ _ _ h
theorem ret_t {fn : Func} {p : Tmp} (h : fn.results = #[.cell p 276]) {post : Ending → World → Prop} {a : Act} {w : World} (hd : a.defers = []) (g : Nat) (v : Nat → Ed.E) (hp : a.tmps.getD p undef = .pointer (some ⟨g, 0, none⟩)) (hg : TAt w g v) (hpost : post (.returned (.agg (tbl v))) w) :
  bodyPost Tryz.prog fn post .ret a w :=
 Own.ret_row h hd g 276 (tbl v) (0, 0) _ hp hg Tryz.underlying276 rfl (by rw [tbl_size]; kernel_rfl) hpost
noncomputable abbrev M3 (w : World) (p : Ed.E) : World := ((w.alloc (.cells (pw p) 163)).alloc (.cells Tryz.zeroCells276 276)).alloc (.cells Tryz.zeroCells276 276)
theorem M3_p (w : World) (p : Ed.E) : PAt (M3 w p) w.heap.size p := PAt.below (alloc_at w _ _ rfl) (((Below.refl (w.heap.size + 1) _).alloc (by simp) _).alloc (by simp) _) (by omega)
theorem M3_r (w : World) (p : Ed.E) : TAt (M3 w p) (w.heap.size + 1) (fun _ => e0) := TAt.below (.zero (alloc_at _ _ _ (by simp))) ((Below.refl (w.heap.size + 2) _).alloc (by simp) _) (by omega)
theorem M3_t (w : World) (p : Ed.E) : TAt (M3 w p) (w.heap.size + 1 + 1) (fun _ => e0) := .zero (alloc_at _ _ _ (by simp))
theorem M3_b (w : World) (p : Ed.E) : Below w.heap.size w (M3 w p) := (((Below.refl _ _).alloc (Nat.le_refl _) _).alloc (by simp) _).alloc (by simp; omega) _
set_option maxRecDepth 100000 in
set_option maxHeartbeats 1000000 in
theorem mult_p (p : Ed.E) (w : World) : Calls Tryz.prog 173 #[.agg (pw p)] w fun e w' => e = .returned (.agg (tbl (Ed.emul p))) ∧ Below w.heap.size w w' := by
 have HP : Hid (PAt (M3 w p) w.heap.size p) := M3_p w p
 have HR : Hid (TAt (M3 w p) (w.heap.size + 1) (fun _ => e0)) := M3_r w p
 have HT : Hid (TAt (M3 w p) (w.heap.size + 1 + 1) (fun _ => e0)) := M3_t w p
 have HB : Hid (Below w.heap.size w (M3 w p)) := M3_b w p
 go_enter Tryz.func173, Tryz.ntmps173
 go_wp2_with fail
 refine (zero_p _).mono ?_
 rintro e w1 ⟨rfl, hb1⟩
 have HX : Hid (Below (M3 w p).heap.size (M3 w p) w1) := hb1
 clear hb1
 have HT1 : Hid (TAt w1 (w.heap.size + 1 + 1) (fun _ => e0)) := HT.out.below HX.out HT.out.lt
 have HR1 : Hid (TAt w1 (w.heap.size + 1) (fun _ => e0)) := HR.out.below HX.out HR.out.lt
 have HP1 : Hid (PAt w1 w.heap.size p) := HP.out.below HX.out HP.out.lt
 have HB1 : Hid (Below w.heap.size w w1) := HB.out.trans (HX.out.mono HB.out.size)
 go_wp2_with (refine store_pt rfl _ _ rfl (w.heap.size + 1 + 1) 0 Ed.ezero rfl rfl (HT1.out.there 0 (by omega)) ?_)
 have HT2 : Hid (TAt (w1.setCells (w.heap.size + 1 + 1) 0 (pw Ed.ezero).toList) (w.heap.size + 1 + 1) (ft p 0)) := by
  show TAt _ _ _
  rw [← ft_zero]; exact HT1.out.set 0 (by omega) Ed.ezero
 go_loopw [7] (fun i wq => ∃ k : Nat, k ≤ 15 ∧ i = .int .i64 (k : Int) ∧ TAt wq (w.heap.size + 1 + 1) (ft p k) ∧ PAt wq w.heap.size p ∧ TAt wq (w.heap.size + 1) (fun _ => e0) ∧ Below w.heap.size w wq) (fun i _ => 15 - (intOf i).toNat)
 case atStart => exact ⟨0, by omega, rfl, HT2.out, HP1.out.setCells (by omega) _, HR1.out.setCells (by omega) _, below_setCells (by omega) _ _ _ _ HB1.out⟩
 case round =>
  clear HP HR HT HB HX HT1 HR1 HP1 HB1 HT2
  rename World => wa
  obtain ⟨k, hk, rfl, ht, hp, hr, hb⟩ := hrel
  have HT : Hid (TAt wa (w.heap.size + 1 + 1) (ft p k)) := ht
  have HP : Hid (PAt wa w.heap.size p) := hp
  have HR : Hid (TAt wa (w.heap.size + 1) (fun _ => e0)) := hr
  have HB : Hid (Below w.heap.size w wa) := hb
  clear ht hp hr hb
  by_cases hk8 : k < 15
  ·go_wp2_with fail
   refine Qt.wp_tail 8 (by kernel_rfl) (by kernel_rfl) ?_
   refine Qt.y_val rfl (.int .i64 (k : Int)) (fun _ _ => by kernel_rfl) ?_
   refine Qt.y_val rfl (.int .i64 ((k + 1 : Nat) : Int)) (fun w' _ => ?_) ?_
   ·go_simp
    rw [IntKind.wrap_i64]
    omega
   refine Qt.y_val rfl (.int .i64 (k : Int)) (fun _ _ => by kernel_rfl) ?_
   simp only [Act.put, zA, zB, zC]
   refine Qt.y_idx rfl 276 _ _ rfl 163 16 16 Tryz.underlying276 (by kernel_rfl) (by kernel_rfl) (w.heap.size + 1 + 1) 0 k .i64 rfl rfl (by omega) ?_
   rw [show 0 + k * 16 = 16 * k by omega]
   refine y_pmid rfl _ rfl (w.heap.size + 1 + 1) (16 * k) (ft p k k) rfl HT.out.lt (HT.out.range k (by omega)) ?_
   refine y_pt rfl _ rfl w.heap.size p rfl HP.out ?_
   refine Qt.y_call rfl 176 #[.agg (pw (ft p k k)), .agg (pw p)] (.agg (pw (Ed.eadd (ft p k k) p))) (fun _ => by kernel_rfl) (fun w' _ => add_p (ft p k k) p w') ?_
   simp only [Act.put, zA, zB, zC]
   refine Qt.y_idx rfl 276 _ _ rfl 163 16 16 Tryz.underlying276 (by kernel_rfl) (by kernel_rfl) (w.heap.size + 1 + 1) 0 (k + 1) .i64 rfl rfl (by omega) ?_
   rw [show 0 + (k + 1) * 16 = 16 * (k + 1) by omega]
   simp only [Act.put, zA, zB, zC]
   refine Qt.y_nil ?_
   intro w2 hb2
   have HX : Hid (Below wa.heap.size wa w2) := hb2
   clear hb2
   have HT2 : Hid (TAt w2 (w.heap.size + 1 + 1) (ft p k)) := HT.out.below HX.out HT.out.lt
   refine store_pt rfl _ _ rfl (w.heap.size + 1 + 1) (16 * (k + 1)) (Ed.eadd (ft p k k) p) rfl rfl (HT2.out.there (k + 1) (by omega)) ?_
   have HT3 : Hid (TAt (w2.setCells (w.heap.size + 1 + 1) (16 * (k + 1)) (pw (Ed.eadd (ft p k k) p)).toList) (w.heap.size + 1 + 1) (ft p (k + 1))) := by
    show TAt _ _ _
    rw [← ft_succ]; exact HT2.out.set (k + 1) (by omega) _
   have HP3 : Hid (PAt (w2.setCells (w.heap.size + 1 + 1) (16 * (k + 1)) (pw (Ed.eadd (ft p k k) p)).toList) w.heap.size p) := (HP.out.below HX.out HP.out.lt).setCells (by omega) _
   have HR3 : Hid (TAt (w2.setCells (w.heap.size + 1 + 1) (16 * (k + 1)) (pw (Ed.eadd (ft p k k) p)).toList) (w.heap.size + 1) (fun _ => e0)) := (HR.out.below HX.out HR.out.lt).setCells (by omega) _
   have HB3 : Hid (Below w.heap.size w (w2.setCells (w.heap.size + 1 + 1) (16 * (k + 1)) (pw (Ed.eadd (ft p k k) p)).toList)) := below_setCells (by omega) _ _ _ _ (HB.out.trans (HX.out.mono HB.out.size))
   simp only [Act.put]
   go_wp2_with fail
   exact ⟨⟨k + 1, by omega, by go_num, HT3.out, HP3.out, HR3.out, HB3.out⟩, by simp [intOf]; omega⟩
  ·obtain rfl : k = 15 := by omega
   go_wp2_with (first | refine load_t rfl _ rfl (w.heap.size + 1 + 1) (ft p 15) rfl HT.out ?_ | refine store_t rfl _ _ rfl (w.heap.size + 1) (ft p 15) _ rfl rfl HR.out ?_)
   refine ret_t Tryz.results173 rfl (w.heap.size + 1) (ft p 15) rfl (HR.out.setRow _) ⟨by rw [tbl_full], HB.out.trans ((below_setRow _ _ _).mono (by omega))⟩
end Cw
end Go.Proofs.YtbojijefenfbgaaGreatDoor
namespace Go.Proofs.YtbojijefenfbgaaGreatDoor
open Go.RowKit
namespace Own
theorem wpList_make_row {P : Program} (w : World) {ops : Array Oper} {rest : List Oper} {o : Oper} {a : Act} {Q : Exit → Act → World → Prop}
  (hg : o.guard = none) (l c : Operand) (t : TypeId) (hop : o.op = Op.makeSlice t l c)
  (e : TypeId) (z : Value) (sz by1 : Nat) (h1 : P.underlying t = some (.slice e)) (h2 : (P.info? e).map (fun i => (i.zero, i.size, i.bytes)) = some (some z, sz, by1))
  (kl kc : IntKind) (n : Nat) (hl : a.eval l = .int kl (n : Int)) (hc : a.eval c = .int kc (n : Int)) (b2 : by1 * n ≤ 281474976710656) (b3 : n ≤ 281474976710656)
  (hK : wpList P ops Q rest (a.put o.dst (.slice (some ⟨w.heap.size, 0, none⟩) n n)) (w.alloc (.cells (madeCells z.cells (n * sz)) e))) :
  wpList P ops Q (o :: rest) a w := by
 refine wpList_plain hg fun K hK' => ?_
 obtain ⟨i, hi, hz0, hz1, hz2⟩ := info_parts h2
 have hrun := run_make (P := P) w t e i z h1 hi hz0 kl kc (n : Int) (n : Int) (by omega) (by omega) (by rw [hz2]; omega) (by omega)
 rw [hz1] at hrun
 simp only [Int.toNat_natCast] at hrun
 unfold Oper.wp
 simp [execOp, hop, hl, hc, hrun, Result.andThen]
 exact hK' _ _ hK
end Own
namespace Cw
open Fw
noncomputable def ttc (F : Nat → Nat → Ed.E) (j : Nat) : Value := tc (F (j / 256)) (j % 256)
def TTAt (w : World) (b m : Nat) (F : Nat → Nat → Ed.E) : Prop := w.heap[b]? = some (.cells (Own.mkRow (m * 256) (ttc F)) 276 (0, 0))
theorem zero_cells : Tryz.zeroCells276 = Own.mkRow 256 (fun _ => .int .u64 0) := by kernel_rfl
theorem made_tt (m : Nat) : madeCells (Value.agg Tryz.zeroCells276).cells (m * 256) = Own.mkRow (m * 256) (ttc (fun _ _ => e0)) := by
 rw [show (Value.agg Tryz.zeroCells276).cells = Tryz.zeroCells276 from rfl, zero_cells]
 apply Array.ext_getElem?
 intro i
 by_cases h : i < m * 256
 ·rw [Own.mkRow_get h]
  have hz : ttc (fun _ _ => e0) i = .int .u64 0 := pw_e0 (i % 256 % 16) (by omega)
  rw [hz]
  have hm : (Own.mkRow 256 (fun _ => Value.int .u64 0))[i % 256]? = some (.int .u64 0) := Own.mkRow_get (by omega)
  simp [madeCells, h, Own.mkRow_size]
  rw [getElem!_def, hm]
 ·rw [Own.mkRow_get_out (by omega)]
  simp [madeCells, h]
end Cw
namespace Qt
theorem y_idxs {P : Program} {W : World} {K : Act → Prop} {l : List Oper} {o : Oper} {a : Act} (hg : o.guard = none) (t : TypeId) (x ix : Operand) (ho : o.op = .indexAddr t x ix) (e : TypeId) (sz : Nat) (hu : P.underlying t = some (.slice e)) (hs : P.cellsOf e = sz) (hi0 : (P.info? e).isSome = true) (b off len cap n : Nat) (k : IntKind)
  (hx : a.eval x = .slice (some ⟨b, off, none⟩) len cap) (hi : a.eval ix = .int k (n : Int)) (hn : n < len) (h : Lex P W K l (a.put o.dst (.pointer (some ⟨b, off + n * sz, none⟩)))) : Lex P W K (o :: l) a := by
 refine y_val hg _ (fun w' _ => ?_) h
 obtain ⟨i, hi1⟩ := Option.isSome_iff_exists.1 hi0
 have h1 : (underlying t).run P w' = .ok (.slice e) w' := run_underlying hu w'
 have h2 : (sizeOf e).run P w' = .ok sz w' := by rw [← hs]; exact run_sizeOf w' hi1
 have h3 : (Instr.indexAt t (.slice (some ⟨b, off, none⟩) len cap) (.int k (n : Int))).run P w' = .ok (.pointer (some ⟨b, off + n * sz, none⟩)) w' := by
  simp [Instr.indexAt, asIntOf, h1, h2, hn, Addr.add_mid]
 unfold execOp
 simp only [ho, hx, hi, Sem.run_bind, Sem.run_pure, Result.andThen_ok, h3]
theorem wp_plainN {P : Program} {Q : Exit → Act → World → Prop} {a : Act} {w : World} {l : List Oper} (N : Nat) (_ : l.length = N) (n : Nat) (h : Lex P w (fun a' => ∀ w', Below w.heap.size w w' → wpList P l.toArray Q (l.drop n) a' w') (l.take n) a) : wpList P l.toArray Q l a w := wp_plainL n h
end Qt
namespace Cw
open Fw
theorem load_u64 (w : World) (b off : Nat) (v : Value) (h : w.cell? ⟨b, off, none⟩ = some v) : (loadVar 159 ⟨b, off, none⟩).run Tryz.prog w = .ok v w := by
 have h1 := run_underlying (P := Tryz.prog) Tryz.underlying159 w
 simp [loadVar, go_sem, h]
theorem y_u64 {W : World} {K : Act → Prop} {l : List Oper} {o : Oper} {a : Act} (hg : o.guard = none) (x : Operand) (ho : o.op = .load 159 x) (b off : Nat) (v : Value) (hx : a.eval x = .pointer (some ⟨b, off, none⟩)) (hb : b < W.heap.size) (hc : W.cell? ⟨b, off, none⟩ = some v)
  (h : Qt.Lex Tryz.prog W K l (a.put o.dst v)) : Qt.Lex Tryz.prog W K (o :: l) a := by
 refine Qt.y_val hg v (fun w' hw' => ?_) h
 have h1 := load_u64 w' b off v (by rw [hw'.cell (by exact hb)]; exact hc)
 unfold execOp
 simp only [ho, hx, Instr.loadAt, Instr.sureAddr, Sem.run_bind, Sem.run_pure, Result.andThen_ok, h1]
noncomputable def tw (t : Q × Ed.E) : Array Value := t.1.cells ++ pw t.2
theorem tw_size (t : Q × Ed.E) : (tw t).size = 20 := by unfold tw; rw [Array.size_append, pw_size]; rfl
theorem tw_one (t : Q × Ed.E) : (tw t).all (·.oneCell') = true := by
 unfold tw
 rw [Array.all_append, pw_one, Q.cells_one]; rfl
def tmZero : Array Value := #[.int .u64 0, .int .u64 0, .int .u64 0, .int .u64 0, .int .u64 0, .int .u64 0, .int .u64 0, .int .u64 0, .int .u64 0, .int .u64 0, .int .u64 0, .int .u64 0, .int .u64 0, .int .u64 0, .int .u64 0, .int .u64 0, .int .u64 0, .int .u64 0, .int .u64 0, .int .u64 0]
def MAt (w : World) (b : Nat) (t : Q × Ed.E) : Prop := w.heap[b]? = some (.cells (tw t) 192 (0, 0))
theorem MAt.lt {w : World} {b : Nat} {t : Q × Ed.E} (h : MAt w b t) : b < w.heap.size := (Array.getElem?_eq_some_iff.1 h).1
theorem MAt.below {w w' : World} {b : Nat} {t : Q × Ed.E} (h : MAt w b t) {k : Nat} (hb : Below k w w') (hk : b < k) : MAt w' b t := (hb.block b hk).trans h
theorem MAt.point {w : World} {b : Nat} {t : Q × Ed.E} (h : MAt w b t) : w.rangeAt b 4 (pw t.2).toList := fun j v hv => by
 rw [cell_of_row w b (4 + j) _ _ _ h]
 unfold tw
 rw [Array.getElem?_append_right (by show 4 ≤ 4 + j; omega)]
 rw [show 4 + j - t.1.cells.size = j from by show 4 + j - 4 = j; omega]
 simpa using hv
def qw (q : Q) (k : Nat) : BitVec 64 := if k = 0 then q.a0 else if k = 1 then q.a1 else if k = 2 then q.a2 else q.a3
theorem MAt.word {w : World} {b : Nat} {t : Q × Ed.E} (h : MAt w b t) (k : Nat) (hk : k < 4) : w.cell? ⟨b, k, none⟩ = some (.int .u64 (un (qw t.1 k))) := by
 rw [cell_of_row w b k _ _ _ h]
 unfold tw
 rw [Array.getElem?_append_left (by show k < 4; exact hk)]
 rcases k with _ | _ | _ | _ | k <;> first | rfl | omega
theorem MAt.setRow {w : World} {b : Nat} {o : Array Value} (h : w.heap[b]? = some (.cells o 192 (0, 0))) (t : Q × Ed.E) : MAt (w.setRow b (tw t)) b t := setRow_heap _ _ _ _ _ _ h
theorem load_m {ops : Array Oper} {rest : List Oper} {o : Oper} {a : Act} {w : World} {Q : Exit → Act → World → Prop} (hg : o.guard = none) (x : Operand) (ho : o.op = .load 192 x) (b off : Nat) (t : Fw.Q × Ed.E) (hx : a.eval x = .pointer (some ⟨b, off, none⟩)) (hr : w.rangeAt b off (tw t).toList)
  (h : wpList Tryz.prog ops Q rest (a.put o.dst (.agg (tw t))) w) : wpList Tryz.prog ops Q (o :: rest) a w :=
 wpList_load_mid hg 192 x ho b off hx (tw t).toList _ hr Tryz.underlying192 rfl (by rw [Array.length_toList, tw_size]; kernel_rfl) h
theorem store_m {ops : Array Oper} {rest : List Oper} {o : Oper} {a : Act} {w : World} {Q : Exit → Act → World → Prop} (hg : o.guard = none) (x y : Operand) (ho : o.op = .store 192 x y) (b : Nat) (t : Fw.Q × Ed.E) (hx : a.eval x = .pointer (some ⟨b, 0, none⟩)) (hy : a.eval y = .agg (tw t)) (hb : w.heap[b]? = some (.cells tmZero 192 (0, 0)))
  (h : wpList Tryz.prog ops Q rest (a.put o.dst undef) (w.setRow b (tw t))) : wpList Tryz.prog ops Q (o :: rest) a w :=
 wpList_store_row hg 192 x y ho b (tw t) hx hy 192 tmZero hb (by rw [tw_size]; kernel_rfl) ((tw_size t).symm ▸ rfl) (tw_one t) h
theorem load_pm {ops : Array Oper} {rest : List Oper} {o : Oper} {a : Act} {w : World} {Q : Exit → Act → World → Prop} (hg : o.guard = none) (x : Operand) (ho : o.op = .load 163 x) (b off : Nat) (v : Ed.E) (hx : a.eval x = .pointer (some ⟨b, off, none⟩)) (hr : w.rangeAt b off (pw v).toList)
  (h : wpList Tryz.prog ops Q rest (a.put o.dst (.agg (pw v))) w) : wpList Tryz.prog ops Q (o :: rest) a w :=
 wpList_load_mid hg 163 x ho b off hx (pw v).toList _ hr Tryz.underlying163 rfl (by rw [Array.length_toList, pw_size]; kernel_rfl) h
theorem TTAt.lt {w : World} {b m : Nat} {F : Nat → Nat → Ed.E} (h : TTAt w b m F) : b < w.heap.size := (Array.getElem?_eq_some_iff.1 h).1
theorem TTAt.below {w w' : World} {b m : Nat} {F : Nat → Nat → Ed.E} (h : TTAt w b m F) {k : Nat} (hb : Below k w w') (hk : b < k) : TTAt w' b m F := (hb.block b hk).trans h
theorem TTAt.range {w : World} {b m : Nat} {F : Nat → Nat → Ed.E} (h : TTAt w b m F) (i j : Nat) (hi : i < m) (hj : j < 16) : w.rangeAt b (256 * i + 16 * j) (pw (F i j)).toList := fun n v hv => by
 have hn : n < 16 := by
  have := (List.getElem?_eq_some_iff.1 hv).1
  rw [Array.length_toList, pw_size] at this
  exact this
 rw [Own.row_cell h (256 * i + 16 * j + n) (by omega)]
 unfold ttc tc
 rw [show (256 * i + 16 * j + n) / 256 = i by omega, show (256 * i + 16 * j + n) % 256 / 16 = j by omega, show (256 * i + 16 * j + n) % 256 % 16 = n by omega]
 have h2 : (pw (F i j))[n]? = some v := by simpa using hv
 rw [h2]; rfl
theorem TTAt.there {w : World} {b m : Nat} {F : Nat → Nat → Ed.E} (h : TTAt w b m F) (i : Nat) (hi : i < m) : w.there b (256 * i) 256 := fun j hj =>
 ⟨by rw [Own.row_cell h (256 * i + j) (by omega)]; rfl, Own.row_frozen h _⟩
theorem TTAt.set {w : World} {b m : Nat} {F : Nat → Nat → Ed.E} (h : TTAt w b m F) (i : Nat) (_hi : i < m) (f : Nat → Ed.E) : TTAt (w.setCells b (256 * i) (tbl f).toList) b m (fun k => if k = i then f else F k) := by
 have h' : w.heap[b]? = some (.cells (Own.mkRow (m * 256) (ttc F)) 276 (0, 0)) := h
 have h2 := row_cells (tbl f).toList (256 * i) w (ttc F) h'
 show (w.setCells b (256 * i) (tbl f).toList).heap[b]? = some (.cells (Own.mkRow (m * 256) (ttc (fun k => if k = i then f else F k))) 276 (0, 0))
 rw [h2]
 refine congrArg (fun c => some (Obj.cells c 276 (0, 0))) ?_
 refine Own.mkRow_congr fun j hj => ?_
 rw [Array.length_toList, tbl_size]
 unfold ttc
 by_cases hc : 256 * i ≤ j ∧ j < 256 * i + 256
 ·rw [if_pos hc]
  show _ = tc (if j / 256 = i then f else F (j / 256)) (j % 256)
  rw [if_pos (by omega), show j - 256 * i = j % 256 by omega]
  have hg : (tbl f)[j % 256]? = some (tc f (j % 256)) := by rw [tbl_def]; exact Own.mkRow_get (by omega)
  simp [hg]
 ·rw [if_neg hc]
  show _ = tc (if j / 256 = i then f else F (j / 256)) (j % 256)
  rw [if_neg (by omega)]
theorem store_tt {ops : Array Oper} {rest : List Oper} {o : Oper} {a : Act} {w : World} {Q : Exit → Act → World → Prop} (hg : o.guard = none) (x y : Operand) (ho : o.op = .store 276 x y) (b off : Nat) (f : Nat → Ed.E) (hx : a.eval x = .pointer (some ⟨b, off, none⟩)) (hy : a.eval y = .agg (tbl f)) (hb : w.there b off 256)
  (h : wpList Tryz.prog ops Q rest (a.put o.dst undef) (w.setCells b off (tbl f).toList)) : wpList Tryz.prog ops Q (o :: rest) a w :=
 wpList_store_mid hg 276 x y ho b off (tbl f) hx hy (by rw [tbl_size]; exact hb) (by rw [tbl_size]; kernel_rfl) (tbl_one f) h
end Cw
end Go.Proofs.YtbojijefenfbgaaGreatDoor

/- Walks of the program's curve: Sum. Walks of the program's wide numbers: Sub, Add, Below, Less. Walks of the program's field: FromNumber, Number, Odd. -/
import Derived.Test.YtbojijefenfbgaaGreatDoorGgShort
import Derived.Test.YtbojijefenfbgaaGreatDoorGgCurveC
namespace Go.Proofs.YtbojijefenfbgaaGreatDoor
open Go.RowKit
namespace Cw
open Fw
def dgW (q : Q) (i : Nat) : BitVec 64 := qw q (i / 16) >>> (4 * (i % 16)) &&& 15#64
def ein (T : Nat → Q × Ed.E) (i : Nat) (acc : Ed.E) : Nat → Ed.E
 | 0 => acc
 | j + 1 => Ed.eadd (ein T i acc j) (Ed.emul (T j).2 (dgW (T j).1 i).toNat)
def dbl4 (e : Ed.E) : Ed.E := Ed.edbl (Ed.edbl (Ed.edbl (Ed.edbl e)))
def esum (T : Nat → Q × Ed.E) (m : Nat) : Nat → Ed.E
 | 0 => Ed.ezero
 | d + 1 => ein T (63 - d) (dbl4 (esum T m d)) m
noncomputable def FT (T : Nat → Q × Ed.E) (k : Nat) : Nat → Nat → Ed.E := fun j => if j < k then Ed.emul (T j).2 else fun _ => e0
theorem FT_succ (T : Nat → Q × Ed.E) (k : Nat) : (fun j => if j = k then Ed.emul (T k).2 else FT T k j) = FT T (k + 1) := by
 funext j
 unfold FT
 by_cases h : j = k
 ·subst h; rw [if_pos rfl, if_pos (by omega)]
 ·rw [if_neg h]
  by_cases h2 : j < k
  ·rw [if_pos h2, if_pos (by omega)]
  ·rw [if_neg h2, if_neg (by omega)]
theorem FT_zero (T : Nat → Q × Ed.E) : FT T 0 = fun _ _ => e0 := by
 funext j
 unfold FT
 rw [if_neg (by omega)]
noncomputable abbrev S2 (w : World) (m : Nat) : World := (w.alloc (.cells ptZero 163)).alloc (.cells (madeCells Tryz.zeroCells276 (m * 256)) 276)
theorem S2_r (w : World) (m : Nat) : PAt (S2 w m) w.heap.size e0 := PAt.below (.zero (alloc_at w _ _ rfl)) ((Below.refl (w.heap.size + 1) _).alloc (by simp) _) (by omega)
theorem S2_t (w : World) (m : Nat) : TTAt (S2 w m) (w.heap.size + 1) m (fun _ _ => e0) := by
 unfold TTAt
 rw [← made_tt]
 exact alloc_at _ _ _ (by simp)
theorem S2_b (w : World) (m : Nat) : Below w.heap.size w (S2 w m) := ((Below.refl _ _).alloc (Nat.le_refl _) _).alloc (by simp) _
theorem TTAt.setRow {w : World} {b c m : Nat} {F : Nat → Nat → Ed.E} (h : TTAt w b m F) (hne : b ≠ c) (cs : Array Value) : TTAt (w.setRow c cs) b m F := by
 unfold TTAt at *
 rw [← h]
 show (Array.modify _ _ _)[b]? = _
 rw [Array.getElem?_modify, if_neg (Ne.symm hne)]
theorem l_declP {ops : Array Oper} {rest : List Oper} {oa os : Oper} {a : Act} {w : World} {Q : Exit → Act → World → Prop} {x y : Operand} (hga : oa.guard = none) (ha : oa.op = .alloc 163) (hgs : os.guard = none) (hs : os.op = .store 163 x y) (v : Ed.E)
  (hx : ∀ b, (a.put oa.dst (.pointer (some ⟨b, 0, none⟩))).eval x = .pointer (some ⟨b, 0, none⟩)) (hy : ∀ b, (a.put oa.dst (.pointer (some ⟨b, 0, none⟩))).eval y = .agg (pw v))
  (h : ∀ w2 b, w.heap.size ≤ b → PAt w2 b v → Below w.heap.size w w2 → wpList Tryz.prog ops Q rest ((a.put oa.dst (.pointer (some ⟨b, 0, none⟩))).put os.dst undef) w2) : wpList Tryz.prog ops Q (oa :: os :: rest) a w := by
 refine Own.wpList_alloc_at _ hga 163 ha ptZero (by kernel_rfl) ?_
 have hz : PAt (w.alloc (.cells ptZero 163)) w.heap.size e0 := .zero (alloc_at _ _ _ rfl)
 refine store_p hgs x y hs w.heap.size v e0 (hx _) (hy _) hz ?_
 exact h _ _ (Nat.le_refl _) (hz.setRow v) (((Below.refl _ _).alloc (Nat.le_refl _) _).trans (below_setRow _ _ _))
theorem load_u {ops : Array Oper} {rest : List Oper} {o : Oper} {a : Act} {w : World} {Q : Exit → Act → World → Prop} (hg : o.guard = none) (x : Operand) (ho : o.op = .load 159 x) (b off : Nat) (v : Value) (hx : a.eval x = .pointer (some ⟨b, off, none⟩)) (hc : w.cell? ⟨b, off, none⟩ = some v)
  (h : wpList Tryz.prog ops Q rest (a.put o.dst v) w) : wpList Tryz.prog ops Q (o :: rest) a w := by
 refine wpList_plain hg fun K hK => ?_
 unfold Oper.wp execOp
 simp only [ho, hx, Instr.loadAt, Instr.sureAddr, Sem.run_bind, Sem.run_pure, Result.andThen_ok, load_u64 w b off v hc]
 exact hK _ _ h
theorem and15 (x : BitVec 64) : bits .and .u64 (un x) 15 = un (x &&& 15#64) := UV.u_and x 15#64
theorem dg_lt (q : Q) (i : Nat) : (dgW q i).toNat < 16 := by
 unfold dgW
 rw [BitVec.toNat_and]
 exact Nat.lt_of_le_of_lt Nat.and_le_right (by decide)
attribute [local go_sem] and15 UV.u_add UV.u_mul UV.u_sub UV.u_xor UV.u_and UV.u_or UV.u_shr UV.u_shl UV.u_not UV.u_notm UV.u_wrap_un
set_option maxRecDepth 100000 in
set_option maxHeartbeats 2000000 in
theorem sum_p (tb m : Nat) (hm : m ≤ 2) (T : Nat → Q × Ed.E) (w : World) (htb : tb < w.heap.size) (hT : ∀ j, j < m → w.rangeAt tb (j * 20) (tw (T j)).toList) :
  Calls Tryz.prog 110 #[.slice (some ⟨tb, 0, none⟩) m m] w fun e w' => e = .returned (.agg (pw (esum T m 64))) ∧ Below w.heap.size w w' := by
 have HTB : Hid (tb < w.heap.size) := htb
 have HTT : Hid (∀ w', Below w.heap.size w w' → ∀ j, j < m → w'.rangeAt tb (j * 20) (tw (T j)).toList) := fun w' hw' j hj n v hv => by
  rw [hw'.cell (by exact htb)]; exact hT j hj n v hv
 clear htb hT
 go_enter Tryz.func110, Tryz.ntmps110
 go_wp2_with (refine Own.wpList_make_row _ rfl _ _ 275 rfl 276 (.agg Tryz.zeroCells276) 256 2048 Tryz.underlying275 (by kernel_rfl) .i64 .i64 m rfl rfl (by omega) (by omega) ?_)
 go_loopw [16] (fun i wq => ∃ k : Nat, k ≤ m ∧ i = .int .i64 (k : Int) ∧ TTAt wq (w.heap.size + 1) m (FT T k) ∧ PAt wq w.heap.size e0 ∧ Below w.heap.size w wq) (fun i _ => m - (intOf i).toNat)
 case atStart => exact ⟨0, by omega, rfl, by rw [FT_zero]; exact S2_t w m, S2_r w m, S2_b w m⟩
 case round =>
  rename World => wa
  obtain ⟨k, hk, rfl, ht, hr, hb⟩ := hrel
  have HT : Hid (TTAt wa (w.heap.size + 1) m (FT T k)) := ht
  have HR : Hid (PAt wa w.heap.size e0) := hr
  have HB : Hid (Below w.heap.size w wa) := hb
  clear ht hr hb
  by_cases hkm : k < m
  ·have HTk : Hid (wa.rangeAt tb (k * 20) (tw (T k)).toList) := HTT.out wa HB.out k hkm
   have HM : Hid (MAt ((wa.alloc (.cells tmZero 192)).setRow wa.heap.size (tw (T k))) wa.heap.size (T k)) := MAt.setRow (alloc_at _ _ _ rfl) (T k)
   have HX : Hid (Below wa.heap.size wa ((wa.alloc (.cells tmZero 192)).setRow wa.heap.size (tw (T k)))) := ((Below.refl _ _).alloc (Nat.le_refl _) _).trans (below_setRow _ _ _)
   go_wp2_with (first | refine load_m rfl _ rfl tb (k * 20) (T k) rfl HTk.out ?_ | refine load_pm rfl _ rfl wa.heap.size 4 (T k).2 rfl HM.out.point ?_ | refine store_m rfl _ _ rfl wa.heap.size (T k) rfl rfl (heap_alloc_new _ _) ?_)
   refine (mult_p (T k).2 _).mono ?_
   rintro e w2 ⟨rfl, hb2⟩
   have HX2 : Hid (Below wa.heap.size wa w2) := HX.out.trans (hb2.mono HX.out.size)
   have HT2 : Hid (TTAt w2 (w.heap.size + 1) m (FT T k)) := HT.out.below HX2.out HT.out.lt
   have HTh : Hid (w2.there (w.heap.size + 1) (k * 256) 256) := by
    have h := HT2.out.there k hkm
    rw [Nat.mul_comm] at h
    exact h
   clear hb2
   go_wp2_with (refine store_tt rfl _ _ rfl (w.heap.size + 1) (k * 256) (Ed.emul (T k).2) rfl rfl HTh.out ?_)
   refine ⟨⟨k + 1, by omega, by go_num, ?_, ?_, ?_⟩, by simp [intOf]; omega⟩
   ·have h := HT2.out.set k hkm (Ed.emul (T k).2)
    rw [FT_succ, Nat.mul_comm] at h
    exact h
   ·exact (HR.out.below HX2.out HR.out.lt).setCells (by omega) _
   ·exact below_setCells (by omega) _ _ _ _ (HB.out.trans (HX2.out.mono HB.out.size))
  ·obtain rfl : k = m := by omega
   go_wp2_with fail
   refine (zero_p _).mono ?_
   rintro e w2 ⟨rfl, hb2⟩
   have HX2 : Hid (Below wa.heap.size wa w2) := hb2
   clear hb2
   go_wp2_with (refine l_declP rfl rfl rfl rfl Ed.ezero (fun _ => rfl) (fun _ => rfl) ?_)
   intro w3 bs hle hW hb3
   have HL : Hid (w2.heap.size ≤ bs) := hle
   have HX3 : Hid (Below w2.heap.size w2 w3) := hb3
   have HS3 : Hid (PAt w3 bs Ed.ezero) := hW
   have HT3 : Hid (TTAt w3 (w.heap.size + 1) k (FT T k)) := (HT.out.below HX2.out HT.out.lt).below HX3.out (HT.out.below HX2.out HT.out.lt).lt
   have HR3 : Hid (PAt w3 w.heap.size e0) := (HR.out.below HX2.out HR.out.lt).below HX3.out (HR.out.below HX2.out HR.out.lt).lt
   have HB3 : Hid (Below w.heap.size w w3) := (HB.out.trans (HX2.out.mono HB.out.size)).trans (HX3.out.mono (Nat.le_trans HB.out.size HX2.out.size))
   have HN : Hid (w.heap.size + 1 < bs) := by
    have h1 := HT.out.lt
    have h2 := HX2.out.size
    have h3 := HL.out
    show _ < _
    omega
   clear hle hW hb3 HL HX3 HX2 HT HR HB
   go_wp2_with fail
   go_loopw [7] (fun i wq => ∃ n : Nat, n ≤ 64 ∧ i = .int .i64 ((n : Int) - 1) ∧ PAt wq bs (esum T k (64 - n)) ∧ TTAt wq (w.heap.size + 1) k (FT T k) ∧ PAt wq w.heap.size e0 ∧ Below w.heap.size w wq) (fun i _ => (intOf i + 1).toNat)
   case atStart => exact ⟨64, by omega, rfl, HS3.out, HT3.out, HR3.out, HB3.out⟩
   case round =>
    clear HS3 HT3 HR3 HB3
    rename World => wc
    obtain ⟨n, hn, rfl, hs, ht, hr, hb⟩ := hrel
    have HS : Hid (PAt wc bs (esum T k (64 - n))) := hs
    have HT : Hid (TTAt wc (w.heap.size + 1) k (FT T k)) := ht
    have HR : Hid (PAt wc w.heap.size e0) := hr
    have HB : Hid (Below w.heap.size w wc) := hb
    clear hs ht hr hb
    rcases n with _ | i
    ·go_wp2_with (first | refine load_p rfl _ rfl bs (esum T k 64) rfl HS.out ?_ | refine store_p rfl _ _ rfl w.heap.size (esum T k 64) e0 rfl rfl HR.out ?_)
     exact ret_p Tryz.results110 rfl w.heap.size (esum T k 64) rfl (HR.out.setRow _) ⟨rfl, HB.out.trans ((below_setRow _ _ _).mono (Nat.le_refl _))⟩
    ·have ei : (((i + 1 : Nat) : Int) - 1) = (i : Int) := by omega
     rw [ei]
     have hi : i < 64 := by omega
     obtain ⟨acc, hacc⟩ : ∃ acc, acc = esum T k (64 - (i + 1)) := ⟨_, rfl⟩
     rw [← hacc] at HS
     have Hacc : Hid (acc = esum T k (64 - (i + 1))) := hacc
     clear hacc ei
     go_wp2_with (refine Qt.wp_plainN 6 rfl 5 ?_)
     refine y_pt rfl _ rfl bs acc rfl HS.out ?_
     refine Qt.y_call rfl 175 #[.agg (pw acc)] (.agg (pw (Ed.edbl acc))) (fun _ => by kernel_rfl) (fun w' _ => dbl_p acc w') ?_
     refine Qt.y_call rfl 175 #[.agg (pw (Ed.edbl acc))] (.agg (pw (Ed.edbl (Ed.edbl acc)))) (fun _ => by kernel_rfl) (fun w' _ => dbl_p (Ed.edbl acc) w') ?_
     refine Qt.y_call rfl 175 #[.agg (pw (Ed.edbl (Ed.edbl acc)))] (.agg (pw (Ed.edbl (Ed.edbl (Ed.edbl acc))))) (fun _ => by kernel_rfl) (fun w' _ => dbl_p (Ed.edbl (Ed.edbl acc)) w') ?_
     refine Qt.y_call rfl 175 #[.agg (pw (Ed.edbl (Ed.edbl (Ed.edbl acc))))] (.agg (pw (dbl4 acc))) (fun _ => by kernel_rfl) (fun w' _ => dbl_p (Ed.edbl (Ed.edbl (Ed.edbl acc))) w') ?_
     simp only [Act.put, zA, zB, zC]
     refine Qt.y_nil ?_
     intro w5 hb5
     have HX : Hid (Below wc.heap.size wc w5) := hb5
     clear hb5
     have HS5 : Hid (PAt w5 bs acc) := HS.out.below HX.out HS.out.lt
     have HT5 : Hid (TTAt w5 (w.heap.size + 1) k (FT T k)) := HT.out.below HX.out HT.out.lt
     have HR5 : Hid (PAt w5 w.heap.size e0) := HR.out.below HX.out HR.out.lt
     have HB5 : Hid (Below w.heap.size w w5) := HB.out.trans (HX.out.mono HB.out.size)
     refine store_p rfl _ _ rfl bs (dbl4 acc) acc rfl rfl HS5.out ?_
     have HS6 : Hid (PAt (w5.setRow bs (pw (dbl4 acc))) bs (dbl4 acc)) := HS5.out.setRow _
     have HT6 : Hid (TTAt (w5.setRow bs (pw (dbl4 acc))) (w.heap.size + 1) k (FT T k)) := HT5.out.setRow (by have := HN.out; omega) _
     have HR6 : Hid (PAt (w5.setRow bs (pw (dbl4 acc))) w.heap.size e0) := HR5.out.other (by have := HN.out; omega) _
     have HB6 : Hid (Below w.heap.size w (w5.setRow bs (pw (dbl4 acc)))) := HB5.out.trans ((below_setRow _ _ _).mono (by have := HN.out; omega))
     clear HS HT HR HB HX HS5 HT5 HR5 HB5
     simp only [Act.put]
     go_wp2_with fail
     go_loopw [40] (fun jv wq => ∃ j : Nat, j ≤ k ∧ jv = .int .i64 (j : Int) ∧ PAt wq bs (ein T i (dbl4 acc) j) ∧ TTAt wq (w.heap.size + 1) k (FT T k) ∧ PAt wq w.heap.size e0 ∧ Below w.heap.size w wq) (fun jv _ => k - (intOf jv).toNat)
     case atStart => exact ⟨0, by omega, rfl, HS6.out, HT6.out, HR6.out, HB6.out⟩
     case round =>
      clear HS6 HT6 HR6 HB6
      rename World => wd
      obtain ⟨j, hj, rfl, hs, ht, hr, hb⟩ := hrel
      have HS : Hid (PAt wd bs (ein T i (dbl4 acc) j)) := hs
      have HT : Hid (TTAt wd (w.heap.size + 1) k (FT T k)) := ht
      have HR : Hid (PAt wd w.heap.size e0) := hr
      have HB : Hid (Below w.heap.size w wd) := hb
      clear hs ht hr hb
      by_cases hjk : j < k
      ·have HTj : Hid (wd.rangeAt tb (j * 20) (tw (T j)).toList) := HTT.out wd HB.out j hjk
       have HX : Hid (Below wd.heap.size wd ((wd.alloc (.cells tmZero 192)).setRow wd.heap.size (tw (T j)))) := ((Below.refl _ _).alloc (Nat.le_refl _) _).trans (below_setRow _ _ _)
       have HC : Hid (((wd.alloc (.cells tmZero 192)).setRow wd.heap.size (tw (T j))).cell? ⟨wd.heap.size, i / 16, none⟩ = some (.int .u64 (un (qw (T j).1 (i / 16))))) := (MAt.setRow (alloc_at _ _ _ rfl) (T j)).word (i / 16) (by omega)
       go_wp2_with (first | refine load_m rfl _ rfl tb (j * 20) (T j) rfl HTj.out ?_ | refine store_m rfl _ _ rfl wd.heap.size (T j) rfl rfl (heap_alloc_new _ _) ?_ | refine load_u rfl _ rfl wd.heap.size (i / 16) (.int .u64 (un (qw (T j).1 (i / 16)))) rfl HC.out ?_)
       have HSe : Hid (PAt ((wd.alloc (.cells tmZero 192)).setRow wd.heap.size (tw (T j))) bs (ein T i (dbl4 acc) j)) := HS.out.below HX.out HS.out.lt
       have HTe : Hid (TTAt ((wd.alloc (.cells tmZero 192)).setRow wd.heap.size (tw (T j))) (w.heap.size + 1) k (FT T k)) := HT.out.below HX.out HT.out.lt
       have HRe : Hid (PAt ((wd.alloc (.cells tmZero 192)).setRow wd.heap.size (tw (T j))) w.heap.size e0) := HR.out.below HX.out HR.out.lt
       have HBe : Hid (Below w.heap.size w ((wd.alloc (.cells tmZero 192)).setRow wd.heap.size (tw (T j)))) := HB.out.trans (HX.out.mono HB.out.size)
       have HPe : Hid (((wd.alloc (.cells tmZero 192)).setRow wd.heap.size (tw (T j))).rangeAt (w.heap.size + 1) (0 + j * 256 + (dgW (T j).1 i).toNat * 16) (pw (Ed.emul (T j).2 (dgW (T j).1 i).toNat)).toList) := by
        have h := HTe.out.range j (dgW (T j).1 i).toNat hjk (dg_lt _ _)
        rw [show FT T k j = Ed.emul (T j).2 from if_pos hjk, show 256 * j + 16 * (dgW (T j).1 i).toNat = 0 + j * 256 + (dgW (T j).1 i).toNat * 16 by omega] at h
        exact h
       refine Qt.wp_tail 8 (by kernel_rfl) (by kernel_rfl) ?_
       refine y_pt rfl _ rfl bs (ein T i (dbl4 acc) j) rfl HSe.out ?_
       refine Qt.y_val rfl (.slice (some ⟨w.heap.size + 1, 0, none⟩) k k) (fun _ _ => by kernel_rfl) ?_
       refine Qt.y_val rfl (.int .i64 (j : Int)) (fun _ _ => by kernel_rfl) ?_
       refine Qt.y_val rfl (.int .u64 (un (dgW (T j).1 i))) (fun _ _ => by kernel_rfl) ?_
       simp only [Act.put, zA, zB, zC]
       refine Qt.y_idxs rfl 275 _ _ rfl 276 256 Tryz.underlying275 (by kernel_rfl) (by kernel_rfl) (w.heap.size + 1) 0 k k j .i64 rfl rfl hjk ?_
       refine Qt.y_idx rfl 276 _ _ rfl 163 16 16 Tryz.underlying276 (by kernel_rfl) (by kernel_rfl) (w.heap.size + 1) (0 + j * 256) (dgW (T j).1 i).toNat .u64 rfl rfl (dg_lt _ _) ?_
       simp only [Act.put, zA, zB, zC]
       refine y_pmid rfl _ rfl (w.heap.size + 1) (0 + j * 256 + (dgW (T j).1 i).toNat * 16) (Ed.emul (T j).2 (dgW (T j).1 i).toNat) rfl HTe.out.lt HPe.out ?_
       refine Qt.y_call rfl 176 #[.agg (pw (ein T i (dbl4 acc) j)), .agg (pw (Ed.emul (T j).2 (dgW (T j).1 i).toNat))] (.agg (pw (ein T i (dbl4 acc) (j + 1)))) (fun _ => by kernel_rfl) (fun w' _ => add_p (ein T i (dbl4 acc) j) (Ed.emul (T j).2 (dgW (T j).1 i).toNat) w') ?_
       simp only [Act.put, zA, zB, zC]
       refine Qt.y_nil ?_
       intro wf hbf
       have HXf : Hid (Below ((wd.alloc (.cells tmZero 192)).setRow wd.heap.size (tw (T j))).heap.size ((wd.alloc (.cells tmZero 192)).setRow wd.heap.size (tw (T j))) wf) := hbf
       clear hbf
       have HSf : Hid (PAt wf bs (ein T i (dbl4 acc) j)) := HSe.out.below HXf.out HSe.out.lt
       have HTf : Hid (TTAt wf (w.heap.size + 1) k (FT T k)) := HTe.out.below HXf.out HTe.out.lt
       have HRf : Hid (PAt wf w.heap.size e0) := HRe.out.below HXf.out HRe.out.lt
       have HBf : Hid (Below w.heap.size w wf) := HBe.out.trans (HXf.out.mono HBe.out.size)
       clear HX HC HSe HTe HRe HBe HPe HXf
       refine store_p rfl _ _ rfl bs (ein T i (dbl4 acc) (j + 1)) (ein T i (dbl4 acc) j) rfl rfl HSf.out ?_
       simp only [Act.put]
       go_wp2_with fail
       refine ⟨⟨j + 1, by omega, by go_num, HSf.out.setRow _, HTf.out.setRow (by have := HN.out; omega) _, HRf.out.other (by have := HN.out; omega) _, HBf.out.trans ((below_setRow _ _ _).mono (by have := HN.out; omega))⟩, by simp [intOf]; omega⟩
      ·obtain rfl : j = k := by omega
       go_wp2_with fail
       have he : ein T i (dbl4 acc) j = esum T j (64 - i) := by
        rw [Hacc.out, show 64 - i = (64 - (i + 1)) + 1 by omega]
        show _ = ein T (63 - (64 - (i + 1))) (dbl4 (esum T j (64 - (i + 1)))) j
        rw [show 63 - (64 - (i + 1)) = i by omega]
       exact ⟨⟨i, by omega, rfl, by rw [← he]; exact HS.out, HT.out, HR.out, HB.out⟩, by simp [intOf]⟩
end Cw
end Go.Proofs.YtbojijefenfbgaaGreatDoor
namespace Go.Proofs.YtbojijefenfbgaaGreatDoor
open Go.RowKit
namespace Ww
open Fw Bt
attribute [local go_sem] run_Add64_xy0 run_Add64_19 run_Add64_0c run_Sub64_xy0 run_Sub64_0c
attribute [local go_sem] UV.u_add UV.u_mul UV.u_sub UV.u_xor UV.u_and UV.u_or UV.u_shr UV.u_shl UV.u_not UV.u_notm UV.u_wrap_un run_Add64 run_Sub64
def subW (a b : Q) : Q := ⟨d0 a b, d1 a b, d2 a b, d3 a b⟩
def k4 (a b : Q) : Bool := carry a.a3 b.a3 (k3 a b)
theorem subW_num (a b : Q) : (subW a b).num + b.num = a.num + 115792089237316195423570985008687907853269984665640564039457584007913129639936 * (bv (m4 a b)).toNat := by
 have v0 : (d0 a b).toNat + b.a0.toNat + 0 = a.a0.toNat + 18446744073709551616 * (bv (m1 a b)).toNat := sub_val a.a0 b.a0 false
 have v1 : (d1 a b).toNat + b.a1.toNat + (bv (m1 a b)).toNat = a.a1.toNat + 18446744073709551616 * (bv (m2 a b)).toNat := sub_val a.a1 b.a1 (m1 a b)
 have v2 : (d2 a b).toNat + b.a2.toNat + (bv (m2 a b)).toNat = a.a2.toNat + 18446744073709551616 * (bv (m3 a b)).toNat := sub_val a.a2 b.a2 (m2 a b)
 have v3 : (d3 a b).toNat + b.a3.toNat + (bv (m3 a b)).toNat = a.a3.toNat + 18446744073709551616 * (bv (m4 a b)).toNat := sub_val a.a3 b.a3 (m3 a b)
 exact sub_chain _ _ _ _ _ _ _ _ _ _ _ _ _ _ _ _ _ v0 v1 v2 v3
theorem addW_num (a b : Q) : (addQ a b).num + 115792089237316195423570985008687907853269984665640564039457584007913129639936 * (bv (k4 a b)).toNat = a.num + b.num := by
 have v0 : (a.a0 + b.a0 + bv false).toNat + 18446744073709551616 * (bv (k1 a b)).toNat = a.a0.toNat + b.a0.toNat + 0 := add_val a.a0 b.a0 false
 have v1 : (a.a1 + b.a1 + bv (k1 a b)).toNat + 18446744073709551616 * (bv (k2 a b)).toNat = a.a1.toNat + b.a1.toNat + (bv (k1 a b)).toNat := add_val a.a1 b.a1 (k1 a b)
 have v2 : (a.a2 + b.a2 + bv (k2 a b)).toNat + 18446744073709551616 * (bv (k3 a b)).toNat = a.a2.toNat + b.a2.toNat + (bv (k2 a b)).toNat := add_val a.a2 b.a2 (k2 a b)
 have v3 : (a.a3 + b.a3 + bv (k3 a b)).toNat + 18446744073709551616 * (bv (k4 a b)).toNat = a.a3.toNat + b.a3.toNat + (bv (k3 a b)).toNat := add_val a.a3 b.a3 (k3 a b)
 exact add_chain _ _ _ _ _ _ _ _ _ _ _ _ _ _ _ _ _ v0 v1 v2 v3
theorem borrow_iff (a b : Q) : m4 a b = decide (a.num < b.num) := by
 have h := subW_num a b
 have h1 := num_lt (subW a b)
 have h2 := num_lt a
 have h3 := num_lt b
 cases hm : m4 a b with
 | true =>
  rw [hm, show (bv true).toNat = 1 from rfl] at h
  exact (decide_eq_true (by omega)).symm
 | false =>
  rw [hm, show (bv false).toNat = 0 from rfl] at h
  exact (decide_eq_false (by omega)).symm
theorem ret_rv {P : Program} {fn : Func} {p q : Tmp} {ty : TypeId} (h : fn.results = #[.cell p ty, .tmp q]) {post : Ending → World → Prop} {a : Act} {w : World} (hd : a.defers = []) (g : Nat) (t : TypeId) (cs : Array Value) (fr : Nat × Nat) (d : TypeDesc) (u : Value) (hp : a.tmps.getD p undef = .pointer (some ⟨g, 0, none⟩)) (hq : a.tmps.getD q undef = u) (hg : w.heap[g]? = some (.cells cs t fr))
  (hu : P.underlying ty = some d) (hr : (match d with | .struct _ | .array _ _ => true | _ => false) = true) (hi : (P.info? ty).map (·.size) = some cs.size) (hpost : post (.returned (.tuple #[.agg cs, u])) w) :
  bodyPost P fn post .ret a w := by
 refine bodyPost_ret (v := .tuple #[.agg cs, u]) ?_ hd hpost
 have hl := run_loadVar_row (P := P) w g t ty cs fr d hg hu hr hi
 have hp' : a.tmps[p]?.getD undef = .pointer (some ⟨g, 0, none⟩) := by simpa using hp
 have hq' : a.tmps[q]?.getD undef = u := by simpa using hq
 simp [results, h, hp', hq', asAddr, hl]
theorem third (w : World) (o1 o2 o3 o4 : Obj) : ((((w.alloc o1).alloc o2).alloc o3).alloc o4).heap[w.heap.size + 1 + 1]? = some o3 :=
 (((Below.refl (w.heap.size + 3) _).alloc (by simp) o4).block _ (by omega)).trans (alloc_at _ _ _ (by simp))
theorem four_b (w : World) (o1 o2 o3 o4 : Obj) : Below w.heap.size w ((((w.alloc o1).alloc o2).alloc o3).alloc o4) := ((((Below.refl _ _).alloc (Nat.le_refl _) _).alloc (by simp) _).alloc (by simp; omega) _).alloc (by simp; omega) _
set_option maxRecDepth 100000 in
set_option maxHeartbeats 2000000 in
theorem wsub_f (a b : Q) (w : World) : Calls Tryz.prog 166 #[.agg a.cells, .agg b.cells] w fun e w' => e = .returned (.tuple #[.agg (subW a b).cells, .int .u64 (un (bv (m4 a b)))]) ∧ Below w.heap.size w w' := by
 unfold Q.cells
 go_enter Tryz.func166, Tryz.ntmps166
 go_wp2_with fail
 exact ret_rv Tryz.results166 rfl (w.heap.size + 1 + 1) 184 (subW a b).cells (0, 0) _ (.int .u64 (un (bv (m4 a b)))) rfl rfl (third w _ _ _ _) Tryz.underlying184 rfl (by kernel_rfl) ⟨rfl, four_b w _ _ _ _⟩
set_option maxRecDepth 100000 in
set_option maxHeartbeats 2000000 in
theorem wadd_f (a b : Q) (w : World) : Calls Tryz.prog 200 #[.agg a.cells, .agg b.cells] w fun e w' => e = .returned (.tuple #[.agg (addQ a b).cells, .int .u64 (un (bv (k4 a b)))]) ∧ Below w.heap.size w w' := by
 unfold Q.cells
 go_enter Tryz.func200, Tryz.ntmps200
 go_wp2_with fail
 exact ret_rv Tryz.results200 rfl (w.heap.size + 1 + 1) 184 (addQ a b).cells (0, 0) _ (.int .u64 (un (bv (k4 a b)))) rfl rfl (third w _ _ _ _) Tryz.underlying184 rfl (by kernel_rfl) ⟨rfl, four_b w _ _ _ _⟩
def NAt (w : World) (b : Nat) (q : Q) : Prop := w.heap[b]? = some (.cells q.cells 184 (0, 0))
theorem NAt.lt {w : World} {b : Nat} {q : Q} (h : NAt w b q) : b < w.heap.size := (Array.getElem?_eq_some_iff.1 h).1
theorem NAt.below {w w' : World} {b : Nat} {q : Q} (h : NAt w b q) {k : Nat} (hb : Below k w w') (hk : b < k) : NAt w' b q := (hb.block b hk).trans h
theorem NAt.setRow {w : World} {b : Nat} {q : Q} (h : NAt w b q) (r : Q) : NAt (w.setRow b r.cells) b r := setRow_heap _ _ _ _ _ _ h
theorem load_n {ops : Array Oper} {rest : List Oper} {o : Oper} {a : Act} {w : World} {Q : Exit → Act → World → Prop} (hg : o.guard = none) (x : Operand) (ho : o.op = .load 184 x) (b : Nat) (q : Fw.Q) (hx : a.eval x = .pointer (some ⟨b, 0, none⟩)) (hb : NAt w b q)
  (h : wpList Tryz.prog ops Q rest (a.put o.dst (.agg q.cells)) w) : wpList Tryz.prog ops Q (o :: rest) a w :=
 wpList_load_row hg 184 x ho b hx 184 q.cells (0, 0) _ hb Tryz.underlying184 rfl (by kernel_rfl) h
theorem store_n {ops : Array Oper} {rest : List Oper} {o : Oper} {a : Act} {w : World} {Q : Exit → Act → World → Prop} (hg : o.guard = none) (x y : Operand) (ho : o.op = .store 184 x y) (b : Nat) (q old : Fw.Q) (hx : a.eval x = .pointer (some ⟨b, 0, none⟩)) (hy : a.eval y = .agg q.cells) (hb : NAt w b old)
  (h : wpList Tryz.prog ops Q rest (a.put o.dst undef) (w.setRow b q.cells)) : wpList Tryz.prog ops Q (o :: rest) a w :=
 wpList_store_row hg 184 x y ho b q.cells hx hy 184 old.cells hb (by kernel_rfl) rfl q.cells_one h
theorem y_n {W : World} {K : Act → Prop} {l : List Oper} {o : Oper} {a : Act} (hg : o.guard = none) (x : Operand) (ho : o.op = .load 184 x) (b : Nat) (q : Q) (hx : a.eval x = .pointer (some ⟨b, 0, none⟩)) (hb : NAt W b q)
  (h : Qt.Lex Tryz.prog W K l (a.put o.dst (.agg q.cells))) : Qt.Lex Tryz.prog W K (o :: l) a :=
 Qt.y_row hg 184 x ho b hx 184 q.cells (0, 0) _ hb Tryz.underlying184 rfl (by kernel_rfl) h
theorem ret_n {fn : Func} {p : Tmp} (h : fn.results = #[.cell p 184]) {post : Ending → World → Prop} {a : Act} {w : World} (hd : a.defers = []) (g : Nat) (q : Q) (hp : a.tmps.getD p undef = .pointer (some ⟨g, 0, none⟩)) (hg : NAt w g q) (hpost : post (.returned (.agg q.cells)) w) :
  bodyPost Tryz.prog fn post .ret a w :=
 Own.ret_row h hd g 184 q.cells (0, 0) _ hp hg Tryz.underlying184 rfl (by kernel_rfl) hpost
theorem N2_a (w : World) (a b : Q) : NAt ((w.alloc (.cells a.cells 184)).alloc (.cells b.cells 184)) w.heap.size a := NAt.below (alloc_at w _ _ rfl) ((Below.refl (w.heap.size + 1) _).alloc (by simp) _) (by omega)
theorem N2_c (w : World) (a b : Q) : NAt ((w.alloc (.cells a.cells 184)).alloc (.cells b.cells 184)) (w.heap.size + 1) b := alloc_at _ _ _ (by simp)
theorem N2_b (w : World) (a b : Q) : Below w.heap.size w ((w.alloc (.cells a.cells 184)).alloc (.cells b.cells 184)) := ((Below.refl _ _).alloc (Nat.le_refl _) _).alloc (by simp) _
theorem fresh_n (w : World) : NAt (w.alloc (.cells zQ.cells 184)) w.heap.size zQ := alloc_at _ _ _ rfl
abbrev N3 (w : World) (a b : Q) : World := ((w.alloc (.cells a.cells 184)).alloc (.cells b.cells 184)).alloc (.cells zQ.cells 184)
theorem N3_a (w : World) (a b : Q) : NAt (N3 w a b) w.heap.size a := NAt.below (alloc_at w _ _ rfl) (((Below.refl (w.heap.size + 1) _).alloc (by simp) _).alloc (by simp) _) (by omega)
theorem N3_c (w : World) (a b : Q) : NAt (N3 w a b) (w.heap.size + 1) b := NAt.below (alloc_at _ _ _ (by simp)) ((Below.refl (w.heap.size + 2) _).alloc (by simp) _) (by omega)
theorem N3_r (w : World) (a b : Q) : NAt (N3 w a b) (w.heap.size + 1 + 1) zQ := alloc_at _ _ _ (by simp)
theorem N3_b (w : World) (a b : Q) : Below w.heap.size w (N3 w a b) := (((Below.refl _ _).alloc (Nat.le_refl _) _).alloc (by simp) _).alloc (by simp; omega) _
theorem un_bv (b : Bool) : (un (bv b) == 0) = !b := by cases b <;> rfl
theorem un_bn (b : Bool) : (un (bv b) != 0) = b := by cases b <;> rfl
set_option maxHeartbeats 400000 in
theorem below_f (a b : Q) (w : World) : Calls Tryz.prog 106 #[.agg a.cells, .agg b.cells] w fun e w' => e = .returned (.bool (decide (a.num < b.num))) ∧ Below w.heap.size w w' := by
 go_enter Tryz.func106, Tryz.ntmps106
 go_wp2_with (first | refine load_n rfl _ rfl w.heap.size a rfl (N2_a w a b) ?_ | refine load_n rfl _ rfl (w.heap.size + 1) b rfl (N2_c w a b) ?_)
 refine (wsub_f a b _).mono ?_
 rintro e w1 ⟨rfl, hb⟩
 have HB : Hid _ := hb
 clear hb
 have hbv := un_bv (m4 a b)
 go_wp2_with (refine store_n rfl _ _ rfl w1.heap.size (subW a b) zQ rfl rfl (fresh_n w1) ?_)
 refine bodyPost_ret (v := .bool (m4 a b)) (by simp [results, Tryz.results106, go_sem, un_bn]) rfl ⟨by rw [borrow_iff], ?_⟩
 exact (N2_b w a b).trans ((HB.out.mono (N2_b w a b).size).trans (((Below.refl _ _).alloc (Nat.le_trans (N2_b w a b).size HB.out.size) _).trans ((below_setRow _ _ _).mono (Nat.le_trans (N2_b w a b).size HB.out.size))))
def lessQ (a b : Q) : Q := if a.num < b.num then a else subW a b
theorem lessQ_num (a b : Q) (h : a.num < 2 * b.num) : (lessQ a b).num = a.num % b.num := by
 unfold lessQ
 by_cases h1 : a.num < b.num
 ·rw [if_pos h1, Nat.mod_eq_of_lt h1]
 ·rw [if_neg h1]
  have h2 := subW_num a b
  have h3 : m4 a b = false := by rw [borrow_iff]; exact decide_eq_false h1
  rw [h3, show (bv false).toNat = 0 from rfl] at h2
  rw [Nat.mod_eq_sub_mod (by omega), Nat.mod_eq_of_lt (by omega)]
  omega
set_option maxHeartbeats 400000 in
theorem less_f (a b : Q) (w : World) : Calls Tryz.prog 202 #[.agg a.cells, .agg b.cells] w fun e w' => e = .returned (.agg (lessQ a b).cells) ∧ Below w.heap.size w w' := by
 go_enter Tryz.func202, Tryz.ntmps202
 go_wp2_with (first | refine load_n rfl _ rfl w.heap.size a rfl (N3_a w a b) ?_ | refine load_n rfl _ rfl (w.heap.size + 1) b rfl (N3_c w a b) ?_)
 refine (wsub_f a b _).mono ?_
 rintro e w1 ⟨rfl, hb⟩
 have HB : Hid (Below (N3 w a b).heap.size (N3 w a b) w1) := hb
 clear hb
 have HR1 : Hid (NAt w1 (w.heap.size + 1 + 1) zQ) := (N3_r w a b).below HB.out (N3_r w a b).lt
 have HA1 : Hid (NAt w1 w.heap.size a) := (N3_a w a b).below HB.out (N3_a w a b).lt
 have HX : Hid (Below w1.heap.size w1 ((w1.alloc (.cells zQ.cells 184)).setRow w1.heap.size (subW a b).cells)) := ((Below.refl _ _).alloc (Nat.le_refl _) _).trans (below_setRow _ _ _)
 have HR : Hid (NAt ((w1.alloc (.cells zQ.cells 184)).setRow w1.heap.size (subW a b).cells) (w.heap.size + 1 + 1) zQ) := HR1.out.below HX.out HR1.out.lt
 have HA : Hid (NAt ((w1.alloc (.cells zQ.cells 184)).setRow w1.heap.size (subW a b).cells) w.heap.size a) := HA1.out.below HX.out HA1.out.lt
 have HS : Hid (NAt ((w1.alloc (.cells zQ.cells 184)).setRow w1.heap.size (subW a b).cells) w1.heap.size (subW a b)) := (fresh_n w1).setRow _
 have HBB : Hid (Below w.heap.size w ((w1.alloc (.cells zQ.cells 184)).setRow w1.heap.size (subW a b).cells)) := ((N3_b w a b).trans (HB.out.mono (N3_b w a b).size)).trans (HX.out.mono (Nat.le_trans (N3_b w a b).size HB.out.size))
 have hbv := un_bv (m4 a b)
 have hbn := un_bn (m4 a b)
 have hif := borrow_iff a b
 cases hm : m4 a b with
 | true =>
  rw [hm] at hbv hif hbn
  have HI : Hid (lessQ a b = a) := if_pos (of_decide_eq_true hif.symm)
  clear hif hm
  go_wp2_with (first | refine store_n rfl _ _ rfl w1.heap.size (subW a b) zQ rfl rfl (fresh_n w1) ?_ | refine load_n rfl _ rfl w.heap.size a rfl HA.out ?_ | refine store_n rfl _ _ rfl (w.heap.size + 1 + 1) a zQ rfl rfl HR.out ?_)
  exact ret_n Tryz.results202 rfl (w.heap.size + 1 + 1) a rfl (HR.out.setRow _) ⟨by rw [HI.out], HBB.out.trans ((below_setRow _ _ _).mono (by omega))⟩
 | false =>
  rw [hm] at hbv hif hbn
  have HI : Hid (lessQ a b = subW a b) := if_neg (of_decide_eq_false hif.symm)
  clear hif hm
  go_wp2_with (first | refine store_n rfl _ _ rfl w1.heap.size (subW a b) zQ rfl rfl (fresh_n w1) ?_ | refine load_n rfl _ rfl w1.heap.size (subW a b) rfl HS.out ?_ | refine store_n rfl _ _ rfl (w.heap.size + 1 + 1) (subW a b) zQ rfl rfl HR.out ?_)
  exact ret_n Tryz.results202 rfl (w.heap.size + 1 + 1) (subW a b) rfl (HR.out.setRow _) ⟨by rw [HI.out], HBB.out.trans ((below_setRow _ _ _).mono (by omega))⟩
end Ww
end Go.Proofs.YtbojijefenfbgaaGreatDoor
namespace Go.Proofs.YtbojijefenfbgaaGreatDoor
open Go.RowKit
namespace Ww
open Fw Bt
theorem prime_f (w : World) : Calls Tryz.prog 223 #[] w fun e w' => e = .returned (.agg (nq PP).cells) ∧ Below w.heap.size w w' := by
 go_enter Tryz.func223, Tryz.ntmps223
 go_wp2_with fail
 exact Own.ret_row Tryz.results223 rfl w.heap.size 184 _ (0, 0) _ rfl (heap_alloc_new _ _) Tryz.underlying184 rfl (by kernel_rfl) ⟨rfl, (Below.refl _ _).alloc (Nat.le_refl _) _⟩
def fromN (q : Q) : Ed.F × Bool := if h : q.num < Ed.P then (⟨q.num, h⟩, true) else (0, false)
theorem fw_of (q : Q) (h : q.num < Ed.P) : fw ⟨q.num, h⟩ = q.cells := by
 rw [fw_def]
 congr 1
 exact (nq_of rfl).symm
noncomputable abbrev R2 (w : World) (q : Q) : World := (w.alloc (.cells q.cells 184)).alloc (.cells wordZero 161)
theorem R2_a (w : World) (q : Q) : NAt (R2 w q) w.heap.size q := NAt.below (alloc_at w _ _ rfl) ((Below.refl (w.heap.size + 1) _).alloc (by simp) _) (by omega)
theorem R2_r (w : World) (q : Q) : WAt (R2 w q) (w.heap.size + 1) 0 := .zero (alloc_at _ _ _ (by simp))
theorem R2_b (w : World) (q : Q) : Below w.heap.size w (R2 w q) := ((Below.refl _ _).alloc (Nat.le_refl _) _).alloc (by simp) _
theorem PP_num : (nq PP).num = PP := nq_num (by decide)
theorem below_P (q : Q) (w : World) : Calls Tryz.prog 106 #[.agg q.cells, .agg (nq PP).cells] w fun e w' => e = .returned (.bool (decide (q.num < PP))) ∧ Below w.heap.size w w' := by
 have h := below_f q (nq PP) w
 rwa [PP_num] at h
set_option maxHeartbeats 400000 in
theorem fromNumber_f (q : Q) (w : World) : Calls Tryz.prog 154 #[.agg q.cells] w fun e w' => e = .returned (.tuple #[.agg (fw (fromN q).1), .bool (fromN q).2]) ∧ Below w.heap.size w w' := by
 obtain ⟨pc, hpc⟩ : ∃ pc, pc = (nq PP).cells := ⟨_, rfl⟩
 have Hprime : Hid (∀ w, Calls Tryz.prog 223 #[] w fun e w' => e = .returned (.agg pc) ∧ Below w.heap.size w w') := by rw [hpc]; exact prime_f
 have Hbel : Hid (∀ w, Calls Tryz.prog 106 #[.agg q.cells, .agg pc] w fun e w' => e = .returned (.bool (decide (q.num < PP))) ∧ Below w.heap.size w w') := by rw [hpc]; exact below_P q
 clear hpc
 go_enter Tryz.func154, Tryz.ntmps154
 go_wp2_with fail
 refine Qt.wp_all (by kernel_rfl) (by kernel_rfl) ?_
 refine y_n rfl _ rfl w.heap.size q rfl (R2_a w q) ?_
 refine Qt.y_call rfl 223 #[] (.agg pc) (fun _ => by kernel_rfl) (fun w' _ => Hprime.out w') ?_
 refine Qt.y_call rfl 106 #[.agg q.cells, .agg pc] (.bool (decide (q.num < PP))) (fun _ => by kernel_rfl) (fun w' _ => Hbel.out w') ?_
 refine Qt.y_val rfl (.bool (!decide (q.num < PP))) (fun _ _ => by kernel_rfl) ?_
 simp only [Act.put, zA, zB, zC]
 refine Qt.y_nil ?_
 intro w1 hb
 have HB : Hid (Below (R2 w q).heap.size (R2 w q) w1) := hb
 clear hb
 have HA : Hid (NAt w1 w.heap.size q) := (R2_a w q).below HB.out (R2_a w q).lt
 have HR : Hid (WAt w1 (w.heap.size + 1) 0) := (R2_r w q).below HB.out (R2_r w q).lt
 have HT : Hid (Below w.heap.size w w1) := (R2_b w q).trans (HB.out.mono (R2_b w q).size)
 by_cases h : q.num < PP
 ·have d := decide_eq_true h
  have HF : Hid (fromN q = (⟨q.num, h⟩, true)) := dif_pos h
  have HC : Hid (fw ⟨q.num, h⟩ = q.cells) := fw_of q h
  rw [d]
  clear d
  go_wp2_with (first | refine load_n rfl _ rfl w.heap.size q rfl HA.out ?_ | refine store_w rfl _ _ rfl (w.heap.size + 1) ⟨q.num, h⟩ 0 rfl (by rw [HC.out]; rfl) HR.out ?_)
  exact ret_wb Tryz.results154 rfl (w.heap.size + 1) ⟨q.num, h⟩ true rfl rfl (HR.out.setRow _) ⟨by rw [HF.out], HT.out.trans ((below_setRow _ _ _).mono (by omega))⟩
 ·have d := decide_eq_false h
  have HF : Hid (fromN q = (0, false)) := dif_neg h
  rw [d]
  clear d
  go_wp2_with (first | refine store_z rfl _ _ rfl (w.heap.size + 1) 0 rfl rfl HR.out ?_)
  exact ret_wb Tryz.results154 rfl (w.heap.size + 1) 0 false rfl rfl (HR.out.setRow _) ⟨by rw [HF.out], HT.out.trans ((below_setRow _ _ _).mono (by omega))⟩
theorem number_f (x : Ed.F) (w : World) : Calls Tryz.prog 180 #[.agg (fw x)] w fun e w' => e = .returned (.agg (nq x.val).cells) ∧ Below w.heap.size w w' := by
 rw [fw_def]
 generalize nq x.val = q
 unfold Q.cells
 go_enter Tryz.func180, Tryz.ntmps180
 go_wp2_with fail
 exact Own.ret_row Tryz.results180 rfl (w.heap.size + 1) 184 q.cells (0, 0) _ rfl (alloc_at _ _ _ (by simp)) Tryz.underlying184 rfl (by kernel_rfl) ⟨rfl, ((Below.refl _ _).alloc (Nat.le_refl _) _).alloc (by simp) _⟩
theorem odd_val (x : BitVec 64) : (un (x &&& 1#64) == 1) = (x.toNat % 2 == 1) := by
 unfold un
 rw [BitVec.toNat_and, show (1#64).toNat = 1 from rfl, Nat.and_one_is_mod]
 rcases Nat.mod_two_eq_zero_or_one x.toNat with h | h <;> rw [h] <;> rfl
theorem and1 (x : BitVec 64) : bits .and .u64 (un x) 1 = un (x &&& 1#64) := UV.u_and x 1#64
theorem odd_f (x : Ed.F) (w : World) : Calls Tryz.prog 181 #[.agg (fw x)] w fun e w' => e = .returned (.bool (Ed.oddF x)) ∧ Below w.heap.size w w' := by
 have ho : Ed.oddF x = ((nq x.val).a0.toNat % 2 == 1) := by
  have h := fw_num x
  unfold Ed.oddF
  generalize nq x.val = q at h
  unfold Q.num at h
  congr 1
  omega
 rw [fw_def, ho]
 generalize nq x.val = q
 unfold Q.cells
 have ha := and1 q.a0
 have hb := odd_val q.a0
 go_enter Tryz.func181, Tryz.ntmps181
 go_wp2_with fail
 refine bodyPost_ret (v := .bool (q.a0.toNat % 2 == 1)) (by simp [results, Tryz.results181, go_sem]) rfl ⟨rfl, (Below.refl _ _).alloc (Nat.le_refl _) _⟩
end Ww
end Go.Proofs.YtbojijefenfbgaaGreatDoor

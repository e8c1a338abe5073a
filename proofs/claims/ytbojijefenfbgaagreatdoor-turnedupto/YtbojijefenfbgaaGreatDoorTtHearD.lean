/- Walk of the program's gate: hearItem. Walk of the program's gate: Hear. Walk of the program's book: Entries. Walks of the program's gate: sameAhead, twice. -/
import Derived.Test.YtbojijefenfbgaaGreatDoorTtTellB
set_option maxRecDepth 100000
namespace Go.Proofs.YtbojijefenfbgaaGreatDoor
open Go Go.RowKit
namespace Ks
theorem k9c {Q : Exit → Act → World → Prop} {a : Act} {w : World} {id : Nat} (h : Q .normal a w) : Exit.inBlock id Q .normal a w := h
end Ks
namespace Gt
open Mp Bk Tk
def z9h (g : Nat) (v : Value) (b3 b4 : Nat) (f : Nat → Value) : Act := { tmps := #[.pointer (some ⟨g, 0, none⟩), v, f 2, .pointer (some ⟨b3, 0, none⟩), .pointer (some ⟨b4, 0, none⟩), f 5, f 6, f 7, f 8, f 9, f 10, f 11, f 12, f 13, f 14, f 15, f 16, f 17, f 18, f 19, f 20, f 21, f 22, f 23, f 24, f 25, f 26, f 27, f 28, f 29, f 30, f 31, f 32, f 33, f 34, f 35, f 36, f 37, f 38, f 39, f 40, f 41, f 42], defers := [] }
theorem x6l {F : Int} {x : It} (hx : z8e x = true) (h : x.gone = true ∨ x.epoch < F) : z5e F x = ⟨x.gate, x.adm, 0, 0, true⟩ := by
 have h5 := (x7w hx).2.2.2.2
 unfold z5e
 cases hg : x.gone
 ·rw [if_pos ⟨rfl, h.resolve_left (by simp [hg])⟩]
 ·rw [if_neg (by simp)]
  obtain ⟨a, b, c, d, e⟩ := x
  simp only at hg h5
  obtain ⟨rfl, rfl⟩ := h5 hg
  rw [hg]
theorem x6m {F : Int} {x : It} (_h1 : x.gone = false) (h2 : ¬ x.epoch < F) : z5e F x = x := by
 unfold z5e
 rw [if_neg fun h => h2 h.2]
theorem x3t {S : Nat → Prop} {w : World} {g : Nat} {s : St} (h : z0h S w g s) (x : It) (hx : z8e x = true) : Calls Tryz.prog 91 #[.pointer (some ⟨g, 0, none⟩), itV x] w fun e w' => ∃ v, e = .returned v ∧ v = .tuple #[] ∧ z0h (fun k => S k ∨ w.heap.size ≤ k) w' g (z1b s x) ∧ Fr S w.heap.size w w' := by
 unfold itV
 go_enter Tryz.func91, Tryz.ntmps91
 refine wp_seq ?_
 refine Ks.reg ?_
 refine Ks.box rfl _ _ rfl #[.int .i64 x.gate, .int .i64 x.adm, .int .i64 x.epoch, .int .i64 x.serial, .bool x.gone] rfl ?_
 intro w1 b3 Hb3 HX1 HB1 HS1
 simp only [zD]
 refine Ks.done ?_
 refine wp_seq ?_
 refine Ks.reg ?_
 refine Ks.v (.pointer (some ⟨b3, 0, none⟩)) ?_
 simp only [zD]
 refine Ks.cell rfl _ _ rfl Tryz.underlying3 rfl b3 0 (.int .i64 x.gate) rfl (z0c HX1.out 0 rfl) ?_
 simp only [zD]
 refine Ks.v (.pointer (some ⟨b3, 1, none⟩)) ?_
 simp only [zD]
 refine Ks.cell rfl _ _ rfl Tryz.underlying3 rfl b3 1 (.int .i64 x.adm) rfl (z0c HX1.out 1 rfl) ?_
 simp only [zD]
 refine Ks.v (two x.key) ?_
 simp only [zD]
 refine Ks.decl rfl _ rfl (.agg #[.int .i64 0, .int .i64 0]) (by kernel_rfl) rfl _ _ rfl #[.int .i64 x.gate, .int .i64 x.adm] (fun _ => rfl) (fun _ => rfl) (by kernel_rfl) rfl (by kernel_rfl) ?_
 intro w2 b4 Hb4 HY2 HB2
 have HX2 : Hid (w2.heap[b3]? = some (.cells #[.int .i64 x.gate, .int .i64 x.adm, .int .i64 x.epoch, .int .i64 x.serial, .bool x.gone] 73 (0, 0))) := (HB2.out.block _ (aL HX1.out)).trans HX1.out
 have hB2 : Below w.heap.size w w2 := HB1.out.trans (HB2.out.mono HB1.out.size)
 have hP2 := h.below hB2
 clear HX1 HB1 HB2 HS1 Hb3 Hb4
 simp only [zD]
 refine Ks.done ?_
 refine wp_block ?_
 have hb3l := (aL HX2.out)
 have hb4l := (aL HY2.out)
 refine Ks.cut (fun a' w' => Below w2.heap.size w2 w' ∧ ∃ f : Nat → Value, f 20 = .bool (decide (x.key ∈ s.l.map It.key)) ∧ a' = z9h g (.agg #[.int .i64 x.gate, .int .i64 x.adm, .int .i64 x.epoch, .int .i64 x.serial, .bool x.gone]) b3 b4 f) ?_ ?_
 ·have fin : ∀ (a' : Act) (w' : World), Below w2.heap.size w2 w' → a'.tmps.getD 20 undef = .bool (decide (x.key ∈ s.l.map It.key)) → a' = z9h g (.agg #[.int .i64 x.gate, .int .i64 x.adm, .int .i64 x.epoch, .int .i64 x.serial, .bool x.gone]) b3 b4 (fun j => a'.tmps.getD j undef) → Below w2.heap.size w2 w' ∧ ∃ f : Nat → Value, f 20 = .bool (decide (x.key ∈ s.l.map It.key)) ∧ a' = z9h g (.agg #[.int .i64 x.gate, .int .i64 x.adm, .int .i64 x.epoch, .int .i64 x.serial, .bool x.gone]) b3 b4 f := fun a' w' h1 h2 h3 => ⟨h1, _, h2, h3⟩
  refine Qt.z0u (by kernel_rfl) (by kernel_rfl) ?_
  refine Qg.val (by kernel_rfl) (.pointer (some ⟨g, 0, none⟩)) (fun _ _ => by kernel_rfl) ?_
  simp only [zD]
  refine Qg.val (by kernel_rfl) (.pointer (some ⟨g, 0, none⟩)) (fun _ _ => by kernel_rfl) ?_
  simp only [zD]
  refine Qg.val (by kernel_rfl) (.pointer (some ⟨g, 3, none⟩)) (fun _ _ => by kernel_rfl) ?_
  simp only [zD]
  refine Qg.row (by kernel_rfl) _ _ rfl b4 rfl _ _ _ _ HY2.out Tryz.underlying154 rfl (by kernel_rfl) ?_
  simp only [zD]
  refine Qg.call (by kernel_rfl) 163 #[.pointer (some ⟨g, 3, none⟩), two x.key] (.bool (decide (x.key ∈ s.l.map It.key))) (fun _ => by kernel_rfl) (fun w' hb => k8z (hP2.below hb) x.key) ?_
  simp only [zD]
  refine Qg.val (by kernel_rfl) (.bool (decide (x.key ∈ s.l.map It.key))) (fun _ _ => by kernel_rfl) ?_
  simp only [zD]
  refine wpQuiet_nil ?_
  intro w' hb
  refine Ks.norm ?_
  exact fin _ w' hb rfl rfl
 ·rintro a' w3 ⟨hb3, f, e20, rfl⟩
  unfold z9h
  rw [e20]
  have hB3 : Below w.heap.size w w3 := hB2.trans (hb3.mono hB2.size)
  have hP3 := h.below hB3
  have HX3 : w3.heap[b3]? = some (.cells #[.int .i64 x.gate, .int .i64 x.adm, .int .i64 x.epoch, .int .i64 x.serial, .bool x.gone] 73 (0, 0)) := (hb3.block _ hb3l).trans HX2.out
  have HY3 : w3.heap[b4]? = some (.cells #[.int .i64 x.gate, .int .i64 x.adm] 154 (0, 0)) := (hb3.block _ hb4l).trans HY2.out
  have hb3l3 := (aL HX3)
  have hb4l3 := (aL HY3)
  by_cases hk : x.key ∈ s.l.map It.key
  ·rw [decide_eq_true hk]
   have ht : z1b s x = s := if_pos hk
   rw [ht]
   refine wp_cond_true rfl ?_
   refine wp_skip ?_
   refine Ks.k9c ?_
   refine bodyPost_end (v := .tuple #[]) (by simp [results, Tryz.results91]) rfl ?_
   exact ⟨_, rfl, rfl, hP3.mono fun _ h => Or.inl h, Fr.z0z hB3 (Nat.le_refl _)⟩
  ·rw [decide_eq_false hk]
   have ht : z1b s x = { s with l := ins (z5e s.floor x) s.l } := if_neg hk
   rw [ht]
   refine wp_cond_false rfl ?_
   refine Ks.cut (fun a' w' => Below w3.heap.size w3 w' ∧ ∃ f : Nat → Value, f 26 = .bool (x.gone || decide (x.epoch < s.floor)) ∧ a' = z9h g (.agg #[.int .i64 x.gate, .int .i64 x.adm, .int .i64 x.epoch, .int .i64 x.serial, .bool x.gone]) b3 b4 f) ?_ ?_
   ·have fin : ∀ (a' : Act) (w' : World), Below w3.heap.size w3 w' → a'.tmps.getD 26 undef = .bool (x.gone || decide (x.epoch < s.floor)) → a' = z9h g (.agg #[.int .i64 x.gate, .int .i64 x.adm, .int .i64 x.epoch, .int .i64 x.serial, .bool x.gone]) b3 b4 (fun j => a'.tmps.getD j undef) → Below w3.heap.size w3 w' ∧ ∃ f : Nat → Value, f 26 = .bool (x.gone || decide (x.epoch < s.floor)) ∧ a' = z9h g (.agg #[.int .i64 x.gate, .int .i64 x.adm, .int .i64 x.epoch, .int .i64 x.serial, .bool x.gone]) b3 b4 f := fun a' w' h1 h2 h3 => ⟨h1, _, h2, h3⟩
    refine Qt.z0u (by kernel_rfl) (by kernel_rfl) ?_
    refine Qg.val (by kernel_rfl) (.pointer (some ⟨b3, 4, none⟩)) (fun _ _ => by kernel_rfl) ?_
    simp only [zD]
    refine Qg.cell (by kernel_rfl) _ _ rfl Tryz.underlying4 rfl b3 4 (.bool x.gone) rfl hb3l3 (z0c HX3 4 rfl) ?_
    simp only [zD]
    refine Qg.val (by kernel_rfl) (.bool x.gone) (fun _ _ => by kernel_rfl) ?_
    simp only [zD]
    cases hgo : x.gone with
    | true =>
     rw [hgo] at fin
     with_reducible refine Qg.off (by kernel_rfl) ?_
     simp only [zD]
     with_reducible refine Qg.off (by kernel_rfl) ?_
     simp only [zD]
     with_reducible refine Qg.off (by kernel_rfl) ?_
     simp only [zD]
     with_reducible refine Qg.off (by kernel_rfl) ?_
     simp only [zD]
     with_reducible refine Qg.off (by kernel_rfl) ?_
     simp only [zD]
     with_reducible refine Qg.off (by kernel_rfl) ?_
     simp only [zD]
     with_reducible refine Qg.off (by kernel_rfl) ?_
     simp only [zD]
     refine Qg.val (by kernel_rfl) (.bool true) (fun _ _ => by kernel_rfl) ?_
     simp only [zD]
     refine Qg.val (by kernel_rfl) (.bool true) (fun _ _ => by kernel_rfl) ?_
     simp only [zD]
     refine wpQuiet_nil ?_
     intro w' hb
     refine Ks.norm ?_
     exact fin _ w' hb rfl rfl
    | false =>
     rw [hgo] at fin
     refine Qg.val (by kernel_rfl) (.pointer (some ⟨b3, 2, none⟩)) (fun _ _ => by kernel_rfl) ?_
     simp only [zD]
     refine Qg.cell (by kernel_rfl) _ _ rfl Tryz.underlying3 rfl b3 2 (.int .i64 x.epoch) rfl hb3l3 (z0c HX3 2 rfl) ?_
     simp only [zD]
     refine Qg.val (by kernel_rfl) (.pointer (some ⟨g, 0, none⟩)) (fun _ _ => by kernel_rfl) ?_
     simp only [zD]
     refine Qg.val (by kernel_rfl) (.pointer (some ⟨g, 0, none⟩)) (fun _ _ => by kernel_rfl) ?_
     simp only [zD]
     refine Qg.val (by kernel_rfl) (.pointer (some ⟨g, 3, none⟩)) (fun _ _ => by kernel_rfl) ?_
     simp only [zD]
     refine Qg.call (by kernel_rfl) 75 #[.pointer (some ⟨g, 3, none⟩)] (.int .i64 s.floor) (fun _ => by kernel_rfl) (fun w' hb => z8p (hP3.below hb)) ?_
     simp only [zD]
     refine Qg.val (by kernel_rfl) (.bool (decide (x.epoch < s.floor))) (fun _ _ => by kernel_rfl) ?_
     simp only [zD]
     refine Qg.val (by kernel_rfl) (.bool (decide (x.epoch < s.floor))) (fun _ _ => by kernel_rfl) ?_
     simp only [zD]
     refine Qg.val (by kernel_rfl) (.bool (decide (x.epoch < s.floor))) (fun _ _ => by kernel_rfl) ?_
     simp only [zD]
     refine wpQuiet_nil ?_
     intro w' hb
     refine Ks.norm ?_
     exact fin _ w' hb rfl rfl
   ·rintro a' w4 ⟨hb4, f', e26, rfl⟩
    unfold z9h
    rw [e26]
    have hB4 : Below w.heap.size w w4 := hB3.trans (hb4.mono hB3.size)
    have HX4 : w4.heap[b3]? = some (.cells #[.int .i64 x.gate, .int .i64 x.adm, .int .i64 x.epoch, .int .i64 x.serial, .bool x.gone] 73 (0, 0)) := (hb4.block _ hb3l3).trans HX3
    have HY4 : w4.heap[b4]? = some (.cells #[.int .i64 x.gate, .int .i64 x.adm] 154 (0, 0)) := (hb4.block _ hb4l3).trans HY3
    have hb3l4 := (aL HX4)
    have hb4l4 := (aL HY4)
    cases ho : (x.gone || decide (x.epoch < s.floor)) with
    | true =>
     have hf := x6l (F := s.floor) hx (by simpa using ho)
     have hxk : (⟨x.gate, x.adm, 0, 0, true⟩ : It).key = x.key := rfl
     rw [hf]
     refine wp_cond_true rfl ?_
     refine Qg.z0q 4 (by kernel_rfl) (by kernel_rfl) ?_
     simp only [List.take_succ_cons, List.take_zero, List.drop_succ_cons, List.drop_zero]
     refine Qg.val (by kernel_rfl) (.pointer (some ⟨g, 0, none⟩)) (fun _ _ => by kernel_rfl) ?_
     simp only [zD]
     refine Qg.val (by kernel_rfl) (.pointer (some ⟨g, 0, none⟩)) (fun _ _ => by kernel_rfl) ?_
     simp only [zD]
     refine Qg.val (by kernel_rfl) (.pointer (some ⟨g, 3, none⟩)) (fun _ _ => by kernel_rfl) ?_
     simp only [zD]
     refine Qg.row (by kernel_rfl) _ _ rfl b4 rfl _ _ _ _ HY4 Tryz.underlying154 rfl (by kernel_rfl) ?_
     simp only [zD]
     refine wpQuiet_nil ?_
     intro w5 hb5
     have hB5 : Below w.heap.size w w5 := hB4.trans (Below.mono hb5 hB4.size)
     have hP5 := h.below hB5
     refine Ks.call rfl 151 #[.pointer (some ⟨g, 3, none⟩), two x.key] (by kernel_rfl) (q6f hP5 x.key) ?_
     rintro _ w6 ⟨rfl, ⟨bh, bd, bu, lh, ld, lu, H, hM⟩, hF⟩
     simp only [zD]
     refine Ks.fin ?_
     refine Ks.k9c ?_
     refine bodyPost_end (v := .tuple #[]) (by simp [results, Tryz.results91]) rfl ?_
     have hP6 : z0h (fun k => S k ∨ w5.heap.size ≤ k) w6 g { s with l := ins ⟨x.gate, x.adm, 0, 0, true⟩ s.l } := by
      have hN := H.note (x := ⟨x.gate, x.adm, 0, 0, true⟩) rfl (by rw [hxk]; exact hk)
      exact ⟨Or.inl hP5.1, _, _, _, hM.gate, Or.inr ⟨bh, bd, bu, _, _, _, rfl, rfl, rfl, hM.sh, hM.sd, hM.su, hM.hd, hM.du, hM.hu, hM.ih, hM.id, hM.iu, hN⟩⟩
     exact ⟨_, rfl, rfl, hP6.mono fun k hk => hk.imp id fun h => Nat.le_trans hB5.size h, (Fr.z0z hB5 (Nat.le_refl _)).trans (hF.mono hB5.size fun _ _ h => h)⟩
    | false =>
     have ho2 : x.gone = false ∧ ¬ x.epoch < s.floor := by simpa using ho
     rw [x6m ho2.1 ho2.2]
     refine wp_cond_false rfl ?_
     refine Qg.z0q 9 (by kernel_rfl) (by kernel_rfl) ?_
     simp only [List.take_succ_cons, List.take_zero, List.drop_succ_cons, List.drop_zero]
     refine Qg.val (by kernel_rfl) (.pointer (some ⟨g, 0, none⟩)) (fun _ _ => by kernel_rfl) ?_
     simp only [zD]
     refine Qg.val (by kernel_rfl) (.pointer (some ⟨g, 0, none⟩)) (fun _ _ => by kernel_rfl) ?_
     simp only [zD]
     refine Qg.val (by kernel_rfl) (.pointer (some ⟨g, 3, none⟩)) (fun _ _ => by kernel_rfl) ?_
     simp only [zD]
     refine Qg.row (by kernel_rfl) _ _ rfl b4 rfl _ _ _ _ HY4 Tryz.underlying154 rfl (by kernel_rfl) ?_
     simp only [zD]
     refine Qg.val (by kernel_rfl) (.pointer (some ⟨b3, 2, none⟩)) (fun _ _ => by kernel_rfl) ?_
     simp only [zD]
     refine Qg.cell (by kernel_rfl) _ _ rfl Tryz.underlying3 rfl b3 2 (.int .i64 x.epoch) rfl hb3l4 (z0c HX4 2 rfl) ?_
     simp only [zD]
     refine Qg.val (by kernel_rfl) (.pointer (some ⟨b3, 3, none⟩)) (fun _ _ => by kernel_rfl) ?_
     simp only [zD]
     refine Qg.cell (by kernel_rfl) _ _ rfl Tryz.underlying3 rfl b3 3 (.int .i64 x.serial) rfl hb3l4 (z0c HX4 3 rfl) ?_
     simp only [zD]
     refine Qg.val (by kernel_rfl) (two x.pass) (fun _ _ => by kernel_rfl) ?_
     simp only [zD]
     refine wpQuiet_nil ?_
     intro w5 hb5
     have hB5 : Below w.heap.size w w5 := hB4.trans (Below.mono hb5 hB4.size)
     have hP5 := h.below hB5
     refine Ks.call rfl 79 #[.pointer (some ⟨g, 3, none⟩), two x.key, two x.pass] (by kernel_rfl) (R := fun v w' => v = .tuple #[] ∧ z0h (fun k => S k ∨ w5.heap.size ≤ k) w' g { s with l := ins x s.l } ∧ Fr S w5.heap.size w5 w') ((k2w hP5 x hk ho2.1).mono fun e w' hy => ⟨_, hy.1, rfl, hy.2⟩) ?_
     rintro _ w6 ⟨rfl, hP6, hF⟩
     simp only [zD]
     refine Ks.fin ?_
     refine Ks.k9c ?_
     refine bodyPost_end (v := .tuple #[]) (by simp [results, Tryz.results91]) rfl ?_
     exact ⟨_, rfl, rfl, hP6.mono fun k hk => hk.imp id fun h => Nat.le_trans hB5.size h, (Fr.z0z hB5 (Nat.le_refl _)).trans (hF.mono hB5.size fun _ _ h => h)⟩
end Gt
open Go Go.RowKit
namespace Gt
open Mp Bk Tk
theorem x5t (R : List UInt8 → List UInt8 → List UInt8 → Bool) (s : St) (o : List UInt8) : (clo R s o).1 = 4 ∨ (clo R s o).1 = 5 ∨ (clo R s o).1 = 6 ∨ (clo R s o).1 = 0 := by
 unfold clo
 split
 ·exact Or.inl rfl
 ·split
  ·exact Or.inr (Or.inl rfl)
  ·split
   ·exact Or.inr (Or.inr (Or.inl rfl))
   ·exact Or.inr (Or.inr (Or.inr rfl))
theorem q8v (R : List UInt8 → List UInt8 → List UInt8 → Bool) (s : St) (o : List UInt8) (l : List It) (hn : z4p s l = true) : z7d R s o l = if (x3s R s o).1 = 0 then (0, l.foldl z1b (x3s R s o).2) else ((x3s R s o).1, s) := by
 unfold z7d
 rw [if_neg (by rw [hn]; simp)]
 by_cases ho : o = []
 ·have e : x3s R s o = (0, s) := if_pos ho
  rw [if_pos ho, e, if_pos rfl]
 ·rw [if_neg ho]
  have e : x3s R s o = if (clo R s o).1 = 6 then (0, s) else clo R s o := if_neg ho
  rcases x5t R s o with h | h | h | h
  ·rw [if_pos (Or.inl h), e, if_neg (by rw [h]; decide : ¬ (clo R s o).1 = 6), if_neg (by rw [h]; decide)]
  ·rw [if_pos (Or.inr h), e, if_neg (by rw [h]; decide : ¬ (clo R s o).1 = 6), if_neg (by rw [h]; decide)]
  ·rw [if_neg (by rw [h]; decide), e, if_pos h, if_pos rfl, y8i (by rw [h]; decide)]
  ·rw [if_neg (by rw [h]; decide), e, if_neg (by rw [h]; decide : ¬ (clo R s o).1 = 6), if_pos h]
theorem q8u {R : List UInt8 → List UInt8 → List UInt8 → Bool} {s : St} {o : List UInt8} (h : (x3s R s o).1 ≠ 0) : (x3s R s o).2 = s := by
 revert h
 unfold x3s
 by_cases ho : o = []
 ·rw [if_pos ho]; exact fun _ => rfl
 ·rw [if_neg ho]
  split
  ·exact fun _ => rfl
  ·exact y8i
def y3z (g : Nat) (v1 : Value) (b3 : Nat) (p : Option Addr) (n cap k : Nat) (f : Nat → Value) : Act := { tmps := #[.pointer (some ⟨g, 0, none⟩), v1, f 2, .pointer (some ⟨b3, 0, none⟩), .int .i64 0, f 5, f 6, f 7, f 8, f 9, f 10, f 11, f 12, f 13, f 14, f 15, f 16, f 17, f 18, f 19, f 20, .slice p n cap, .int .i64 (n : Int), .int .i64 (k : Int), f 24, f 25, f 26, f 27, f 28, f 29, f 30], defers := [] }
theorem q5s {S T : Nat → Prop} {w : World} {g : Nat} {s : St} (h : z0h S w g s) (o : List UInt8) (v : Value) (l : List It) (hrow : Row T w 73 5 v l.length (itL l)) (hT : ∀ k, T k → ¬ S k) (hl : l.length ≤ 1000000000) (ht : Hs.z0j w) :
  Calls Tryz.prog 37 #[.pointer (some ⟨g, 0, none⟩), .agg #[str o, v]] w fun e w' => ∃ u, e = .returned u ∧ u = .int .i64 (z7d Gw.z0n s o l).1 ∧ z0h (fun k => S k ∨ w.heap.size ≤ k) w' g (z7d Gw.z0n s o l).2 ∧ Fr S w.heap.size w w' := by
 obtain ⟨p, cap, rfl, z3s⟩ := Row.form hrow
 go_enter Tryz.func37, Tryz.ntmps37
 refine wp_seq ?_
 refine Ks.reg ?_
 refine Ks.box rfl _ _ rfl #[str o, .slice p l.length cap] rfl ?_
 intro w1 b3 Hb3 HX1 HB1 HS1
 simp only [zD]
 refine Ks.v (.int .i64 0) ?_
 simp only [zD]
 refine Ks.done ?_
 refine wp_seq ?_
 refine wp_seq ?_
 refine Ks.reg ?_
 refine Ks.v (.pointer (some ⟨g, 0, none⟩)) ?_
 simp only [zD]
 refine Ks.v (.pointer (some ⟨b3, 1, none⟩)) ?_
 simp only [zD]
 refine Ks.cell rfl _ _ rfl Tryz.underlying64 rfl b3 1 (.slice p l.length cap) rfl (z0c HX1.out 1 rfl) ?_
 simp only [zD]
 refine Ks.pure (by kernel_rfl) 89 #[.pointer (some ⟨g, 0, none⟩), .slice p l.length cap] (by kernel_rfl) (k1w (h.below HB1.out) _ l (hrow.below HB1.out (Nat.le_refl _)) hl) ?_
 intro w2 hb2
 have HX2 : Hid (w2.heap[b3]? = some (.cells #[str o, .slice p l.length cap] 66 (0, 0))) := (hb2.block _ (aL HX1.out)).trans HX1.out
 have hB2 : Below w.heap.size w w2 := HB1.out.trans (hb2.mono HB1.out.size)
 have hb3w : w.heap.size ≤ b3 := Nat.le_of_eq Hb3.out.symm
 clear HX1 HB1 HS1 hb2 Hb3
 simp only [zD]
 refine Ks.v (.bool (!z4p s l)) ?_
 simp only [zD]
 refine Ks.done ?_
 cases hn : z4p s l with
 | false =>
  have hh : z7d Gw.z0n s o l = (4, s) := if_pos hn
  rw [hh]
  refine wp_cond_true rfl ?_
  refine wp_seq ?_
  refine Ks.reg ?_
  refine Ks.v (.int .i64 4) ?_
  simp only [zD]
  refine Ks.done ?_
  refine wp_ret ?_
  repeat (refine Ks.ret ?_)
  refine bodyPost_ret (v := .int .i64 4) (by simp [results, Tryz.results37]) rfl ?_
  exact ⟨_, rfl, rfl, (h.below hB2).mono fun _ h => Or.inl h, Fr.z0z hB2 (Nat.le_refl _)⟩
 | true =>
  rw [q8v _ s o l hn]
  have hok := x7z hn
  refine wp_cond_false rfl ?_
  refine wp_skip ?_
  refine Ks.norm ?_
  refine wp_seq ?_
  refine wp_seq ?_
  refine Ks.reg ?_
  refine Ks.v (.pointer (some ⟨g, 0, none⟩)) ?_
  simp only [zD]
  refine Ks.v (.pointer (some ⟨b3, 0, none⟩)) ?_
  simp only [zD]
  refine Ks.cell rfl _ _ rfl Tryz.underlying9 rfl b3 0 (str o) rfl (z0c HX2.out 0 rfl) ?_
  simp only [zD]
  have hP2 : z0h (fun k => S k ∧ k < w.heap.size) w2 g s := (h.cut (Nat.le_refl _)).congr (fun _ h => h) fun k hk _ => hB2.block k hk.2
  refine Ks.call rfl 90 #[.pointer (some ⟨g, 0, none⟩), .string ⟨o.toArray⟩] (by kernel_rfl) (y8x hP2 o (ht.below hB2 ht.lt)) ?_
  rintro _ w3 ⟨rfl, hP3, hF3⟩
  have hFr3 : Fr S w.heap.size w w3 := (Fr.z0z hB2 (Nat.le_refl _)).trans (hF3.mono hB2.size fun _ _ h => h.1)
  have HX3 : w3.heap[b3]? = some (.cells #[str o, .slice p l.length cap] 66 (0, 0)) := (hF3.block b3 (aL HX2.out) fun h => by have := h.2; omega).trans HX2.out
  have hno := q8u (R := Gw.z0n) (s := s) (o := o)
  generalize x3s Gw.z0n s o = q at *
  obtain ⟨c, s1⟩ := q
  simp only at hno hP3 ⊢
  simp only [zD]
  refine Ks.v (.int .i64 c) ?_
  simp only [zD]
  refine Ks.done ?_
  refine wp_seq ?_
  refine Ks.reg ?_
  refine Ks.v (.int .i64 c) ?_
  simp only [zD]
  refine Ks.v (.bool (!decide (c = 0))) ?_
  simp only [zD]
  refine Ks.done ?_
  by_cases hc : c = 0
  ·rw [decide_eq_true hc, if_pos hc]
   subst hc
   refine wp_cond_false rfl ?_
   refine wp_skip ?_
   refine Ks.norm ?_
   refine wp_seq ?_
   refine wp_seq ?_
   refine Ks.reg ?_
   refine Ks.v (.pointer (some ⟨b3, 1, none⟩)) ?_
   simp only [zD]
   refine Ks.cell rfl _ _ rfl Tryz.underlying64 rfl b3 1 (.slice p l.length cap) rfl (z0c HX3 1 rfl) ?_
   simp only [zD]
   refine Ks.v (.int .i64 (l.length : Int)) ?_
   simp only [zD]
   refine Ks.v (.int .i64 0) ?_
   simp only [zD]
   refine Ks.done ?_
   refine wp_block ?_
   refine Ks.loop (fun m a wr => ∃ (k : Nat) (f : Nat → Value), k ≤ l.length ∧ m = l.length - k ∧ z0h (fun k => S k ∨ w.heap.size ≤ k) wr g ((l.take k).foldl z1b s1) ∧ Fr S w.heap.size w wr ∧ a = y3z g (.agg #[str o, .slice p l.length cap]) b3 p l.length cap k f) l.length ⟨0, fun j => Array.getD #[undef, undef, undef, undef, undef, .int .i64 0, undef, undef, .pointer (some ⟨g, 0, none⟩), .pointer (some ⟨b3, 1, none⟩), .slice p l.length cap, .bool true, .bool (!true), .pointer (some ⟨g, 0, none⟩), .pointer (some ⟨b3, 0, none⟩), str o, .int .i64 0, .int .i64 0, .bool (!true), undef, .pointer (some ⟨b3, 1, none⟩)] j undef, Nat.zero_le _, rfl, hP3.mono fun _ h => Or.inl h.1, hFr3, rfl⟩ ?_
   clear hP3 hF3 hFr3 HX3 HX2 hP2
   rintro m a wr ⟨k, f, hk, rfl, hP, hF, rfl⟩
   have fin : ∀ (a' : Act) (w' : World) (k' : Nat), k < k' → k' ≤ l.length → z0h (fun k => S k ∨ w.heap.size ≤ k) w' g ((l.take k').foldl z1b s1) → Fr S w.heap.size w w' → a' = y3z g (.agg #[str o, .slice p l.length cap]) b3 p l.length cap k' (fun j => a'.tmps.getD j undef) → ∃ m, m < l.length - k ∧ ∃ (k : Nat) (f : Nat → Value), k ≤ l.length ∧ m = l.length - k ∧ z0h (fun k => S k ∨ w.heap.size ≤ k) w' g ((l.take k).foldl z1b s1) ∧ Fr S w.heap.size w w' ∧ a' = y3z g (.agg #[str o, .slice p l.length cap]) b3 p l.length cap k f := fun a' w' k' q1 q2 q3 q4 q5 => ⟨l.length - k', by omega, k', _, q2, rfl, q3, q4, q5⟩
   unfold y3z
   refine wp_seq ?_
   refine Ks.reg ?_
   refine Ks.v (.bool (decide ((k : Int) < l.length))) ?_
   simp only [zD]
   refine Ks.done ?_
   refine wp_seq ?_
   refine wp_cond_split rfl ?_ ?_
   ·intro hlt
    have hlt : k < l.length := by have := of_decide_eq_true hlt; omega
    obtain ⟨gi, cur, rfl, hg, htk⟩ := z3s k hlt
    have hgl := (aL hg)
    obtain ⟨x, hx⟩ : ∃ x, l[k] = x := ⟨_, rfl⟩
    have hxk : l[k]? = some x := by rw [List.getElem?_eq_getElem hlt, hx]
    have hgi : wr.heap[gi]? = some (.cells cur 73 (0, 0)) := (hF.block gi hgl (hT gi (hrow.2 gi rfl))).trans hg
    have hrg : wr.rangeAt gi (k * 5) (itC x) := Row.range z6u hgi htk hxk
    refine wp_skip ?_
    refine Ks.norm ?_
    refine wp_seq ?_
    refine wp_block ?_
    refine wp_seq ?_
    refine Ks.reg ?_
    refine Ks.idx (by kernel_rfl) _ _ _ rfl 73 5 Tryz.underlying64 (by kernel_rfl) (by kernel_rfl) gi l.length cap k rfl rfl hlt ?_
    simp only [zD]
    refine Ks.mid rfl _ _ rfl gi (k * 5) rfl (itC x) hrg Tryz.underlying73 rfl (by kernel_rfl) ?_
    simp only [zD]
    refine Ks.decl rfl _ rfl (.agg #[.int .i64 0, .int .i64 0, .int .i64 0, .int .i64 0, .bool false]) (by kernel_rfl) rfl _ _ rfl (itC x).toArray (fun _ => rfl) (fun _ => rfl) (by kernel_rfl) rfl (by kernel_rfl) ?_
    intro wa b7 Hb7 HX HBa
    simp only [zD]
    refine Ks.done ?_
    refine Ks.reg ?_
    refine Ks.v (.pointer (some ⟨g, 0, none⟩)) ?_
    simp only [zD]
    refine Ks.row rfl _ _ rfl b7 rfl HX.out Tryz.underlying73 rfl (by kernel_rfl) ?_
    simp only [zD]
    refine Ks.call rfl 91 #[.pointer (some ⟨g, 0, none⟩), itV x] (by kernel_rfl) (x3t (hP.below HBa.out) x (hok x (List.mem_of_getElem? hxk)).1) ?_
    rintro _ wb ⟨rfl, hPb, hFb⟩
    have hsz : w.heap.size ≤ wa.heap.size := Nat.le_trans hF.size HBa.out.size
    have hFw : Fr S w.heap.size w wb := (hF.calls HBa.out hF.size).trans (hFb.mono hsz fun k hk h => h.elim id fun h => absurd h (by omega))
    simp only [zD]
    refine Ks.fin ?_
    refine Ks.inb ?_
    refine Ks.reg ?_
    refine Ks.val rfl (.int .i64 ((k + 1 : Nat) : Int)) (by
     simp [execOp, go_sem]
     rw [IntWalk.i64_in _ ⟨by omega, by omega⟩]) ?_
    simp only [zD]
    refine Ks.v (.int .i64 ((k + 1 : Nat) : Int)) ?_
    simp only [zD]
    refine Ks.done ?_
    refine fin _ wb (k + 1) (by omega) hlt ?_ hFw rfl
    rw [z3a hxk, List.foldl_append]
    exact hPb.mono fun k hk => hk.elim id fun h => Or.inr (by omega)
   ·intro hlt
    obtain rfl : k = l.length := by have := of_decide_eq_false hlt; omega
    rw [List.take_of_length_le (Nat.le_refl _)] at hP
    refine wp_exit ?_
    refine Ks.z3r ?_
    refine Ks.norm ?_
    refine wp_seq ?_
    refine Ks.reg ?_
    refine Ks.v (.int .i64 0) ?_
    simp only [zD]
    refine Ks.done ?_
    refine wp_ret ?_
    repeat (refine Ks.ret ?_)
    refine bodyPost_ret (v := .int .i64 0) (by simp [results, Tryz.results37]) rfl ?_
    exact ⟨_, rfl, rfl, hP, hF⟩
  ·rw [decide_eq_false hc, if_neg hc]
   have hs := hno hc
   rw [hs] at hP3
   refine wp_cond_true rfl ?_
   refine wp_seq ?_
   refine Ks.reg ?_
   refine Ks.v (.int .i64 c) ?_
   simp only [zD]
   refine Ks.v (.int .i64 c) ?_
   simp only [zD]
   refine Ks.done ?_
   refine wp_ret ?_
   repeat (refine Ks.ret ?_)
   refine bodyPost_ret (v := .int .i64 c) (by simp [results, Tryz.results37]) rfl ?_
   exact ⟨_, rfl, rfl, hP3.mono fun _ h => Or.inl h.1, hFr3⟩
end Gt
open Go Go.RowKit
namespace Ks
theorem k9s {P : Program} {a : Act} {w : World} {Q : Exit → Act → World → Prop} {c : Code} (h : c.wp P (Exit.then (fun _ _ => False) Q) a w) : (Code.loop c).wp P Q a w :=
 loop (fun _ a' w' => a' = a ∧ w' = w) 0 ⟨rfl, rfl⟩ (by
  rintro n a' w' ⟨rfl, rfl⟩
  refine wp_mono h ?_
  intro e a w hq
  cases e with
  | normal => exact hq.elim
  | _ => exact hq)
theorem k9m {P : Program} {ops : Array Oper} {rest : List Oper} {o : Oper} {a : Act} {w : World} {Q : Exit → Act → World → Prop} (hg : o.guard = none) (l c : Operand) (t : TypeId) (hop : o.op = Op.makeSlice t l c) (e : TypeId) (z : Value) (sz by1 : Nat) (h1 : P.underlying t = some (.slice e)) (h2 : (P.info? e).map (fun i => (i.zero, i.size, i.bytes)) = some (some z, sz, by1)) (n : Nat) (hl : a.eval l = .int .i64 0) (hc : a.eval c = .int .i64 (n : Int)) (b2 : by1 * n ≤ 281474976710656) (b3 : n ≤ maxLen)
  (h : ∀ w' b, Hid (w.heap.size ≤ b) → Row (fun k => w.heap.size ≤ k) w' e sz (.slice (some ⟨b, 0, none⟩) 0 n) 0 [] → Hid (Below w.heap.size w w') → wpList P ops Q rest (a.put o.dst (.slice (some ⟨b, 0, none⟩) 0 n)) w') : wpList P ops Q (o :: rest) a w := by
 refine wpList_plain hg fun K hK' => ?_
 obtain ⟨i, hi, hz0, hz1, hz2⟩ := info_parts h2
 obtain ⟨w', hrun, hown, hgr⟩ := run_make_own (P := P) w w.heap.size t e i z sz h1 hi hz0 hz1 .i64 .i64 n (by rw [hz2]; exact b2) b3 (Nat.le_refl _)
 unfold Oper.wp
 simp [execOp, hop, hl, hc, hrun, Result.andThen]
 exact hK' _ _ (h w' _ (Nat.le_refl _) (Row.q9y hown fun _ h => h) ((Below.refl _ _).grown hgr (Nat.le_refl _) fun _ e => by cases e))
end Ks
namespace Gt
open Mp Bk Tk
theorem x6h : (Tryz.prog.info? 245).map (fun i => (i.zero, i.size, i.bytes)) = some (some (.agg #[.int .i64 0, .int .i64 0, .int .i64 0, .int .i64 0]), 4, 32) := by kernel_rfl
theorem y4r {S : Nat → Prop} {w : World} {e : TypeId} {sz : Nat} {v : Value} {n : Nat} {xs : List Value} (h : Row S w e sz v n xs) {r : Nat} {ob : Obj} (hr : w.heap[r]? = some ob) (hno : ob.isCells = false) : v.ownBlock ≠ some r := fun hb => by
 obtain ⟨cur, hc⟩ := Row.blk h hb
 rw [hr] at hc
 cases hc
 cases hno
theorem x5y {ld out : List En} {left : Int × Int → Bool} (hC : y5j ld left (out.map Prod.fst)) (hs : ∀ q ∈ out, q ∈ ld) (hn : (ld.map Prod.fst).Nodup) (hl : ∀ p ∈ ld, left p.1 = false) : out.Perm ld := by
 have h1 : out.Nodup := List.Pairwise.of_map Prod.fst (fun a b h e => h (by rw [e])) hC.nodup
 have h2 : ld.Nodup := List.Pairwise.of_map Prod.fst (fun a b h e => h (by rw [e])) hn
 refine (List.perm_ext_iff_of_nodup h1 h2).2 fun q => ⟨hs q, fun hq => ?_⟩
 have hk : q.1 ∈ out.map Prod.fst := (hC.left q.1 (List.mem_map.2 ⟨q, hq, rfl⟩)).1 (hl q hq)
 obtain ⟨q', hq', e⟩ := List.mem_map.1 hk
 have : q' = q := by
  obtain ⟨i, hi, ei⟩ := List.getElem_of_mem (hs q' hq')
  obtain ⟨j, hj, ej⟩ := List.getElem_of_mem hq
  have := z4o hn (List.getElem?_eq_getElem hi) (List.getElem?_eq_getElem hj) (by rw [ei, ej, e])
  subst this
  rw [← ei, ← ej]
 rw [← this]
 exact hq'
def z6b (g : Nat) (lv : Value) (vd : Value) (r : Nat) (f : Nat → Value) : Act := { tmps := #[.pointer (some ⟨g, 3, none⟩), f 1, .slice none 0 0, lv, f 4, f 5, f 6, f 7, f 8, f 9, f 10, f 11, f 12, f 13, f 14, vd, .pointer (some ⟨r, 0, none⟩), f 17, f 18, f 19, f 20, f 21, f 22, f 23, f 24, f 25, f 26, f 27, f 28, f 29, f 30], defers := [] }
theorem x6i {S : Nat → Prop} {w : World} {g : Nat} {s : St} (h : z0h S w g s) (hI : Inv s) : Calls Tryz.prog 80 #[.pointer (some ⟨g, 3, none⟩)] w fun e w' => ∃ v, e = .returned v ∧ (∃ es : List En, es.Perm ((held s.l).map pair) ∧ es.Pairwise LtE ∧ Row (fun k => w.heap.size ≤ k) w' 245 4 v es.length (es.flatMap eC)) ∧ Below w.heap.size w w' := by
 obtain ⟨_, vh, vd, vu, hg, hm⟩ := h
 have hgl := (aL hg)
 have HC : Hid (w.cell? ⟨g, 5, none⟩ = some vd) := z0c hg 5 rfl
 obtain ⟨lh, ld, lu, V1, V2, V3, H⟩ := hm.ask
 have hfew := hI.few
 have hlen : ld.length ≤ 16000 := by
  rw [H.j0u]
  exact Nat.le_trans (List.length_filter_le _ _) hfew
 have hnd : (ld.map Prod.fst).Nodup := by
  have h1 : ((held s.l).map It.key).Nodup := List.Nodup.sublist (List.Sublist.map _ List.filter_sublist) hI.rises.keys
  have h2 : (ld.map Prod.fst).Perm ((held s.l).map It.key) := by
   have := H.held.map Prod.fst
   rwa [List.map_map] at this
  exact h2.nodup_iff.2 h1
 have hld := H.held
 clear H V1 V3 hm hg
 go_enter Tryz.func80, Tryz.ntmps80
 refine wp_seq ?_
 refine Ks.reg ?_
 refine Ks.v (.slice none 0 0) ?_
 simp only [zD]
 refine Ks.done ?_
 refine wp_seq ?_
 refine Ks.reg ?_
 refine Ks.v (.pointer (some ⟨g, 3, none⟩)) ?_
 simp only [zD]
 refine Ks.v (.pointer (some ⟨g, 3, none⟩)) ?_
 simp only [zD]
 refine Ks.v (.pointer (some ⟨g, 5, none⟩)) ?_
 simp only [zD]
 refine Ks.cell rfl _ _ rfl z7e rfl g 5 vd rfl HC.out ?_
 simp only [zD]
 refine z8z _ rfl _ _ rfl z7e rfl V2 ?_
 simp only [zD]
 refine Ks.k9m rfl _ _ _ rfl 245 (.agg #[.int .i64 0, .int .i64 0, .int .i64 0, .int .i64 0]) 4 32 Tryz.underlying155 x6h ld.length rfl rfl (by omega) (by unfold maxLen; omega) ?_
 intro w1 b Hb hrow1 HB1
 simp only [zD]
 refine Ks.v (.slice (some ⟨b, 0, none⟩) 0 ld.length) ?_
 simp only [zD]
 refine Ks.done ?_
 refine Ks.cut (fun a' w' => ∃ (lv : Value) (out : List En) (f : Nat → Value) (r : Nat), out.Perm ld ∧ Row (fun k => w.heap.size ≤ k) w' 245 4 lv out.length (out.flatMap eC) ∧ Below w.heap.size w w' ∧ a' = z6b g lv vd r f) ?_ ?_
 ·refine wp_seq ?_
  refine Ks.reg ?_
  refine Ks.v (.pointer (some ⟨g, 3, none⟩)) ?_
  simp only [zD]
  refine Ks.v (.pointer (some ⟨g, 3, none⟩)) ?_
  simp only [zD]
  refine Ks.v (.pointer (some ⟨g, 5, none⟩)) ?_
  simp only [zD]
  refine Ks.cell rfl _ _ rfl z7e rfl g 5 vd rfl (by rw [HB1.out.cell (by exact hgl)]; exact HC.out) ?_
  simp only [zD]
  rcases V2 with ⟨rfl, rfl⟩ | ⟨bd, rfl, his⟩
  ·refine Ks.y7g rfl _ _ rfl z7e rfl ?_
   intro w2 r Hr Hit HB2
   simp only [zD]
   refine Ks.done ?_
   refine wp_block ?_
   refine Ks.k9s ?_
   refine wp_seq ?_
   refine Ks.reg ?_
   refine Ks.x1o rfl _ rfl r rfl Hit.out ?_
   simp only [zD]
   refine Ks.v (.bool false) ?_
   simp only [zD]
   refine Ks.done ?_
   refine wp_seq ?_
   refine wp_cond_false rfl ?_
   refine wp_exit ?_
   refine Ks.z3r ?_
   exact ⟨_, [], fun j => Array.getD #[undef, undef, undef, undef, undef, undef, .pointer (some ⟨g, 3, none⟩), .pointer (some ⟨g, 3, none⟩), .pointer (some ⟨g, 5, none⟩), .map none, .int .i64 0, .slice (some ⟨b, 0, none⟩) 0 0, .pointer (some ⟨g, 3, none⟩), .pointer (some ⟨g, 3, none⟩), .pointer (some ⟨g, 5, none⟩), undef, undef, .tuple #[.bool false], .bool false] j undef, r, List.Perm.refl _, hrow1.below HB2.out (Nat.le_refl _), HB1.out.trans (HB2.out.mono HB1.out.size), rfl⟩
  ·refine Mp.z9q _ rfl _ _ rfl z7e rfl (his.congr (HB1.out.block bd his.lt)) ?_
   intro w2 hran ⟨ob, hw2⟩
   have hb2 : Below w1.heap.size w1 w2 := by rw [hw2]; exact (Below.refl _ _).alloc (Nat.le_refl _) _
   have hbr : bd ≠ w1.heap.size := Nat.ne_of_lt (Nat.lt_of_lt_of_le his.lt HB1.out.size)
   have hrw : w.heap.size ≤ w1.heap.size := HB1.out.size
   have hrow2 : Row (fun k => w.heap.size ≤ k) w2 245 4 (.slice (some ⟨b, 0, none⟩) 0 ld.length) 0 [] := hrow1.below hb2 (Nat.le_refl _)
   generalize w1.heap.size = r at *
   have hB2 : Below w.heap.size w w2 := HB1.out.trans (hb2.mono hrw)
   simp only [zD]
   refine Ks.done ?_
   refine wp_block ?_
   refine Ks.loop (fun m a wr => ∃ (lv : Value) (out : List En) (left : Int × Int → Bool) (f : Nat → Value), Ran wr bd r two two ld left ∧ y5j ld left (out.map Prod.fst) ∧ (∀ q ∈ out, q ∈ ld) ∧ Row (fun k => w.heap.size ≤ k) wr 245 4 lv out.length (out.flatMap eC) ∧ Below w.heap.size w wr ∧ m = ld.length - out.length ∧ a = z6b g lv (.map (some bd)) r f) ld.length ?_ ?_
   ·exact ⟨_, [], _, fun j => Array.getD #[undef, undef, undef, undef, undef, undef, .pointer (some ⟨g, 3, none⟩), .pointer (some ⟨g, 3, none⟩), .pointer (some ⟨g, 5, none⟩), .map (some bd), .int .i64 (ld.length : Int), .slice (some ⟨b, 0, none⟩) 0 ld.length, .pointer (some ⟨g, 3, none⟩), .pointer (some ⟨g, 3, none⟩), .pointer (some ⟨g, 5, none⟩)] j undef, hran, y5j.start ld, fun q hq => (by cases hq), hrow2, hB2, rfl, rfl⟩
   clear hran hb2 hw2 hrow1 hrow2 HB1
   rintro m a wr ⟨lv, out, left, f, hran, hC, hs, hrow, hB, rfl, rfl⟩
   have fin : ∀ (a' : Act) (w' : World) (lv : Value) (out' : List En) (left' : Int × Int → Bool), ld.length - out'.length < ld.length - out.length → Ran w' bd r two two ld left' → y5j ld left' (out'.map Prod.fst) → (∀ q ∈ out', q ∈ ld) → Row (fun k => w.heap.size ≤ k) w' 245 4 lv out'.length (out'.flatMap eC) → Below w.heap.size w w' → a' = z6b g lv (.map (some bd)) r (fun j => a'.tmps.getD j undef) → ∃ m, m < ld.length - out.length ∧ ∃ (lv : Value) (out : List En) (left : Int × Int → Bool) (f : Nat → Value), Ran w' bd r two two ld left ∧ y5j ld left (out.map Prod.fst) ∧ (∀ q ∈ out, q ∈ ld) ∧ Row (fun k => w.heap.size ≤ k) w' 245 4 lv out.length (out.flatMap eC) ∧ Below w.heap.size w w' ∧ m = ld.length - out.length ∧ a' = z6b g lv (.map (some bd)) r f := fun a' w' lv out' left' q1 q2 q3 q4 q5 q6 q7 => ⟨_, q1, lv, out', left', _, q2, q3, q4, q5, q6, rfl, q7⟩
   have finX : ∀ (a' : Act), (∀ p ∈ ld, left p.1 = false) → a' = z6b g lv (.map (some bd)) r (fun j => a'.tmps.getD j undef) → ∃ (lv : Value) (out : List En) (f : Nat → Value) (r : Nat), out.Perm ld ∧ Row (fun k => w.heap.size ≤ k) wr 245 4 lv out.length (out.flatMap eC) ∧ Below w.heap.size w wr ∧ a' = z6b g lv (.map (some bd)) r f := fun a' h1 h2 => ⟨lv, out, _, r, x5y hC hs hnd h1, hrow, hB, h2⟩
   unfold z6b
   refine wp_seq ?_
   refine Ks.reg ?_
   refine Mp.y1z _ rfl _ rfl y1v hbr rfl hran ?_ ?_
   ·intro hl0
    simp only [zD]
    refine Ks.v (.bool false) ?_
    simp only [zD]
    refine Ks.done ?_
    refine wp_seq ?_
    refine wp_cond_false rfl ?_
    refine wp_exit ?_
    refine Ks.z3r ?_
    exact finX _ hl0 rfl
   ·intro c v w3 hcm hlc hran3 hg3 hs3 hen
    have hitr : ∃ ob, wr.heap[r]? = some ob ∧ ob.isCells = false := by
     obtain ⟨es, clock, since, seen, c0, _, hr, _⟩ := hran
     exact ⟨_, hr, rfl⟩
    obtain ⟨ob, hob, hobc⟩ := hitr
    have hrow3 : Row (fun k => w.heap.size ≤ k) w3 245 4 lv out.length (out.flatMap eC) := hrow.congr fun k hk => hg3.block k (hrow.lt k hk) fun e => y4r hrow hob hobc (by rw [hk, ← e])
    have hB3 : Below w.heap.size w w3 := hB.grown hg3 hB.size fun k e => by cases e; exact hrw
    have hlen3 := hC.len hcm hlc
    have hC3 := hC.step hcm hlc
    simp only [zD]
    refine Ks.v (.bool true) ?_
    simp only [zD]
    refine Ks.done ?_
    refine wp_seq ?_
    refine wp_cond_true rfl ?_
    refine wp_skip ?_
    refine Ks.norm ?_
    refine wp_block ?_
    refine wp_seq ?_
    refine Ks.reg ?_
    refine Ks.entry rfl _ rfl r (.tuple #[two c, two v]) rfl hen ?_
    simp only [zD]
    refine Ks.v (two c) ?_
    simp only [zD]
    refine Ks.v (two v) ?_
    simp only [zD]
    refine Ks.alloc rfl _ rfl (.agg #[.int .i64 0, .int .i64 0]) (by kernel_rfl) #[.int .i64 0, .int .i64 0] rfl ?_
    intro w4 b4 Hb4 HX4 HB4 HS4
    simp only [zD]
    refine Ks.alloc rfl _ rfl (.agg #[.int .i64 0, .int .i64 0]) (by kernel_rfl) #[.int .i64 0, .int .i64 0] rfl ?_
    intro w5 b5 Hb5 HY5 HB5 HS5
    have HX5 : w5.heap[b4]? = some (.cells #[.int .i64 0, .int .i64 0] 154 (0, 0)) := (HB5.out.block _ (aL HX4.out)).trans HX4.out
    have hb35 : Below w3.heap.size w3 w5 := HB4.out.trans (HB5.out.mono HB4.out.size)
    have h45 : b4 ≠ b5 := fun e => by rw [e, HY5.out] at HX5; cases HX5
    have h4w : w3.heap.size ≤ b4 := Nat.le_of_eq Hb4.out.symm
    have h5w : w3.heap.size ≤ b5 := by rw [Hb5.out]; exact HB4.out.size
    simp only [zD]
    refine Ks.whole rfl _ _ _ rfl b4 #[.int .i64 c.1, .int .i64 c.2] rfl rfl HX5 (by kernel_rfl) rfl (by kernel_rfl) ?_
    intro w6 HR6 H2 H3 H4
    have HY6 : w6.heap[b5]? = some (.cells #[.int .i64 0, .int .i64 0] 150 (0, 0)) := (H3.out b5 (fun e => h45 e.symm)).trans HY5.out
    have hb36 : Below w3.heap.size w3 w6 := hb35.trans ((H2.out (fun _ => False) w3.heap.size (Or.inr h4w)).below (Nat.le_refl _) fun _ _ h => h)
    simp only [Act.put]
    refine Ks.whole rfl _ _ _ rfl b5 #[.int .i64 v.1, .int .i64 v.2] rfl rfl HY6 (by kernel_rfl) rfl (by kernel_rfl) ?_
    intro w7 HR7 H2' H3' H4'
    have HX7 : w7.heap[b4]? = some (.cells #[.int .i64 c.1, .int .i64 c.2] 154 (0, 0)) := (H3'.out b4 h45).trans HR6.out
    have hb37 : Below w3.heap.size w3 w7 := hb36.trans ((H2'.out (fun _ => False) w3.heap.size (Or.inr h5w)).below (Nat.le_refl _) fun _ _ h => h)
    have hran7 : Ran w7 bd r two two ld (fun x => left x && decide (x ≠ c)) := hran3.congr (hb37.block bd hran3.is.lt) (hb37.block r (Ran.lt hran3))
    have hrow7 := hrow3.below hb37 (Nat.le_refl _)
    have hB7 : Below w.heap.size w w7 := hB3.trans (hb37.mono hB3.size)
    clear H2 H3 H4 H2' H3' H4' HR6 HY6 hb36 hb35 HX5 HX4 HY5 HB4 HB5 HS4 HS5
    simp only [Act.put]
    refine Ks.done ?_
    refine Ks.reg ?_
    refine Ks.v (lv) ?_
    simp only [zD]
    refine Ks.row rfl _ _ rfl b4 rfl HX7 Tryz.underlying154 rfl (by kernel_rfl) ?_
    simp only [zD]
    refine Ks.row rfl _ _ rfl b5 rfl HR7.out Tryz.underlying150 rfl (by kernel_rfl) ?_
    simp only [zD]
    refine Ks.v (.agg (eC (c, v)).toArray) ?_
    simp only [zD]
    refine Ks.push rfl rfl 155 245 _ _ _ rfl rfl (.agg (eC (c, v)).toArray) (.agg #[.int .i64 0, .int .i64 0, .int .i64 0, .int .i64 0]) rfl (eC (c, v)).toArray 4 32 Tryz.underlying155 x6h (by decide) (by decide) (by kernel_rfl) rfl (by decide) _ _ out.length (out.flatMap eC) (fun _ => rfl) (fun _ => rfl) hrow7 rfl (by simp [eC, Value.oneCell']) (by rw [List.length_map] at hlen3; omega) ?_
    intro u lv' w8 hr8 hf8
    have hitr7 : ∃ ob, w7.heap[r]? = some ob ∧ ob.isCells = false := by
     obtain ⟨es, clock, since, seen, c0, _, hr, _⟩ := hran7
     exact ⟨_, hr, rfl⟩
    have hmap7 : ∃ ob, w7.heap[bd]? = some ob ∧ ob.isCells = false := by
     obtain ⟨es, clock, since, seen, c0, hr, _⟩ := hran7
     exact ⟨_, hr, rfl⟩
    obtain ⟨o1, ho1, hc1⟩ := hitr7
    obtain ⟨o2, ho2, hc2⟩ := hmap7
    have hran8 : Ran w8 bd r two two ld (fun x => left x && decide (x ≠ c)) := hran7.congr (hf8.block bd hran7.is.lt (y4r hrow7 ho2 hc2)) (hf8.block r (Ran.lt hran7) (y4r hrow7 ho1 hc1))
    have hB8 : Below w.heap.size w w8 := hB7.trans (hf8.below hB7.size fun k hk e => by have := hrow7.2 k e; omega)
    simp only [zD]
    refine Ks.v (lv') ?_
    simp only [zD]
    refine Ks.fin ?_
    refine Ks.inb ?_
    refine fin _ w8 lv' (out ++ [(c, v)]) _ ?_ hran8 ?_ ?_ ?_ hB8 rfl
    ·rw [List.length_map] at hlen3
     simp
     omega
    ·rw [List.map_append]
     exact hC3
    ·intro q hq
     rcases List.mem_append.1 hq with hq | hq
     ·exact hs q hq
     ·obtain rfl : q = (c, v) := List.mem_singleton.1 hq
      exact hcm
    ·rw [List.length_append, List.flatMap_append]
     have := hr8.mono (T := fun k => w.heap.size ≤ k) fun k hk => hk.elim id fun h => Nat.le_trans hB7.size h
     simpa using this
 ·rintro a' w3 ⟨lv, out, f, r, hp, hrow, hB, rfl⟩
  unfold z6b
  have hol : out.length = ld.length := hp.length_eq
  refine wp_seq ?_
  refine Ks.reg ?_
  refine Ks.v (lv) ?_
  simp only [zD]
  have tail : ∀ (es : List En), es.Perm out → (es.Pairwise fun x y => ¬ LtE y x) → es.Perm ((held s.l).map pair) ∧ es.Pairwise LtE := by
   intro es h1 h2
   have hes : es.Nodup := by
    have h3 : ld.Nodup := List.Pairwise.of_map Prod.fst (fun a b h e => h (by rw [e])) hnd
    exact (h1.trans hp).nodup_iff.2 h3
   refine ⟨(h1.trans hp).trans hld, ?_⟩
   have := List.Pairwise.and h2 hes
   refine this.imp fun {a b} h => ?_
   rcases LtE.total h.1 with e | h3
   ·exact absurd e.symm h.2
   ·exact h3
  rcases hrow.1.2 with ⟨rfl, h0⟩ | ⟨gg, cap, cur, rfl, hbase, hgb, h1, h2, h3, h4⟩
  ·obtain rfl : out = [] := List.length_eq_zero_iff.1 h0
   have hn : Calls Tryz.prog 152 #[.slice none 0 0, .func (.func 153) #[] #[]] w3 fun e w' => ∃ v, e = .returned v ∧ v = .tuple #[] ∧ w' = w3 := by
    have := AnyF.slices_SortFunc_none x9g none 0 (.func (.func 153) #[] #[]) w3
    exact Calls.mono this fun e w' h => ⟨_, h.1, rfl, h.2⟩
   refine Ks.call rfl 152 #[.slice none 0 0, .func (.func 153) #[] #[]] (by kernel_rfl) hn ?_
   rintro _ _ ⟨rfl, rfl⟩
   simp only [zD]
   refine Ks.done ?_
   refine wp_seq ?_
   refine Ks.reg ?_
   refine Ks.v (.slice none 0 0) ?_
   simp only [zD]
   refine Ks.v (.slice none 0 0) ?_
   simp only [zD]
   refine Ks.done ?_
   refine wp_ret ?_
   repeat (refine Ks.ret ?_)
   refine bodyPost_ret (v := .slice none 0 0) (by simp [results, Tryz.results80]) rfl ?_
   have ht := tail [] (List.Perm.refl _) List.Pairwise.nil
   exact ⟨_, rfl, ⟨[], ht.1, ht.2, Row.nil _ _ _ _⟩, hB⟩
  ·have hsz : w.heap.size ≤ gg := hrow.2 gg rfl
   refine Ks.call rfl 152 #[.slice (some ⟨gg, 0, none⟩) out.length cap, .func (.func 153) #[] #[]] (by kernel_rfl) (x9h out w3 gg cap hgb h4 (by rw [h3]; omega) (by omega)) ?_
   rintro _ w4 ⟨rfl, ⟨es, hp2, hs2, cur', c1, c2, c3⟩, hf⟩
   have ht := tail es hp2 hs2
   have hel : es.length = out.length := hp2.length_eq
   simp only [zD]
   refine Ks.done ?_
   refine wp_seq ?_
   refine Ks.reg ?_
   refine Ks.v (.slice (some ⟨gg, 0, none⟩) out.length cap) ?_
   simp only [zD]
   refine Ks.v (.slice (some ⟨gg, 0, none⟩) out.length cap) ?_
   simp only [zD]
   refine Ks.done ?_
   refine wp_ret ?_
   repeat (refine Ks.ret ?_)
   refine bodyPost_ret (v := .slice (some ⟨gg, 0, none⟩) out.length cap) (by simp [results, Tryz.results80]) rfl ?_
   refine ⟨_, rfl, ⟨es, ht.1, ht.2, ⟨?_, ?_⟩, fun b hb => ?_⟩, hB.trans (hf.below hB.size fun k hk e => by omega)⟩
   ·rw [← c3, List.length_take, hel]
    simp only [Array.length_toList]
    omega
   ·exact Or.inr ⟨gg, cap, cur', by rw [hel], Nat.zero_le _, c1, by rw [hel]; exact h1, h2, by rw [c2, h3], by rw [hel]; exact c3⟩
   ·injection hb with hb
    have e : gg = b := hb
    show w.heap.size ≤ b
    omega
end Gt
open Go Go.RowKit
theorem x2e {P : Program} (w : World) (t e : TypeId) (sz : Nat) (hu : P.underlying t = some (.slice e)) (hs : P.cellsOf e = sz) (hi0 : (P.info? e).isSome = true) (b off len cap n : Nat) (hn : n < len) : (Instr.indexAt t (.slice (some ⟨b, off, none⟩) len cap) (.int .i64 (n : Int))).run P w = .ok (.pointer (some ⟨b, off + n * sz, none⟩)) w := by
 obtain ⟨i, hi1⟩ := Option.isSome_iff_exists.1 hi0
 have h1 : (underlying t).run P w = .ok (.slice e) w := run_underlying hu w
 have h2 : (sizeOf e).run P w = .ok sz w := by rw [← hs]; exact run_sizeOf w hi1
 simp [Instr.indexAt, asIntOf, h1, h2, hn, Addr.add_mid]
namespace Ks
theorem q5t {P : Program} {ops : Array Oper} {rest : List Oper} {o : Oper} {a : Act} {w : World} {Q : Exit → Act → World → Prop} (hw : Region.wanted o (yielded ops a.tmps) = true) (t : TypeId) (x ix : Operand) (ho : o.op = .indexAddr t x ix) (e : TypeId) (sz : Nat) (hu : P.underlying t = some (.slice e)) (hs : P.cellsOf e = sz) (hi0 : (P.info? e).isSome = true) (b off len cap n : Nat)
  (hx : a.eval x = .slice (some ⟨b, off, none⟩) len cap) (hi : a.eval ix = .int .i64 (n : Int)) (hn : n < len) (h : wpList P ops Q rest (a.put o.dst (.pointer (some ⟨b, off + n * sz, none⟩))) w) : wpList P ops Q (o :: rest) a w := by
 refine y8b hw _ ?_ h
 have hr := x2e (P := P) w t e sz hu hs hi0 b off len cap n hn
 unfold execOp
 simp only [ho, hx, hi, Sem.run_bind, Sem.run_pure, Result.andThen_ok, hr]
end Ks
namespace Qg
open Qt
theorem q5t {P : Program} {ops : Array Oper} {w : World} {Q : Act → Prop} {rest : List Oper} {o : Oper} {a : Act} (hw : Region.wanted o (yielded ops a.tmps) = true) (t : TypeId) (x ix : Operand) (ho : o.op = .indexAddr t x ix) (e : TypeId) (sz : Nat) (hu : P.underlying t = some (.slice e)) (hs : P.cellsOf e = sz) (hi0 : (P.info? e).isSome = true) (b off len cap n : Nat)
  (hx : a.eval x = .slice (some ⟨b, off, none⟩) len cap) (hi : a.eval ix = .int .i64 (n : Int)) (hn : n < len) (h : wpQuiet P ops (BW w) Q rest (a.put o.dst (.pointer (some ⟨b, off + n * sz, none⟩)))) : wpQuiet P ops (BW w) Q (o :: rest) a := by
 refine val hw _ (fun w' _ => ?_) h
 have hr := x2e (P := P) w' t e sz hu hs hi0 b off len cap n hn
 unfold execOp
 simp only [ho, hx, hi, Sem.run_bind, Sem.run_pure, Result.andThen_ok, hr]
end Qg
namespace Gt
open Mp Bk Tk
structure y3d (w : World) (g off : Nat) (es : List En) : Prop where
 lt : g < w.heap.size
 rng : w.rangeAt g off (es.flatMap eC)
theorem y3d.below {w w' : World} {g off : Nat} {es : List En} (h : y3d w g off es) (hb : Below w.heap.size w w') : y3d w' g off es := ⟨Nat.lt_of_lt_of_le h.lt hb.size, z1v h.rng hb h.lt⟩
theorem y3d.elt {w : World} {g off : Nat} {es : List En} (h : y3d w g off es) {k : Nat} {x : En} (hx : es[k]? = some x) : w.rangeAt g (off + k * 4) (eC x) := fun j v hv => by
 have hj : j < 4 := by
  have := (lL hv)
  rwa [y2q] at this
 have h1 := flat_get eC 4 y2q es k j x hx hj
 rw [hv] at h1
 have := h.rng _ v h1
 rwa [show off + k * 4 + j = off + (k * 4 + j) by omega]
theorem y3d.pass {w : World} {g off : Nat} {es : List En} (h : y3d w g off es) {k : Nat} {x : En} (hx : es[k]? = some x) : w.rangeAt g (off + k * 4 + 2) [.int .i64 x.2.1, .int .i64 x.2.2] := fun j v hv => by
 have h1 := h.elt hx (j + 2) v (by
  match j, hv with
  | 0, hv => simpa [eC] using hv
  | 1, hv => simpa [eC] using hv)
 rwa [show off + k * 4 + 2 + j = off + k * 4 + (j + 2) by omega]
def runN : List En → Nat
 | [] => 0
 | e :: r => ((e :: r).takeWhile fun x => decide (x.2 = e.2)).length
theorem z9o {α : Type} {p : α → Bool} : ∀ {l : List α} {k : Nat}, k ≤ l.length → (∀ x ∈ l.take k, p x = true) → (k = l.length ∨ ∃ x, l[k]? = some x ∧ p x = false) → (l.takeWhile p).length = k
 | [], k, h0, _, _ => by simp at h0; simp [h0]
 | x :: r, 0, _, _, h => by
  rcases h with h | ⟨y, hy, hp⟩
  ·simp at h
  ·simp at hy
   subst hy
   simp [hp]
 | x :: r, k + 1, h0, h1, h2 => by
  have hx : p x = true := h1 x (by simp)
  have := z9o (p := p) (l := r) (k := k) (by simpa using h0) (fun y hy => h1 y (by simp [hy])) (by simpa using h2)
  simp [hx, this]
theorem k1i {es : List En} {e : En} (hd : es[0]? = some e) {k : Nat} (hk : k ≤ es.length) (h1 : ∀ x ∈ es.take k, x.2 = e.2) (h2 : k = es.length ∨ ∃ x, es[k]? = some x ∧ x.2 ≠ e.2) : runN es = k := by
 cases es with
 | nil => cases hd
 | cons y r =>
  have hy : y = e := by simpa using hd
  subst hy
  exact z9o hk (fun x hx => by simp [h1 x hx]) (h2.imp id fun ⟨x, hx, hp⟩ => ⟨x, hx, by simp [hp]⟩)
def z6k (g off n cap k : Nat) (f : Nat → Value) : Act := { tmps := #[.slice (some ⟨g, off, none⟩) n cap, f 1, .int .i64 0, .int .i64 (k : Int), f 4, f 5, f 6, f 7, f 8, f 9, f 10, f 11, f 12, f 13, f 14, f 15, f 16, f 17, f 18, f 19, f 20, f 21, f 22], defers := [] }
theorem y9n (w : World) (g off cap : Nat) (es : List En) (h : y3d w g off es) (hne : 0 < es.length) (hl : es.length ≤ 1000000) : Calls Tryz.prog 81 #[.slice (some ⟨g, off, none⟩) es.length cap] w fun e w' => e = .returned (.int .i64 (runN es : Int)) ∧ Below w.heap.size w w' := by
 obtain ⟨e0, he0⟩ : ∃ e0, es[0]? = some e0 := ⟨_, List.getElem?_eq_getElem hne⟩
 go_enter Tryz.func81, Tryz.ntmps81
 refine wp_seq ?_
 refine Ks.reg ?_
 refine Ks.v (.int .i64 0) ?_
 simp only [zD]
 refine Ks.done ?_
 refine wp_seq ?_
 refine Ks.reg ?_
 refine Ks.v (.int .i64 0) ?_
 simp only [zD]
 refine Ks.done ?_
 refine wp_seq ?_
 refine wp_block ?_
 refine Ks.loop (fun m a wr => ∃ (k : Nat) (f : Nat → Value), k ≤ es.length ∧ m = es.length - k ∧ (∀ x ∈ es.take k, x.2 = e0.2) ∧ Below w.heap.size w wr ∧ a = z6k g off es.length cap k f) es.length ⟨0, fun _ => undef, Nat.zero_le _, rfl, by simp, Below.refl _ _, rfl⟩ ?_
 rintro m a wr ⟨k, f, hk, rfl, h0, hB, rfl⟩
 have hE := h.below hB
 have fin : ∀ (a' : Act) (w' : World) (k' : Nat), k < k' → k' ≤ es.length → (∀ x ∈ es.take k', x.2 = e0.2) → Below w.heap.size w w' → a' = z6k g off es.length cap k' (fun j => a'.tmps.getD j undef) → ∃ m, m < es.length - k ∧ ∃ (k : Nat) (f : Nat → Value), k ≤ es.length ∧ m = es.length - k ∧ (∀ x ∈ es.take k, x.2 = e0.2) ∧ Below w.heap.size w w' ∧ a' = z6k g off es.length cap k f := fun a' w' k' q1 q2 q3 q4 q5 => ⟨es.length - k', by omega, k', _, q2, rfl, q3, q4, q5⟩
 obtain ⟨go, hgo⟩ : ∃ go : Bool, go = true ↔ ∃ x, es[k]? = some x ∧ x.2 = e0.2 := by
  by_cases hc : ∃ x, es[k]? = some x ∧ x.2 = e0.2
  ·exact ⟨true, by simp [hc]⟩
  ·exact ⟨false, by simp [hc]⟩
 unfold z6k
 refine wp_seq ?_
 refine Ks.cut (fun a' w' => Below w.heap.size w w' ∧ ∃ f : Nat → Value, f 19 = .bool go ∧ a' = z6k g off es.length cap k f) ?_ ?_
 ·have fin4 : ∀ (a' : Act) (w' : World), Below wr.heap.size wr w' → a'.tmps.getD 19 undef = .bool go → a' = z6k g off es.length cap k (fun j => a'.tmps.getD j undef) → Below w.heap.size w w' ∧ ∃ f : Nat → Value, f 19 = .bool go ∧ a' = z6k g off es.length cap k f := fun a' w' hb h1 h2 => ⟨hB.trans (hb.mono hB.size), _, h1, h2⟩
  refine Qt.z0u (by kernel_rfl) (by kernel_rfl) ?_
  refine Qg.val (by kernel_rfl) (.int .i64 (k : Int)) (fun _ _ => by kernel_rfl) ?_
  simp only [zD]
  refine Qg.val (by kernel_rfl) (.slice (some ⟨g, off, none⟩) es.length cap) (fun _ _ => by kernel_rfl) ?_
  simp only [zD]
  refine Qg.val (by kernel_rfl) (.int .i64 (es.length : Int)) (fun _ _ => by kernel_rfl) ?_
  simp only [zD]
  refine Qg.val (by kernel_rfl) (.bool (decide ((k : Int) < es.length))) (fun _ _ => by kernel_rfl) ?_
  simp only [zD]
  refine Qg.val (by kernel_rfl) (.bool (decide ((k : Int) < es.length))) (fun _ _ => by kernel_rfl) ?_
  simp only [zD]
  by_cases hlt : k < es.length
  ·rw [decide_eq_true (by omega : (k : Int) < es.length)]
   obtain ⟨x, hx⟩ : ∃ x, es[k]? = some x := ⟨_, List.getElem?_eq_getElem hlt⟩
   have hgo2 : go = decide (x.2 = e0.2) := by
    rw [Bool.eq_iff_iff, hgo, decide_eq_true_eq]
    constructor
    ·rintro ⟨y, hy, e⟩
     rw [hx] at hy
     cases hy
     exact e
    ·exact fun e => ⟨x, hx, e⟩
   refine Qg.val (by kernel_rfl) (.slice (some ⟨g, off, none⟩) es.length cap) (fun _ _ => by kernel_rfl) ?_
   simp only [zD]
   refine Qg.val (by kernel_rfl) (.int .i64 (k : Int)) (fun _ _ => by kernel_rfl) ?_
   simp only [zD]
   refine Qg.q5t (by kernel_rfl) _ _ _ rfl 245 4 Tryz.underlying155 (by kernel_rfl) (by kernel_rfl) g off es.length cap k rfl rfl hlt ?_
   simp only [zD]
   refine Qg.val (by kernel_rfl) (.pointer (some ⟨g, off + k * 4 + 2, none⟩)) (fun _ _ => by kernel_rfl) ?_
   simp only [zD]
   refine Qg.mid (by kernel_rfl) _ _ rfl g (off + k * 4 + 2) rfl [.int .i64 x.2.1, .int .i64 x.2.2] hE.lt (hE.pass hx) Tryz.underlying150 rfl (by kernel_rfl) ?_
   simp only [zD]
   refine Qg.val (by kernel_rfl) (.slice (some ⟨g, off, none⟩) es.length cap) (fun _ _ => by kernel_rfl) ?_
   simp only [zD]
   refine Qg.q5t (by kernel_rfl) _ _ _ rfl 245 4 Tryz.underlying155 (by kernel_rfl) (by kernel_rfl) g off es.length cap 0 rfl rfl hne ?_
   simp only [zD]
   refine Qg.val (by kernel_rfl) (.pointer (some ⟨g, off + 0 * 4 + 2, none⟩)) (fun _ _ => by kernel_rfl) ?_
   simp only [zD]
   refine Qg.mid (by kernel_rfl) _ _ rfl g (off + 0 * 4 + 2) rfl [.int .i64 e0.2.1, .int .i64 e0.2.2] hE.lt (hE.pass he0) Tryz.underlying150 rfl (by kernel_rfl) ?_
   simp only [zD]
   refine Qg.val (by kernel_rfl) (.bool go) (fun w' _ => by
    rw [hgo2]
    exact Ks.q8a _ _ _ _ rfl _ _ rfl rfl (by kernel_rfl) _ (q3l.eq w' x.2 e0.2)) ?_
   simp only [zD]
   refine Qg.val (by kernel_rfl) (.bool go) (fun _ _ => by kernel_rfl) ?_
   simp only [zD]
   refine wpQuiet_nil ?_
   intro w' hb
   exact fin4 _ w' hb rfl rfl
  ·rw [decide_eq_false (by omega : ¬ (k : Int) < es.length)]
   have hgo2 : go = false := by
    cases go
    ·rfl
    ·obtain ⟨x, hx, _⟩ := hgo.1 rfl
     exact absurd (lL hx) hlt
   with_reducible refine Qg.off (by kernel_rfl) ?_
   simp only [zD]
   with_reducible refine Qg.off (by kernel_rfl) ?_
   simp only [zD]
   with_reducible refine Qg.off (by kernel_rfl) ?_
   simp only [zD]
   with_reducible refine Qg.off (by kernel_rfl) ?_
   simp only [zD]
   with_reducible refine Qg.off (by kernel_rfl) ?_
   simp only [zD]
   with_reducible refine Qg.off (by kernel_rfl) ?_
   simp only [zD]
   with_reducible refine Qg.off (by kernel_rfl) ?_
   simp only [zD]
   with_reducible refine Qg.off (by kernel_rfl) ?_
   simp only [zD]
   with_reducible refine Qg.off (by kernel_rfl) ?_
   simp only [zD]
   with_reducible refine Qg.off (by kernel_rfl) ?_
   simp only [zD]
   refine Qg.val (by kernel_rfl) (.bool false) (fun _ _ => by kernel_rfl) ?_
   simp only [zD]
   refine wpQuiet_nil ?_
   intro w' hb
   exact fin4 _ w' hb (by rw [hgo2]; rfl) rfl
 ·rintro a' w2 ⟨hB2, f', e19, rfl⟩
  unfold z6k
  rw [e19]
  cases go with
  | true =>
   obtain ⟨x, hx, hxe⟩ := hgo.1 rfl
   have hlt := (lL hx)
   refine wp_cond_true rfl ?_
   refine wp_skip ?_
   refine Ks.norm ?_
   refine wp_block ?_
   refine Ks.reg ?_
   refine Ks.v (.int .i64 (k : Int)) ?_
   simp only [zD]
   refine Ks.val rfl (.int .i64 ((k + 1 : Nat) : Int)) (by
    simp [execOp, go_sem]
    rw [IntWalk.i64_in _ ⟨by omega, by omega⟩]) ?_
   simp only [zD]
   refine Ks.v (.int .i64 ((k + 1 : Nat) : Int)) ?_
   simp only [zD]
   refine Ks.fin ?_
   refine Ks.inb ?_
   refine fin _ w2 (k + 1) (by omega) hlt ?_ hB2 rfl
   rw [z3a hx]
   intro y hy
   rcases List.mem_append.1 hy with hy | hy
   ·exact h0 y hy
   ·obtain rfl : y = x := List.mem_singleton.1 hy
    exact hxe
  | false =>
   have hrun : runN es = k := by
    refine k1i he0 hk h0 ?_
    by_cases hlt : k < es.length
    ·refine Or.inr ⟨es[k], List.getElem?_eq_getElem hlt, fun e => ?_⟩
     have := hgo.2 ⟨es[k], List.getElem?_eq_getElem hlt, e⟩
     cases this
    ·exact Or.inl (by omega)
   rw [hrun]
   refine wp_cond_false rfl ?_
   refine wp_exit ?_
   refine Ks.z3r ?_
   refine wp_seq ?_
   refine Ks.reg ?_
   refine Ks.v (.int .i64 (k : Int)) ?_
   simp only [zD]
   refine Ks.v (.int .i64 (k : Int)) ?_
   simp only [zD]
   refine Ks.done ?_
   refine wp_ret ?_
   repeat (refine Ks.ret ?_)
   refine bodyPost_ret (v := .int .i64 (k : Int)) (by simp [results, Tryz.results81]) rfl ?_
   exact ⟨rfl, hB2⟩
end Gt
end Go.Proofs.YtbojijefenfbgaaGreatDoor

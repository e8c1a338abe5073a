/- Walk of posternlaw: the script is played. Towards: whatever script is handed in (of bulk at most 1048576), the statement Gates answers true: gates of the program's and of the document's, made, asked to admit, to close and how they stand, answer the same at every step and at the end.
  Conditions: the row's own ('upto': the bulk; 'laid': the program's table of round words starts as its text lays it, tied by the card). The row's facts, one by one. -/
import Derived.Test.YtbojijefenfbgaaGreatDoorGgShort
import Derived.Test.YtbojijefenfbgaaGreatDoorGgLawC
import Derived.Test.YtbojijefenfbgaaGreatDoorCards
import Derived.Test.YtbojijefenfbgaaGreatDoorTie
import Derived.WalkKit
import Derived.ProofKit
import Derived.OpenShut
import Derived.Carry
import Derived.Deep.Slices
import Derived.Deep.DeepHandedRow
import Derived.Lib.LaidTab
namespace Go.Proofs.YtbojijefenfbgaaGreatDoor
open Go Go.RowKit
namespace Ks
section
variable {P : Program} {ops : Array Oper} {rest : List Oper} {o : Oper} {a : Act} {w : World} {Q : Exit → Act → World → Prop}
theorem idxo (hw : Region.wanted o (yielded ops a.tmps) = true) (t : TypeId) (x ix : Operand) (ho : o.op = .indexAddr t x ix) (e : TypeId) (sz : Nat) (hu : P.underlying t = some (.slice e)) (hs : P.cellsOf e = sz) (hi0 : (P.info? e).isSome = true) (b off len cap n : Nat)
  (hx : a.eval x = .slice (some ⟨b, off, none⟩) len cap) (hi : a.eval ix = .int .i64 (n : Int)) (hn : n < len) (h : wpList P ops Q rest (a.put o.dst (.pointer (some ⟨b, off + n * sz, none⟩))) w) : wpList P ops Q (o :: rest) a w := by
 refine valg hw _ ?_ h
 obtain ⟨i, hi1⟩ := Option.isSome_iff_exists.1 hi0
 have h1 : (underlying t).run P w = .ok (.slice e) w := run_underlying hu w
 have h2 : (sizeOf e).run P w = .ok sz w := by rw [← hs]; exact run_sizeOf w hi1
 have hr : (Instr.indexAt t (.slice (some ⟨b, off, none⟩) len cap) (.int .i64 (n : Int))).run P w = .ok (.pointer (some ⟨b, off + n * sz, none⟩)) w := by
  simp [Instr.indexAt, asIntOf, h1, h2, hn, Addr.add_mid]
 unfold execOp
 simp only [ho, hx, hi, Sem.run_bind, Sem.run_pure, Result.andThen_ok, hr]
end
end Ks
namespace Gt
open Mp Bk Tk
theorem keyA_good : (Cw.decF Gw.keyA).2 = true := by
 cases h : (Cw.decF Gw.keyA).2 with
 | true => rfl
 | false => exact absurd ((Gw.key_eq Gw.seedA).symm.trans Gw.key_A) (Gw.dec_false h _ (Ed.mulP_on Ed.bP_on _))
def Scr (w : World) (a0 : Option Addr) (os : List Sp) : Prop := os = [] ∨ ∃ sb so, a0 = some ⟨sb, so, none⟩ ∧ ∀ (i : Nat) (o : Sp), os[i]? = some o → w.rangeAt sb (so + i * 9) (spC o)
def pFrame (sv : Value) (W : Nat) (k1 k2 : Value) (f : Nat → Value) : Act := { tmps := #[sv, .int .i64 4, f 2, f 3, .bool false, .pointer (some ⟨W, 0, none⟩), f 6, f 7, k1, f 9, f 10, k2, f 12, f 13, f 14, f 15, f 16, f 17, f 18, f 19, f 20, f 21, f 22, f 23, f 24, f 25, f 26, f 27, f 28, f 29, f 30, f 31, f 32, f 33, f 34, f 35, f 36, f 37, f 38, f 39, f 40, f 41, f 42, f 43, f 44, f 45, f 46, f 47, f 48, f 49, f 50, f 51, f 52, f 53, f 54, f 55, f 56, f 57, f 58, f 59, f 60, f 61, f 62, f 63, f 64, f 65, f 66, f 67, f 68, f 69, f 70, f 71, f 72, f 73, f 74, f 75, f 76, f 77, f 78, f 79, f 80, f 81, f 82, f 83, f 84, f 85, f 86, f 87, f 88, f 89, f 90, f 91, f 92, f 93, f 94, f 95, f 96, f 97, f 98, f 99, f 100, f 101, f 102, f 103, f 104, f 105, f 106, f 107, f 108, f 109, f 110, f 111, f 112, f 113, f 114, f 115, f 116, f 117, f 118, f 119, f 120, f 121, f 122, f 123, f 124, f 125, f 126, f 127, f 128], defers := [] }
theorem WIn.start {w w' : World} {B K W : Nat} (hw : Below w.heap.size w w') (hB0 : w.heap.size ≤ B) (hK0 : w.heap.size ≤ K) (hW0 : w.heap.size ≤ W) (h1 : B < K) (h2 : K < W)
  (hB : w'.heap[B]? = some (.cells bookZ 32 (0, 0))) (hK : w'.heap[K]? = some (.cells #[.slice none 0 0, .slice none 0 0] 120 (0, 0))) (hW : w'.heap[W]? = some (.cells (worldC B K (.slice none 0 0)) 123 (0, 0))) :
  WAt w.heap.size w' W B K [] 0 := by
 refine ⟨⟨fun b j => (b = W ∧ j = 1) ∨ (b = B ∧ j = 2) ∨ (b = K ∧ j = 4), .slice none 0 0, [], ?_, ?_, hw.size, Or.inl ⟨rfl, rfl⟩, Or.inr (Or.inl ⟨rfl, rfl⟩), hW, hB, Row.nil _ _ _ _, ⟨Or.inr (Or.inr ⟨rfl, rfl⟩), fun x hx => by simp at hx, _, _, hK, Row.nil _ _ _ _, Row.nil _ _ _ _⟩, Nat.le_refl _, Nat.le_refl _, fun i p hp => by simp at hp⟩, fun p hp => by simp at hp⟩
 ·intro b i j hi hj
  omega
 ·have l1 := (Array.getElem?_eq_some_iff.1 hB).1
  have l2 := (Array.getElem?_eq_some_iff.1 hK).1
  have l3 := (Array.getElem?_eq_some_iff.1 hW).1
  intro b i hi
  omega
theorem WAt.list {N : Nat} {w : World} {W B K : Nat} {ps : List Pr} {n : Nat} (h : WAt N w W B K ps n) : ∃ lv, w.heap[W]? = some (.cells (worldC B K lv) 123 (0, 0)) ∧ w.heap[B]? = some (.cells bookZ 32 (0, 0)) ∧ ((lv = .slice none 0 0 ∧ ps.length = 0) ∨ ∃ gb cap, lv = .slice (some ⟨gb, 0, none⟩) ps.length cap ∧ gb < w.heap.size ∧ ∀ (i : Nat) (p : Pr), ps[i]? = some p → w.rangeAt gb (i * 2) (prC p)) := by
 obtain ⟨⟨O, lv, ks, h⟩, he⟩ := h
 refine ⟨lv, h.world, h.book, ?_⟩
 rcases h.row.cases with ⟨h1, h2, _⟩ | ⟨gb, cap, cur, h1, h2, h3, _, _, _, h4⟩
 ·exact Or.inl ⟨h1, h2⟩
 ·exact Or.inr ⟨gb, cap, h1, (Array.getElem?_eq_some_iff.1 h3).1, fun i p hp => Row.range (f := prC) (m := 2) (fun _ => rfl) h3 h4 hp⟩
theorem WAt.gate {N : Nat} {w : World} {W B K : Nat} {ps : List Pr} {n : Nat} (h : WAt N w W B K ps n) {i : Nat} {p : Pr} (hp : ps[i]? = some p) : ∃ S S', PGate S w p.x p.s ∧ RGate S' w p.y p.s K ∧ Inv p.s := by
 obtain ⟨⟨O, lv, ks, h⟩, he⟩ := h
 obtain ⟨h1, h2, h3, h4⟩ := h.gates i p hp
 rw [← he p (List.mem_of_getElem? hp)] at h2
 exact ⟨_, _, h1, h2, h3⟩
theorem WAt.few {N : Nat} {w : World} {W B K : Nat} {ps : List Pr} {n : Nat} (h : WAt N w W B K ps n) : ps.length ≤ n := by
 obtain ⟨⟨O, lv, ks, h⟩, he⟩ := h
 exact h.np
theorem WAt.more {N : Nat} {w : World} {W B K : Nat} {ps : List Pr} {n m : Nat} (h : WAt N w W B K ps n) (hm : n ≤ m) : WAt N w W B K ps m := by
 obtain ⟨⟨O, lv, ks, h⟩, he⟩ := h
 exact ⟨⟨O, lv, ks, h.more hm⟩, he⟩
set_option maxRecDepth 10000 in
set_option maxHeartbeats 1000000 in
theorem plays_f (w : World) (a0 : Option Addr) (cap : Nat) (os : List Sp) (hs : Scr w a0 os) (ht : Hs.TabAt w) (hon : ∀ o ∈ os, -9223372036854775808 ≤ o.on ∧ o.on < 9223372036854775808) (hn : os.length ≤ 1000000000) :
  Calls Tryz.prog 23 #[.slice a0 os.length cap, .int .i64 4] w fun e w' => e = .returned (.bool true) ∧ Below w.heap.size w w' := by
 have HS : Hid (Scr w a0 os) := hs
 have HT : Hid (Hs.TabAt w) := ht
 have HN : Hid (∀ o ∈ os, -9223372036854775808 ≤ o.on ∧ o.on < 9223372036854775808) := hon
 have h0 : 0 < w.heap.size := ht.lt
 clear hs ht hon
 go_enter Tryz.func23, Tryz.ntmps23
 refine wp_seq ?_
 refine Ks.reg ?_
 refine Ks.v (.bool false) ?_
 simp only [Act.put, zA, zB, zC]
 refine Ks.done ?_
 refine wp_seq ?_
 refine Ks.reg ?_
 refine Ks.v (.agg bookZ) ?_
 simp only [Act.put, zA, zB, zC]
 refine Ks.box rfl _ _ rfl bookZ rfl ?_
 intro w1 B Hb1 HO1 HB1 HS1
 simp only [Act.put, zA, zB, zC]
 refine Ks.v (.agg #[.slice none 0 0, .slice none 0 0]) ?_
 simp only [Act.put, zA, zB, zC]
 refine Ks.box rfl _ _ rfl #[.slice none 0 0, .slice none 0 0] rfl ?_
 intro w2 K Hb2 HO2 HB2 HS2
 simp only [Act.put, zA, zB, zC]
 refine Ks.v (.agg (worldC B K (.slice none 0 0))) ?_
 simp only [Act.put, zA, zB, zC]
 refine Ks.box rfl _ _ rfl (worldC B K (.slice none 0 0)) rfl ?_
 intro w3 W Hb3 HO3 HB3 HS3
 have HB : Hid (Below w.heap.size w w3) := (HB1.out.trans (HB2.out.mono HB1.out.size)).trans (HB3.out.mono (Nat.le_trans HB1.out.size HB2.out.size))
 have HW : Hid (WAt w.heap.size w3 W B K [] 0) := by
  have e1 := Hb1.out
  have e2 := Hb2.out
  have e3 := Hb3.out
  have f1 := HS1.out
  have f2 := HS2.out
  exact WIn.start HB.out (by omega) (by omega) (by omega) (by omega) (by omega) ((HB3.out.block B (by omega)).trans ((HB2.out.block B (by omega)).trans HO1.out)) ((HB3.out.block K (by omega)).trans HO2.out) HO3.out
 clear Hb1 HO1 HB1 HS1 Hb2 HO2 HB2 HS2 Hb3 HO3 HB3 HS3
 simp only [Act.put, zA, zB, zC]
 refine Ks.v (.pointer (some ⟨W, 0, none⟩)) ?_
 simp only [Act.put, zA, zB, zC]
 refine Ks.done ?_
 refine wp_seq ?_
 refine Ks.reg ?_
 refine Ks.v (.pointer (some ⟨W, 0, none⟩)) ?_
 simp only [Act.put, zA, zB, zC]
 refine Ks.pure (by kernel_rfl) 16 #[] (by kernel_rfl) (Gw.lkey_f w3) ?_
 intro w4 hb4
 simp only [Act.put, zA, zB, zC]
 refine Ks.call rfl 64 #[.pointer (some ⟨W, 0, none⟩), .int .i64 1, .string ⟨Gw.keyA.toArray⟩] (by kernel_rfl) (R := fun v w' => v = .bool true ∧ (∃ ps', WAt w.heap.size w' W B K ps' 1 ∧ ps'.length = 1) ∧ Below w.heap.size w4 w') ((makes_f 1 Gw.keyA w4 (HW.out.below hb4) (by omega)).mono ?_) ?_
 ·rintro e w' ⟨e1, ⟨ps', h1, h2, _⟩, h3⟩
  exact ⟨_, e1, rfl, ⟨ps', h1, h2 ⟨by decide, keyA_good⟩⟩, h3⟩
 rintro v w5 ⟨rfl, ⟨ps5, hW5, hl5⟩, hb5⟩
 have HW5 : Hid (WAt w.heap.size w5 W B K ps5 1) := hW5
 have HB5 : Hid (Below w.heap.size w w5) := (HB.out.trans (hb4.mono HB.out.size)).trans hb5
 clear hW5 hb5 hb4 HW HB
 simp only [Act.put, zA, zB, zC]
 refine Ks.v (.bool true) ?_
 simp only [Act.put, zA, zB, zC]
 refine Ks.done ?_
 refine wp_seq ?_
 refine Ks.reg ?_
 refine Ks.v (.pointer (some ⟨W, 0, none⟩)) ?_
 simp only [Act.put, zA, zB, zC]
 refine Ks.pure (by kernel_rfl) 16 #[] (by kernel_rfl) (Gw.lkey_f w5) ?_
 intro w6 hb6
 simp only [Act.put, zA, zB, zC]
 refine Ks.call rfl 64 #[.pointer (some ⟨W, 0, none⟩), .int .i64 2, .string ⟨Gw.keyA.toArray⟩] (by kernel_rfl) (R := fun v w' => v = .bool true ∧ (∃ ps', WAt w.heap.size w' W B K ps' 2 ∧ ps'.length = 2) ∧ Below w.heap.size w6 w') ((makes_f 2 Gw.keyA w6 (HW5.out.below hb6) (by omega)).mono ?_) ?_
 ·rintro e w' ⟨e1, ⟨ps', h1, h2, _⟩, h3⟩
  exact ⟨_, e1, rfl, ⟨ps', h1, by rw [h2 ⟨by decide, keyA_good⟩, hl5]⟩, h3⟩
 rintro v w7 ⟨rfl, ⟨ps7, hW7, hl7⟩, hb7⟩
 have HW7 : Hid (WAt w.heap.size w7 W B K ps7 2) := hW7
 have HB7 : Hid (Below w.heap.size w w7) := (HB5.out.trans (hb6.mono HB5.out.size)).trans hb7
 clear hW7 hb7 hb6 HW5 HB5
 simp only [Act.put, zA, zB, zC]
 refine Ks.v (.bool true) ?_
 simp only [Act.put, zA, zB, zC]
 refine Ks.done ?_
 refine wp_seq ?_
 refine wp_seq ?_
 refine Ks.reg ?_
 refine Ks.v (.bool true) ?_
 simp only [Act.put, zA, zB, zC]
 refine Ks.v (.bool false) ?_
 simp only [Act.put, zA, zB, zC]
 refine Ks.v (.bool false) ?_
 simp only [Act.put, zA, zB, zC]
 refine Ks.valg (by kernel_rfl) (.bool true) (by kernel_rfl) ?_
 simp only [Act.put, zA, zB, zC]
 refine Ks.valg (by kernel_rfl) (.bool false) (by kernel_rfl) ?_
 simp only [Act.put, zA, zB, zC]
 refine Ks.v (.bool false) ?_
 simp only [Act.put, zA, zB, zC]
 refine Ks.v (.bool false) ?_
 simp only [Act.put, zA, zB, zC]
 refine Ks.valg (by kernel_rfl) (.pointer (some ⟨W, 0, none⟩)) (by kernel_rfl) ?_
 simp only [Act.put, zA, zB, zC]
 refine Ks.valg (by kernel_rfl) (.pointer (some ⟨W, 0, none⟩)) (by kernel_rfl) ?_
 simp only [Act.put, zA, zB, zC]
 refine Ks.valg (by kernel_rfl) (.pointer (some ⟨W, 1, none⟩)) (by kernel_rfl) ?_
 simp only [Act.put, zA, zB, zC]
 obtain ⟨lv7, hw7, _, hv7⟩ := HW7.out.list
 refine Ks.cellg (by kernel_rfl) _ _ rfl Tryz.underlying121 rfl W 1 lv7 rfl (row_at hw7 1 rfl) ?_
 simp only [Act.put, zA, zB, zC]
 refine Ks.valg (by kernel_rfl) (.int .i64 2) (by
  rcases hv7 with ⟨_, h⟩ | ⟨gb, cp, rfl, _⟩
  ·omega
  ·rw [hl7]
   kernel_rfl) ?_
 simp only [Act.put, zA, zB, zC]
 refine Ks.valg (by kernel_rfl) (.bool false) (by kernel_rfl) ?_
 simp only [Act.put, zA, zB, zC]
 refine Ks.v (.bool false) ?_
 simp only [Act.put, zA, zB, zC]
 clear hw7 hv7
 refine Ks.done ?_
 refine wp_cond_false rfl ?_
 refine wp_skip ?_
 refine Ks.norm ?_
 refine wp_seq ?_
 refine wp_seq ?_
 refine Ks.reg ?_
 refine Ks.v (.int .i64 0) ?_
 simp only [Act.put, zA, zB, zC]
 refine Ks.done ?_
 refine wp_block ?_
 have start : ∀ a1 : Act, a1 = pFrame (.slice a0 os.length cap) W (.int .i64 ((0 : Nat) : Int)) (a1.tmps.getD 11 undef) (fun j => a1.tmps.getD j undef) → ∃ (k : Nat) (k2 : Value) (f : Nat → Value) (ps : List Pr), a1 = pFrame (.slice a0 os.length cap) W (.int .i64 (k : Int)) k2 f ∧ k ≤ os.length ∧ os.length = os.length - k ∧ WAt w.heap.size w7 W B K ps (k + 2) ∧ 0 < ps.length ∧ Below w.heap.size w w7 :=
  fun a1 h => ⟨0, _, _, ps7, h, Nat.zero_le _, rfl, HW7.out, by omega, HB7.out⟩
 refine Ks.loop (fun m a1 wr => ∃ (k : Nat) (k2 : Value) (f : Nat → Value) (ps : List Pr), a1 = pFrame (.slice a0 os.length cap) W (.int .i64 (k : Int)) k2 f ∧ k ≤ os.length ∧ m = os.length - k ∧ WAt w.heap.size wr W B K ps (k + 2) ∧ 0 < ps.length ∧ Below w.heap.size w wr) os.length (start _ rfl) ?_
 clear start HW7 HB7 hl7 hl5
 rintro m a1 wr ⟨k, k2, f, ps, rfl, hk, rfl, hW, hp0, hB⟩
 have fin : ∀ (a' : Act) (w' : World) (ps' : List Pr), a' = pFrame (.slice a0 os.length cap) W (.int .i64 ((k + 1 : Nat) : Int)) (a'.tmps.getD 11 undef) (fun j => a'.tmps.getD j undef) → k < os.length → WAt w.heap.size w' W B K ps' (k + 3) → 0 < ps'.length → Below w.heap.size w w' → ∃ m, m < os.length - k ∧ ∃ (k : Nat) (k2 : Value) (f : Nat → Value) (ps : List Pr), a' = pFrame (.slice a0 os.length cap) W (.int .i64 (k : Int)) k2 f ∧ k ≤ os.length ∧ m = os.length - k ∧ WAt w.heap.size w' W B K ps (k + 2) ∧ 0 < ps.length ∧ Below w.heap.size w w' :=
  fun a' w' ps' h1 h2 h3 h4 h5 => ⟨os.length - (k + 1), by omega, k + 1, _, _, ps', h1, h2, rfl, h3, h4, h5⟩
 have Hfin : Hid _ := fin
 clear fin
 have HW : Hid (WAt w.heap.size wr W B K ps (k + 2)) := hW
 have HB : Hid (Below w.heap.size w wr) := hB
 clear hW hB
 unfold pFrame
 refine wp_seq ?_
 refine wp_seq ?_
 refine Ks.reg ?_
 refine Ks.v (.int .i64 (k : Int)) ?_
 simp only [Act.put, zA, zB, zC]
 refine Ks.v (.slice a0 os.length cap) ?_
 simp only [Act.put, zA, zB, zC]
 refine Ks.v (.int .i64 (os.length : Int)) ?_
 simp only [Act.put, zA, zB, zC]
 refine Ks.v (.bool (decide ((k : Int) < os.length))) ?_
 simp only [Act.put, zA, zB, zC]
 refine Ks.done ?_
 refine wp_cond_split rfl ?_ ?_
 ·intro hlt
  have hlt : k < os.length := by have := of_decide_eq_true hlt; omega
  obtain ⟨o, ho⟩ : ∃ o, os[k]? = some o := ⟨_, List.getElem?_eq_getElem hlt⟩
  obtain ⟨sb, so, rfl, hr⟩ := HS.out.resolve_left (fun e => by rw [e] at hlt; simp at hlt)
  have hro := hr k o ho
  have hsl : sb < w.heap.size := block_lt_of_cell (hro 0 _ rfl)
  have HR : Hid (wr.rangeAt sb (so + k * 9) (spC o)) := range_below hro HB.out hsl
  clear hr hro
  refine wp_skip ?_
  refine Ks.norm ?_
  refine wp_seq ?_
  refine wp_block ?_
  refine wp_seq ?_
  refine wp_seq ?_
  refine Ks.reg ?_
  refine Ks.v (.slice (some ⟨sb, so, none⟩) os.length cap) ?_
  simp only [Act.put, zA, zB, zC]
  refine Ks.v (.int .i64 (k : Int)) ?_
  simp only [Act.put, zA, zB, zC]
  refine Ks.idxo (by kernel_rfl) _ _ _ rfl 126 9 Tryz.underlying53 (by kernel_rfl) (by kernel_rfl) sb so _ cap k rfl rfl hlt ?_
  simp only [Act.put, zA, zB, zC]
  refine Ks.v (.pointer (some ⟨sb, so + k * 9, none⟩)) ?_
  simp only [Act.put, zA, zB, zC]
  refine Ks.cell rfl _ _ rfl Tryz.underlying3 rfl sb (so + k * 9) (.int .i64 o.kind) rfl (HR.out 0 _ rfl) ?_
  simp only [Act.put, zA, zB, zC]
  refine Ks.v (.int .i64 4) ?_
  simp only [Act.put, zA, zB, zC]
  by_cases h4 : 4 < o.kind
  ·refine Ks.val rfl (.bool true) (by simp [execOp, go_sem, h4]) ?_
   simp only [Act.put, zA, zB, zC]
   refine Ks.done ?_
   refine wp_cond_true rfl ?_
   refine wp_exit ?_
   refine Ks.exit1 ?_
   refine Ks.norm ?_
   refine Ks.reg ?_
   refine Ks.v (.int .i64 (k : Int)) ?_
   simp only [Act.put, zA, zB, zC]
   refine Ks.val rfl (.int .i64 ((k + 1 : Nat) : Int)) (by
    simp [execOp, go_sem]
    rw [IntWalk.i64_in _ ⟨by omega, by omega⟩]) ?_
   simp only [Act.put, zA, zB, zC]
   refine Ks.v (.int .i64 ((k + 1 : Nat) : Int)) ?_
   simp only [Act.put, zA, zB, zC]
   refine Ks.done ?_
   exact Hfin.out _ _ ps rfl hlt (HW.out.more (by omega)) hp0 HB.out
  ·refine Ks.val rfl (.bool false) (by simp [execOp, go_sem, h4]) ?_
   simp only [Act.put, zA, zB, zC]
   refine Ks.done ?_
   refine wp_cond_false rfl ?_
   refine wp_skip ?_
   refine Ks.norm ?_
   refine wp_seq ?_
   refine Ks.reg ?_
   refine Ks.v (.pointer (some ⟨W, 0, none⟩)) ?_
   simp only [Act.put, zA, zB, zC]
   refine Ks.v (.slice (some ⟨sb, so, none⟩) os.length cap) ?_
   simp only [Act.put, zA, zB, zC]
   refine Ks.v (.int .i64 (k : Int)) ?_
   simp only [Act.put, zA, zB, zC]
   refine Ks.idxo (by kernel_rfl) _ _ _ rfl 126 9 Tryz.underlying53 (by kernel_rfl) (by kernel_rfl) sb so _ cap k rfl rfl hlt ?_
   simp only [Act.put, zA, zB, zC]
   refine Ks.mid rfl _ _ rfl sb (so + k * 9) rfl (spC o) HR.out Tryz.underlying126 rfl (by kernel_rfl) ?_
   simp only [Act.put, zA, zB, zC]
   refine Ks.call rfl 65 #[.pointer (some ⟨W, 0, none⟩), .agg (spC o).toArray] (by kernel_rfl) (R := fun v w' => v = .bool true ∧ (∃ ps', WAt w.heap.size w' W B K ps' (k + 3) ∧ ps.length ≤ ps'.length) ∧ Below w.heap.size wr w') ((step_f o wr HW.out (by omega) hp0 (by omega) (HN.out o (List.mem_of_getElem? ho)) (HT.out.below HB.out h0) h0).mono ?_) ?_
   ·rintro e w' ⟨e1, e2, e3⟩
    exact ⟨_, e1, rfl, e2, e3⟩
   rintro v w8 ⟨rfl, ⟨ps8, hW8, hp8⟩, hb8⟩
   have HW8 : Hid (WAt w.heap.size w8 W B K ps8 (k + 3)) := hW8
   have HB8 : Hid (Below w.heap.size w w8) := HB.out.trans hb8
   clear hW8 hb8 HW HB HR
   simp only [Act.put, zA, zB, zC]
   refine Ks.v (.bool true) ?_
   simp only [Act.put, zA, zB, zC]
   refine Ks.done ?_
   refine wp_seq ?_
   refine Ks.reg ?_
   refine Ks.v (.pointer (some ⟨W, 0, none⟩)) ?_
   simp only [Act.put, zA, zB, zC]
   refine Ks.v (.pointer (some ⟨W, 0, none⟩)) ?_
   simp only [Act.put, zA, zB, zC]
   refine Ks.v (.pointer (some ⟨W, 0, none⟩)) ?_
   simp only [Act.put, zA, zB, zC]
   obtain ⟨lv8, hw8, hbk8, _⟩ := HW8.out.list
   refine Ks.cell rfl _ _ rfl Tryz.underlying23 rfl W 0 (.pointer (some ⟨B, 0, none⟩)) rfl (row_at hw8 0 rfl) ?_
   simp only [Act.put, zA, zB, zC]
   refine Ks.pure (by kernel_rfl) 17 #[.pointer (some ⟨B, 0, none⟩)] (by kernel_rfl) (looks_f w8 hbk8) ?_
   intro w9 hb9
   have HW9 : Hid (WAt w.heap.size w9 W B K ps8 (k + 3)) := HW8.out.below hb9
   have HB9 : Hid (Below w.heap.size w w9) := HB8.out.trans (hb9.mono HB8.out.size)
   clear hw8 hbk8 hb9 HW8 HB8
   simp only [Act.put, zA, zB, zC]
   refine Ks.v (.bool true) ?_
   simp only [Act.put, zA, zB, zC]
   refine Ks.done ?_
   refine wp_seq ?_
   refine Ks.reg ?_
   refine Ks.v (.bool true) ?_
   simp only [Act.put, zA, zB, zC]
   refine Ks.v (.bool false) ?_
   simp only [Act.put, zA, zB, zC]
   refine Ks.v (.bool false) ?_
   simp only [Act.put, zA, zB, zC]
   refine Ks.valg (by kernel_rfl) (.bool true) (by kernel_rfl) ?_
   simp only [Act.put, zA, zB, zC]
   refine Ks.valg (by kernel_rfl) (.bool false) (by kernel_rfl) ?_
   simp only [Act.put, zA, zB, zC]
   refine Ks.v (.bool false) ?_
   simp only [Act.put, zA, zB, zC]
   refine Ks.done ?_
   refine wp_cond_false rfl ?_
   refine wp_skip ?_
   refine Ks.inb ?_
   refine Ks.reg ?_
   refine Ks.v (.int .i64 (k : Int)) ?_
   simp only [Act.put, zA, zB, zC]
   refine Ks.val rfl (.int .i64 ((k + 1 : Nat) : Int)) (by
    simp [execOp, go_sem]
    rw [IntWalk.i64_in _ ⟨by omega, by omega⟩]) ?_
   simp only [Act.put, zA, zB, zC]
   refine Ks.v (.int .i64 ((k + 1 : Nat) : Int)) ?_
   simp only [Act.put, zA, zB, zC]
   refine Ks.done ?_
   exact Hfin.out _ _ ps8 rfl hlt HW9.out (by omega) HB9.out
 ·intro hge
  refine wp_exit ?_
  refine Ks.exit2 ?_
  refine Ks.norm ?_
  clear Hfin
  refine wp_seq ?_
  refine wp_seq ?_
  refine Ks.reg ?_
  refine Ks.v (.int .i64 0) ?_
  simp only [Act.put, zA, zB, zC]
  refine Ks.done ?_
  refine wp_block ?_
  have hpn := HW.out.few
  have start : ∀ a1 : Act, a1 = pFrame (.slice a0 os.length cap) W (a1.tmps.getD 8 undef) (.int .i64 ((0 : Nat) : Int)) (fun j => a1.tmps.getD j undef) → ∃ (i : Nat) (k1 : Value) (f : Nat → Value), a1 = pFrame (.slice a0 os.length cap) W k1 (.int .i64 (i : Int)) f ∧ i ≤ ps.length ∧ ps.length = ps.length - i ∧ Below wr.heap.size wr wr :=
   fun a1 h => ⟨0, _, _, h, Nat.zero_le _, rfl, Below.refl _ _⟩
  refine Ks.loop (fun m a1 wq => ∃ (i : Nat) (k1 : Value) (f : Nat → Value), a1 = pFrame (.slice a0 os.length cap) W k1 (.int .i64 (i : Int)) f ∧ i ≤ ps.length ∧ m = ps.length - i ∧ Below wr.heap.size wr wq) ps.length (start _ rfl) ?_
  clear start
  rintro m a1 wq ⟨i, k1, f2, rfl, hi, rfl, hbq⟩
  have fin : ∀ (a' : Act) (w' : World), a' = pFrame (.slice a0 os.length cap) W (a'.tmps.getD 8 undef) (.int .i64 ((i + 1 : Nat) : Int)) (fun j => a'.tmps.getD j undef) → i < ps.length → Below wr.heap.size wr w' → ∃ m, m < ps.length - i ∧ ∃ (i : Nat) (k1 : Value) (f : Nat → Value), a' = pFrame (.slice a0 os.length cap) W k1 (.int .i64 (i : Int)) f ∧ i ≤ ps.length ∧ m = ps.length - i ∧ Below wr.heap.size wr w' :=
   fun a' w' h1 h2 h3 => ⟨ps.length - (i + 1), by omega, i + 1, _, _, h1, h2, rfl, h3⟩
  have Hfin : Hid _ := fin
  clear fin
  have HWq : Hid (WAt w.heap.size wq W B K ps (k + 2)) := HW.out.below hbq
  have HBq : Hid (Below wr.heap.size wr wq) := hbq
  clear hbq
  obtain ⟨lv, hw, hbk, hv⟩ := HWq.out.list
  have HX : Hid (wq.heap[W]? = some (.cells (worldC B K lv) 123 (0, 0))) := hw
  have HK : Hid (wq.heap[B]? = some (.cells bookZ 32 (0, 0))) := hbk
  have hWl := (Array.getElem?_eq_some_iff.1 hw).1
  clear hw hbk
  unfold pFrame
  refine wp_seq ?_
  refine wp_seq ?_
  refine Ks.reg ?_
  refine Ks.v (.int .i64 (i : Int)) ?_
  simp only [Act.put, zA, zB, zC]
  refine Ks.v (.pointer (some ⟨W, 0, none⟩)) ?_
  simp only [Act.put, zA, zB, zC]
  refine Ks.v (.pointer (some ⟨W, 0, none⟩)) ?_
  simp only [Act.put, zA, zB, zC]
  refine Ks.v (.pointer (some ⟨W, 1, none⟩)) ?_
  simp only [Act.put, zA, zB, zC]
  refine Ks.cell rfl _ _ rfl Tryz.underlying121 rfl W 1 lv rfl (row_at HX.out 1 rfl) ?_
  simp only [Act.put, zA, zB, zC]
  refine Ks.val rfl (.int .i64 (ps.length : Int)) (by
   rcases hv with ⟨rfl, h⟩ | ⟨gb, cp, rfl, _⟩
   ·rw [h]
    kernel_rfl
   ·kernel_rfl) ?_
  simp only [Act.put, zA, zB, zC]
  refine Ks.v (.bool (decide ((i : Int) < ps.length))) ?_
  simp only [Act.put, zA, zB, zC]
  refine Ks.done ?_
  refine wp_cond_split rfl ?_ ?_
  ·intro hlt
   have hlt : i < ps.length := by have := of_decide_eq_true hlt; omega
   obtain ⟨p, hp⟩ : ∃ p, ps[i]? = some p := ⟨_, List.getElem?_eq_getElem hlt⟩
   obtain ⟨gb, cp, rfl, hgl, hr⟩ := hv.resolve_left (fun e => by omega)
   have HR : Hid (wq.rangeAt gb (i * 2) (prC p)) := hr i p hp
   obtain ⟨S, S', hgx, hgy, hI⟩ := HWq.out.gate hp
   clear hr hv
   refine wp_skip ?_
   refine Ks.norm ?_
   refine wp_seq ?_
   refine wp_block ?_
   refine wp_seq ?_
   refine wp_seq ?_
   refine Qt.wp_all (by kernel_rfl) (by kernel_rfl) ?_
   refine Qt.y_val rfl (.pointer (some ⟨W, 0, none⟩)) (fun _ _ => by kernel_rfl) ?_
   refine Qt.y_val rfl (.pointer (some ⟨W, 0, none⟩)) (fun _ _ => by kernel_rfl) ?_
   refine Qt.y_val rfl (.pointer (some ⟨W, 1, none⟩)) (fun _ _ => by kernel_rfl) ?_
   simp only [Act.put, zA, zB, zC]
   refine y_cell rfl _ _ rfl Tryz.underlying121 rfl W 1 (.slice (some ⟨gb, 0, none⟩) ps.length cp) rfl hWl (row_at HX.out 1 rfl) ?_
   simp only [Act.put, zA, zB, zC]
   refine Qt.y_val rfl (.int .i64 (i : Int)) (fun _ _ => by kernel_rfl) ?_
   simp only [Act.put, zA, zB, zC]
   refine Ks.y_idx rfl _ _ _ rfl 132 2 Tryz.underlying121 (by kernel_rfl) (by kernel_rfl) gb ps.length cp i rfl rfl hlt ?_
   simp only [Act.put, zA, zB, zC]
   refine Qt.y_val rfl (.pointer (some ⟨gb, i * 2, none⟩)) (fun _ _ => by kernel_rfl) ?_
   simp only [Act.put, zA, zB, zC]
   refine y_cell rfl _ _ rfl Tryz.underlying62 rfl gb (i * 2) (.pointer (some ⟨p.x, 0, none⟩)) rfl hgl (HR.out 0 _ rfl) ?_
   simp only [Act.put, zA, zB, zC]
   refine Qt.y_call rfl 66 #[.pointer (some ⟨p.x, 0, none⟩)] (.agg (stC p.s)) (fun _ => by kernel_rfl) (fun w' hb => look_p (hgx.below hb)) ?_
   simp only [Act.put, zA, zB, zC]
   refine Qt.y_val rfl (.pointer (some ⟨W, 0, none⟩)) (fun _ _ => by kernel_rfl) ?_
   refine Qt.y_val rfl (.pointer (some ⟨W, 0, none⟩)) (fun _ _ => by kernel_rfl) ?_
   refine Qt.y_val rfl (.pointer (some ⟨W, 1, none⟩)) (fun _ _ => by kernel_rfl) ?_
   simp only [Act.put, zA, zB, zC]
   refine y_cell rfl _ _ rfl Tryz.underlying121 rfl W 1 (.slice (some ⟨gb, 0, none⟩) ps.length cp) rfl hWl (row_at HX.out 1 rfl) ?_
   simp only [Act.put, zA, zB, zC]
   refine Qt.y_val rfl (.int .i64 (i : Int)) (fun _ _ => by kernel_rfl) ?_
   simp only [Act.put, zA, zB, zC]
   refine Ks.y_idx rfl _ _ _ rfl 132 2 Tryz.underlying121 (by kernel_rfl) (by kernel_rfl) gb ps.length cp i rfl rfl hlt ?_
   simp only [Act.put, zA, zB, zC]
   refine Qt.y_val rfl (.pointer (some ⟨gb, i * 2 + 1, none⟩)) (fun _ _ => by kernel_rfl) ?_
   simp only [Act.put, zA, zB, zC]
   refine y_cell rfl _ _ rfl Tryz.underlying130 rfl gb (i * 2 + 1) (.pointer (some ⟨p.y, 0, none⟩)) rfl hgl (HR.out 1 _ rfl) ?_
   simp only [Act.put, zA, zB, zC]
   refine Qt.y_call rfl 67 #[.pointer (some ⟨p.y, 0, none⟩)] (.agg (stC p.s)) (fun _ => by kernel_rfl) (fun w' hb => look_r (hgy.below hb) (Nat.le_trans hI.few (by omega))) ?_
   simp only [Act.put, zA, zB, zC]
   refine Qt.y_val rfl (.bool false) (fun w' _ => Ks.exec_ne _ _ _ _ rfl (stC p.s) (stC p.s) rfl rfl (by kernel_rfl) true (eq_state p.s w')) ?_
   simp only [Act.put, zA, zB, zC]
   refine Qt.y_nil ?_
   intro w9 hb9
   have HB9 : Hid (Below wr.heap.size wr w9) := HBq.out.trans (hb9.mono HBq.out.size)
   clear hb9
   refine Ks.norm ?_
   refine wp_cond_false rfl ?_
   refine wp_skip ?_
   refine Ks.norm ?_
   refine wp_seq ?_
   refine Ks.reg ?_
   refine Ks.v (.int .i64 4) ?_
   simp only [Act.put, zA, zB, zC]
   refine Ks.v (.bool false) ?_
   simp only [Act.put, zA, zB, zC]
   refine Ks.done ?_
   refine wp_cond_false rfl ?_
   refine wp_skip ?_
   refine Ks.inb ?_
   refine Ks.reg ?_
   refine Ks.v (.int .i64 (i : Int)) ?_
   simp only [Act.put, zA, zB, zC]
   refine Ks.val rfl (.int .i64 ((i + 1 : Nat) : Int)) (by
    simp [execOp, go_sem]
    rw [IntWalk.i64_in _ ⟨by omega, by omega⟩]) ?_
   simp only [Act.put, zA, zB, zC]
   refine Ks.v (.int .i64 ((i + 1 : Nat) : Int)) ?_
   simp only [Act.put, zA, zB, zC]
   refine Ks.done ?_
   exact Hfin.out _ _ rfl hlt HB9.out
  ·intro hge2
   refine wp_exit ?_
   refine Ks.exit2 ?_
   refine Ks.norm ?_
   refine wp_seq ?_
   refine Ks.reg ?_
   refine Ks.v (.pointer (some ⟨W, 0, none⟩)) ?_
   simp only [Act.put, zA, zB, zC]
   refine Ks.v (.pointer (some ⟨W, 0, none⟩)) ?_
   simp only [Act.put, zA, zB, zC]
   refine Ks.v (.pointer (some ⟨W, 0, none⟩)) ?_
   simp only [Act.put, zA, zB, zC]
   refine Ks.cell rfl _ _ rfl Tryz.underlying23 rfl W 0 (.pointer (some ⟨B, 0, none⟩)) rfl (row_at HX.out 0 rfl) ?_
   simp only [Act.put, zA, zB, zC]
   refine Ks.pure (by kernel_rfl) 17 #[.pointer (some ⟨B, 0, none⟩)] (by kernel_rfl) (looks_f wq HK.out) ?_
   intro w9 hb9
   simp only [Act.put, zA, zB, zC]
   refine Ks.v (.bool true) ?_
   simp only [Act.put, zA, zB, zC]
   refine Ks.done ?_
   refine wp_ret ?_
   repeat (refine Ks.ret ?_)
   refine bodyPost_ret (v := .bool true) (by simp [results, Tryz.results23]) rfl ?_
   exact ⟨rfl, (HB.out.trans (HBq.out.mono HB.out.size)).trans (hb9.mono (Nat.le_trans HB.out.size HBq.out.size))⟩
theorem gates_f (w : World) (a0 : Option Addr) (cap : Nat) (os : List Sp) (hs : Scr w a0 os) (ht : Hs.TabAt w) (hon : ∀ o ∈ os, -9223372036854775808 ≤ o.on ∧ o.on < 9223372036854775808) (hn : os.length ≤ 1000000000) :
  Calls Tryz.prog 5 #[.slice a0 os.length cap] w fun e w' => e = .returned (.bool true) ∧ Below w.heap.size w w' := by
 go_enter Tryz.func5, Tryz.ntmps5
 refine wp_seq ?_
 refine Ks.reg ?_
 refine Ks.v (.bool false) ?_
 simp only [Act.put, zA, zB, zC]
 refine Ks.done ?_
 refine wp_seq ?_
 refine Ks.reg ?_
 refine Ks.v (.slice a0 os.length cap) ?_
 simp only [Act.put, zA, zB, zC]
 refine Ks.pure (by kernel_rfl) 23 #[.slice a0 os.length cap, .int .i64 4] (by kernel_rfl) (plays_f w a0 cap os hs ht hon hn) ?_
 intro w1 hb1
 simp only [Act.put, zA, zB, zC]
 refine Ks.v (.bool true) ?_
 simp only [Act.put, zA, zB, zC]
 refine Ks.done ?_
 refine wp_ret ?_
 repeat (refine Ks.ret ?_)
 refine bodyPost_ret (v := .bool true) (by simp [results, Tryz.results5]) rfl ?_
 exact ⟨rfl, hb1⟩
end Gt
end Go.Proofs.YtbojijefenfbgaaGreatDoor
namespace Go.Proofs.YtbojijefenfbgaaGreatDoor.GatesP
open Go.ChangeShapes Go.WideShapes Go.ChangeAt Go.RowKit
theorem leaves {P : Program} {last : Machine} {w : World} {t : Trace} (h : aloneAtReturn P last w t) : leavingAtReturn P last w t := by
 obtain ⟨⟨h1, h2⟩, h3, h4⟩ := h
 refine ⟨h3, ⟨fun g hg => ⟨0, ?_⟩, h2⟩, h4⟩
 have := List.all_eq_true.1 h1 g hg
 show g.status = .finished
 exact eq_of_beq this
theorem of_alone {p : Pinned} {s : OpenSpec} {c : OpenClaim} (hl : c.leaving = true) (ha : c.again = false) (hstart : c.start = .entering) (hst : c.stops = []) (h : ({ c with leaving := false } : OpenClaim).holds p s) : c.holds p s := by
 unfold OpenClaim.holds at h ⊢
 obtain ⟨a1, a2, a3, a4, a5, a6, a7, a8, f, fn, g1, g2, r, b1, b2, b3, b4, b5, k, c1, c2, c3, c4, c5, c6, m, l, q, n1, v1, e1, L, hL, all⟩ := h
 refine ⟨?_, a2, a3, a4, a5, a6, a7, a8, f, fn, g1, g2, r, b1, b2, b3, b4, b5, k, c1, c2, c3, c4, c5, c6, m, l, q, n1, v1, e1, L, hL, fun os x y H enc inj => ?_⟩
 ·cases c
  simp only at hl ha
  subst hl ha
  exact a1
 ·have A := all os x y H enc inj
  unfold OpenClaim.form at A ⊢
  simp only [hstart, hst] at A ⊢
  intro F
  obtain ⟨q1, q2, q3, q4, q5⟩ := A F
  refine ⟨q1, q2, q3, q4, fun w tape i hf => ?_⟩
  obtain ⟨n, v, w', d1, d2, d3, d4, ⟨j, last, d5, d6, d7⟩, d8⟩ := q5 w tape i hf
  refine ⟨n, v, w', d1, d2, d3, d4, ⟨j, last, d5, d6, ?_⟩, d8⟩
  unfold OpenClaim.atReturn at d7 ⊢
  rw [hl]
  exact leaves d7
theorem own : ownKnob Tryz.prog.godebug = none := by kernel_rfl
theorem laidOut : laidOutB Tryz.prog = true := by kernel_rfl
theorem gTab : Tryz.prog.globalNamed "postern/hash.roundWords" = some 0 := by kernel_rfl
theorem gTabType : (Tryz.prog.globals[0]?).map (·.type) = some 179 := by kernel_rfl
theorem cellsTab : Tryz.prog.cellsOf 179 = 80 := by kernel_rfl
theorem cellsU : Tryz.prog.cellsOf 159 = 1 := by kernel_rfl
def tabZs : List Int := Sha.K.map un
theorem laid_eq : (Rows.laid_postern_hash_roundWords : DataW Unit) = Lib.tabData .u64 tabZs := by kernel_rfl
theorem table {W : World} (h : laidMetH Tryz.prog Rows.gatesRow.laid W) : Hs.TabAt W := by
 have h1 : laidMetH Tryz.prog [("postern/hash.roundWords", Rows.laid_postern_hash_roundWords)] W := h
 rw [laid_eq] at h1
 have ht : Lib.TabIs Tryz.prog W "postern/hash.roundWords" .u64 tabZs := Lib.tabIs_of_head (rest := []) gTab gTabType Tryz.underlying179 Tryz.underlying159 cellsU cellsTab h1
 intro k hk
 have hk' : k < tabZs.length := by unfold tabZs; rw [List.length_map, Sha.K_length]; exact hk
 have hc := ht.cell gTab k hk'
 rw [hc]
 unfold tabZs Sha.kAt
 simp [List.getElem_map, show k < Sha.K.length from hk]
theorem one_bulk {H : Type} (d : DataW H) : 1 ≤ Rows.uptoBulk d := by
 cases d with
 | lit l => cases l <;> simp [Rows.uptoBulk]
 | _ => simp [Rows.uptoBulk]
theorem bulk_len {H : Type} (l : List (DataW H)) : l.length ≤ Rows.uptoBulkAll l := by
 induction l with
 | nil => simp
 | cons d r ih =>
  have := one_bulk d
  simp only [List.length_cons, Rows.uptoBulkAll]
  omega
theorem collect {α : Type} {Q : Nat → α → Prop} : ∀ (n : Nat), (∀ i, i < n → ∃ a, Q i a) → ∃ l : List α, l.length = n ∧ ∀ (i : Nat) (a : α), l[i]? = some a → Q i a
 | 0, _ => ⟨[], rfl, fun i a h => by simp at h⟩
 | n + 1, h => by
  obtain ⟨l, hl, hq⟩ := collect n fun i hi => h i (by omega)
  obtain ⟨a, ha⟩ := h n (by omega)
  refine ⟨l ++ [a], by simp [hl], fun i b hb => ?_⟩
  by_cases hi : i < n
  ·rw [List.getElem?_append_left (by omega)] at hb
   exact hq i b hb
  ·have hlt := (List.getElem?_eq_some_iff.1 hb).1
   simp [hl] at hlt
   obtain rfl : i = n := by omega
   rw [List.getElem?_append_right (by omega), hl, Nat.sub_self] at hb
   simp at hb
   rw [← hb]
   exact ha
theorem nine : ∀ {cs : List Value}, cs.length = 9 → ∃ a b c d e f g h i, cs = [a, b, c, d, e, f, g, h, i]
 | [a, b, c, d, e, f, g, h, i], _ => ⟨a, b, c, d, e, f, g, h, i, rfl⟩
theorem cellsOp : Tryz.prog.cellsOf 126 = 9 := by kernel_rfl
theorem cellsI : Tryz.prog.cellsOf 3 = 1 := by kernel_rfl
theorem cellsS : Tryz.prog.cellsOf 9 = 1 := by kernel_rfl
set_option maxRecDepth 100000 in
theorem op_cells {H : Type} {enc : TypeId × Value → H} {w : World} {base : Nat} {spare : Nat → Bool} {held : Bool} {fuel : Nat} {cs : List Value} {x : DataW H × List MemPlace} (h : DataW.trod enc Tryz.prog w base spare held fuel 126 cs = some x) : ∃ o : Gt.Sp, cs = Gt.spC o ∧ (-9223372036854775808 ≤ o.on ∧ o.on < 9223372036854775808) := by
 obtain ⟨xs, n, _, _, hl, hlen, hf⟩ := DataW.trod_struct Tryz.underlying126 h
 rw [cellsOp] at hl
 obtain ⟨a, b, c, d, e, f, g, i, j, rfl⟩ := nine hl
 have hlen' : xs.length = 7 := hlen
 have at' : ∀ k, k < 7 → ∃ y, xs[k]? = some y := fun k hk => ⟨_, List.getElem?_eq_getElem (by omega)⟩
 obtain ⟨y0, z0⟩ := at' 0 (by omega)
 obtain ⟨y1, z1⟩ := at' 1 (by omega)
 obtain ⟨y2, z2⟩ := at' 2 (by omega)
 obtain ⟨y3, z3⟩ := at' 3 (by omega)
 obtain ⟨y4, z4⟩ := at' 4 (by omega)
 have f0 : DataW.trod enc Tryz.prog w base spare held n 3 (([a, b, c, d, e, f, g, i, j].drop 0).take (Tryz.prog.cellsOf 3)) = some y0 := (hf 0 _ rfl).trans z0
 have f1 : DataW.trod enc Tryz.prog w base spare held n 3 (([a, b, c, d, e, f, g, i, j].drop 1).take (Tryz.prog.cellsOf 3)) = some y1 := (hf 1 _ rfl).trans z1
 have f2 : DataW.trod enc Tryz.prog w base spare held n 3 (([a, b, c, d, e, f, g, i, j].drop 2).take (Tryz.prog.cellsOf 3)) = some y2 := (hf 2 _ rfl).trans z2
 have f3 : DataW.trod enc Tryz.prog w base spare held n 3 (([a, b, c, d, e, f, g, i, j].drop 3).take (Tryz.prog.cellsOf 3)) = some y3 := (hf 3 _ rfl).trans z3
 have f4 : DataW.trod enc Tryz.prog w base spare held n 9 (([a, b, c, d, e, f, g, i, j].drop 4).take (Tryz.prog.cellsOf 9)) = some y4 := (hf 4 _ rfl).trans z4
 simp only [cellsI, cellsS, List.drop_succ_cons, List.drop_zero, List.take_succ_cons, List.take_zero] at f0 f1 f2 f3 f4
 obtain ⟨n0, e0, _, w0⟩ := DataW.trod_int Tryz.underlying3 f0
 obtain ⟨n1, e1, _, w1⟩ := DataW.trod_int Tryz.underlying3 f1
 obtain ⟨n2, e2, _, w2⟩ := DataW.trod_int Tryz.underlying3 f2
 obtain ⟨n3, e3, _, w3⟩ := DataW.trod_int Tryz.underlying3 f3
 obtain ⟨s4, e4, _, w4⟩ := DataW.trod_string Tryz.underlying9 f4
 simp only [List.cons.injEq, and_true] at e0 e1 e2 e3 e4
 refine ⟨⟨n0, n1, n2, n3, s4.data.toList, f, g, i, j⟩, ?_, ?_⟩
 ·rw [e0, e1, e2, e3, e4]
  rfl
 ·show -9223372036854775808 ≤ n1 ∧ n1 < 9223372036854775808
  simp [Lit.wf, IntKind.min, IntKind.max, IntKind.signed, IntKind.bits] at w1
  omega
theorem cells_get {w : World} {base : Nat} {a : Addr} {n : Nat} {cs : List Value} (h : w.cells? base a n = some cs) : cs.length = n ∧ ∀ (j : Nat) (v : Value), cs[j]? = some v → w.cell? (a.add j) = some v := by
 unfold World.cells? at h
 split at h
 ·have hl := mapM_some_length h
  simp at hl
  refine ⟨hl, fun j v hv => ?_⟩
  have hj : j < n := by rw [← hl]; exact (List.getElem?_eq_some_iff.1 hv).1
  have := mapM_some_get h j j (by simp [hj])
  rw [this, hv]
 ·cases h
set_option maxRecDepth 100000 in
theorem contract (H : Type) (enc : TypeId × Value → H) (W : World) (base : Nat) (args : Array Value) (ds gs : List (DataW H)) (before : List MemPlace)
  (hval : ∀ (j : Nat) t v, Tryz.f5.params[j]? = some t → args[j]? = some v → Value.okWide Tryz.prog W .any base t v)
  (hW : DataW.Whole enc Tryz.prog Tryz.f5.params.toList Rows.gatesSpec.vars false W args.toList ds gs before)
  (hk : Rows.uptoSmall H (ds ++ gs) = true) (hL : laidMetH Tryz.prog Rows.gatesRow.laid W) :
  Calls Tryz.prog 5 args W fun e W' => ∃ v, e = .returned v ∧ Rows.gatesSpec.post enc Tryz.prog Tryz.f5 false true false false W args v W' := by
 have hW' := hW
 obtain ⟨p, q, hA0, hV, rfl, hfz, hnd⟩ := hW
 have hA : DataW.TrodAll enc Tryz.prog W 0 (fun _ => true) true Tryz.f5.params.toList args.toList ds p := hA0
 rw [Tryz.params5] at hA hval
 obtain ⟨v0, vs0, d0, ds0, p0, q0, hargs, rfl, rfl, h0, r0⟩ := trodAll_cons hA
 obtain ⟨rfl, rfl, rfl⟩ := trodAll_nil r0
 obtain rfl : args = #[v0] := by cases args; simp_all
 obtain ⟨rfl, rfl⟩ := trodVars_none hV
 obtain ⟨a0, len, cap, rfl⟩ := okWide_slice Tryz.underlying53 (hval 0 53 v0 rfl rfl)
 have h0k := h0
 obtain ⟨fuel, hf⟩ := h0
 clear hA0
 simp only [List.append_nil] at hW' hk
 have htab := table hL
 have hlt : ∀ x ∈ p0, x.block < W.heap.size := fun x hx => by simpa using hW'.lt x hx
 unfold Rows.uptoSmall at hk
 have hbd := of_decide_eq_true hk
 have fin : ∀ (W' : World), Below W.heap.size W W' → Rows.gatesSpec.post enc Tryz.prog Tryz.f5 false true false false W #[.slice a0 len cap] (.bool true) W' := by
  intro W' hnx
  refine ⟨_, _, _, [], p0, [], hW', ?_, ?_, rfl, hnx.frame _, fun h => by cases h⟩
  ·exact trodAll_mk1 (shut_bool Tryz.underlying4 true)
  ·exact trodAll_mk1 (Below.trod laidOut (by kernel_rfl) (of_decide_eq_true (by kernel_rfl)) h0k hnx hlt)
 have use : ∀ ss : List Gt.Sp, len = ss.length → Gt.Scr W a0 ss → (∀ o ∈ ss, -9223372036854775808 ≤ o.on ∧ o.on < 9223372036854775808) → ss.length ≤ 1000000000 →
   Calls Tryz.prog 5 #[.slice a0 len cap] W fun e W' => ∃ v, e = .returned v ∧ Rows.gatesSpec.post enc Tryz.prog Tryz.f5 false true false false W #[.slice a0 len cap] v W' := by
  intro ss hl hp h1 h2
  have fin' := fin
  rw [hl] at fin' ⊢
  refine (Gt.gates_f W a0 cap ss hp htab h1 h2).mono fun e W' ⟨he, hb⟩ => ?_
  subst he
  exact ⟨_, rfl, fin' W' hb⟩
 rcases DataW.trod_slice Tryz.underlying53 hf with ⟨hcs, hx⟩ | ⟨a, len', cap', elems, rest, n, _, hcs, hx, _, hl, hm, hlen, hel, _⟩
 ·simp [Value.cells] at hcs
  obtain ⟨rfl, rfl, rfl⟩ := hcs
  exact use [] rfl (.inl rfl) (by simp) (by simp)
 ·simp [Value.cells] at hcs
  obtain ⟨rfl, rfl, rfl⟩ := hcs
  simp only [Prod.mk.injEq] at hx
  obtain ⟨rfl, _⟩ := hx
  simp only [Rows.uptoBulkAll, Rows.uptoBulk] at hbd
  have hb1 := bulk_len (elems.map (·.1))
  rw [List.length_map, hlen] at hb1
  obtain ⟨ss, hsl, hss⟩ := collect (Q := fun i (o : Gt.Sp) => (∀ (j : Nat) (v : Value), (Gt.spC o)[j]? = some v → W.cell? ((a.add (i * 9)).add j) = some v) ∧ (-9223372036854775808 ≤ o.on ∧ o.on < 9223372036854775808)) len fun i hi => by
   have h1 := hel i hi
   rw [List.getElem?_eq_getElem (by omega), Option.bind_eq_some_iff, cellsOp] at h1
   obtain ⟨cs, hc1, hc2⟩ := h1
   obtain ⟨o, rfl, ho⟩ := op_cells hc2
   exact ⟨o, (cells_get hc1).2, ho⟩
  refine use ss hsl.symm ?_ (fun o ho => ?_) (by omega)
  ·by_cases hl0 : len = 0
   ·exact .inl (List.length_eq_zero_iff.1 (by omega))
   ·obtain ⟨b, off, spot⟩ := a
    obtain ⟨o0, ho0⟩ : ∃ o, ss[0]? = some o := ⟨_, List.getElem?_eq_getElem (by omega)⟩
    have hspot : spot = none := by simpa [Addr.add] using World.cell?_spot ((hss 0 o0 ho0).1 0 _ rfl)
    subst hspot
    refine .inr ⟨b, off, rfl, fun i o hi j v hv => ?_⟩
    have := (hss i o hi).1 j v hv
    rw [Addr.add_mid, Addr.add_mid] at this
    exact this
  ·obtain ⟨i, hi⟩ := List.getElem?_of_mem ho
   exact (hss i o hi).2
noncomputable def laidWorld (os : Os) : World :=
 { World.holding Tryz.prog os ⟨#[], #[], []⟩ with heap := (World.holding Tryz.prog os ⟨#[], #[], []⟩).heap.modify 0 fun
   | .cells _ t frozen => .cells (Own.mkRow 80 kCell) t frozen
   | o => o }
theorem laid_met (os : Os) : laidMet Tryz.prog Rows.gatesRow.laid ((laidWorld os).forCall (fun _ _ => 0) ⟨#[], #[.slice none 0 0], []⟩).memory :=
 laidMet_of_run' 8 (by kernel_rfl) (by kernel_rfl)
theorem reads (os : Os) {H : Type} (enc : TypeId × Value → H) : ∃ places, DataW.whole enc Tryz.prog ((laidWorld os).forCall (fun _ _ => 0) ⟨#[], #[.slice none 0 0], []⟩).memory Tryz.f5.params.toList Rows.gatesSpec.vars false #[Value.slice none 0 0].toList 8 = some ([.nil], [], places) :=
 ⟨[], by kernel_rfl⟩
set_option maxRecDepth 100000 in
theorem liftedUpto (os : Os) (started : os.Started) (H : Type) (enc : TypeId × Value → H) (F : Stop.Interp) :
  ReturnsInHanded {} Tryz.checked os 5 .any ((Rows.OpenSpec.upto Rows.gatesSpec).preRow enc Tryz.prog Tryz.f5 Rows.gatesUptoRow.domain false Rows.gatesUptoRow.laid) (((Rows.OpenSpec.upto Rows.gatesSpec).at F).post enc Tryz.prog Tryz.f5 false true false false) := by
 obtain ⟨places, hx⟩ := reads os enc
 refine returnsInHanded_of_row (C := Tryz.checked) (s := Rows.OpenSpec.upto Rows.gatesSpec) own started (by kernel_rfl) Tryz.func5
  (witness_row_at (enc := enc) (C := Tryz.checked) false (laidWorld os) #[.slice none 0 0] rfl (by kernel_rfl) (by kernel_rfl) (by kernel_rfl)
   (OpenSpec.preRow_of_cond 8 hx (by kernel_rfl) (fun k hk => by cases hk; kernel_rfl) (by kernel_rfl) (laid_met os))) ?_
 intro W base args ds gs before hval hW _ hcond _ hL _ _
 exact contract H enc W base args ds gs before hval hW (hcond _ rfl) hL
end Go.Proofs.YtbojijefenfbgaaGreatDoor.GatesP
namespace Go.Proofs.YtbojijefenfbgaaGreatDoor.GatesP
def aloneRow : OpenClaim := { Rows.gatesUptoRow with leaving := false }
theorem and2 {a b : Bool} (h : a = true) (k : b = true) : (a && b) = true := by rw [h, k]; rfl
theorem k1 : (aloneRow.wf (OpenSpec.ofChange (Rows.OpenSpec.upto Rows.gatesSpec).bare)) = true := by kernel_rfl
theorem k2 : (laidOutB Tryz.pinned.checked.prog) = true := by kernel_rfl
theorem k3 : (mapsRowed Tryz.pinned.checked.prog) = true := by kernel_rfl
theorem k4 : (Tryz.f5.params.all (Tryz.pinned.checked.prog.readableRec ·)) = true := by kernel_rfl
theorem k5 : (namedTie Tryz.pinned.checked.prog aloneRow.named ((Rows.OpenSpec.upto Rows.gatesSpec).bare).vars) = true := by kernel_rfl
theorem k6 : ((aloneRow.stops == [])) = true := by kernel_rfl
theorem k7 : ((Tryz.pinned.checked.prog.stops == [])) = true := by kernel_rfl
theorem k8 : ((aloneRow.knobs == [])) = true := by kernel_rfl
theorem k9 : ((Tryz.pinned.checked.prog.stopKnobs == [])) = true := by kernel_rfl
theorem k10 : ((aloneRow.inPlace == Tryz.pinned.checked.prog.inPlace 5)) = true := by kernel_rfl
theorem k11 : ((aloneRow.unfollowed == Tryz.pinned.checked.prog.unfollowed 5)) = true := by kernel_rfl
theorem k12 : ((aloneRow.recurses == Tryz.pinned.checked.prog.recurses 5)) = true := by kernel_rfl
theorem k13 : ((aloneRow.named == Tryz.pinned.checked.prog.varsNamed 5)) = true := by kernel_rfl
set_option maxRecDepth 100000 in
theorem f_facts : joinedFacts Tryz.pinned.checked.prog 5 Tryz.f5 (Rows.OpenSpec.upto Rows.gatesSpec).bare aloneRow = true := by
 unfold joinedFacts
 refine and2 ?_ (by kernel_rfl)
 refine and2 ?_ (by kernel_rfl)
 refine and2 ?_ (by kernel_rfl)
 refine and2 ?_ (by kernel_rfl)
 refine and2 ?_ (by kernel_rfl)
 refine and2 ?_ (by kernel_rfl)
 refine and2 ?_ (by kernel_rfl)
 refine and2 ?_ (by kernel_rfl)
 refine and2 ?_ (by kernel_rfl)
 refine and2 ?_ (by kernel_rfl)
 refine and2 ?_ (by kernel_rfl)
 refine and2 ?_ (by kernel_rfl)
 refine and2 ?_ (by kernel_rfl)
 refine and2 ?_ (by kernel_rfl)
 refine and2 ?_ (by kernel_rfl)
 refine and2 ?_ (by kernel_rfl)
 refine and2 ?_ (by kernel_rfl)
 refine and2 ?_ (by kernel_rfl)
 refine and2 ?_ (by kernel_rfl)
 exact (and2 (and2 (and2 (and2 (and2 (and2 (and2 (and2 (and2 (and2 (and2 (and2 k1 k2) k3) k4) k5) k6) k7) k8) k9) k10) k11) k12) k13)
end Go.Proofs.YtbojijefenfbgaaGreatDoor.GatesP

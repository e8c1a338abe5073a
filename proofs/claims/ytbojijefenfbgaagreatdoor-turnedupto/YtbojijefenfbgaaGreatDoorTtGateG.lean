/- Walks of the program's papers: ReadTicket, Right; whether a gate trusts one. strings.Clone; the program's New, Look, raise. Walks of the program's gate: New, Look, raise. Walks of the program's gate: Admit. Walks of the program's gate: Close. Drawn regions whose operations draw and lay blocks at the end, and nothing else. -/
import Derived.Test.YtbojijefenfbgaaGreatDoorTtGateB
import Derived.Lib.Strings
import Derived.Lib.Walk
import Derived.Lib.BufferWrite
import Derived.Lib.UnsafeStr
import Derived.Lib.Hide
import Derived.Laws.MakeOwn
import Derived.Test.YtbojijefenfbgaaGreatDoorTtDocS
set_option maxRecDepth 100000
namespace Go.Proofs.YtbojijefenfbgaaGreatDoor
open Go Go.RowKit
namespace Gt
open Mp Bk
def tkC (e s c : Int) : Array Value := #[.int .i64 e, .int .i64 s, .int .i64 c]
theorem y4p (l : List UInt8) (h : l.length ≠ 72 ∨ l.head? ≠ some 84) (w : World) : Calls Tryz.prog 76 #[.string ⟨l.toArray⟩] w fun e w' => e = .returned (.tuple #[.agg (tkC 0 0 0), .bool false]) ∧ Below w.heap.size w w' := by
 go_enter Tryz.func76, Tryz.ntmps76
 refine wp_seq ?_
 refine Ks.reg ?_
 refine Ks.alloc rfl _ rfl (.agg (tkC 0 0 0)) (by kernel_rfl) (tkC 0 0 0) rfl ?_
 intro w1 b1 Hb1 HR1 HB1 HS1
 simp only [zD]
 refine Ks.v (.bool false) ?_
 simp only [zD]
 refine Ks.done ?_
 refine wp_seq ?_
 refine wp_seq ?_
 refine Ks.reg ?_
 refine Ks.v (.string ⟨l.toArray⟩) ?_
 simp only [zD]
 refine Ks.v (.int .i64 (l.length : Int)) ?_
 simp only [zD]
 by_cases hl : l.length = 72
 ·have hh := h.resolve_left (fun x => x hl)
  refine Ks.val rfl (.bool false) (by simp [execOp, go_sem, hl]) ?_
  simp only [zD]
  refine Ks.v (.bool false) ?_
  simp only [zD]
  refine Ks.g (.string ⟨l.toArray⟩) ?_
  simp only [zD]
  refine x1c (by kernel_rfl) _ _ rfl l 1 (by omega) rfl rfl ?_
  simp only [zD]
  refine Ks.y8b (by kernel_rfl) (.bool true) (by simp [execOp, go_sem, y0i, hh]) ?_
  simp only [zD]
  refine Ks.v (.bool true) ?_
  simp only [zD]
  refine Ks.done ?_
  refine wp_cond_true rfl ?_
  refine wp_seq ?_
  refine Ks.reg ?_
  refine Ks.v (.agg (tkC 0 0 0)) ?_
  simp only [zD]
  refine Ks.whole rfl _ _ _ rfl b1 (tkC 0 0 0) rfl rfl HR1.out (by kernel_rfl) rfl (by simp [tkC, Value.oneCell']) ?_
  intro w2 HR2 H2 H3 H4
  simp only [Act.put]
  refine Ks.v (.bool false) ?_
  simp only [zD]
  refine Ks.done ?_
  refine wp_ret ?_
  repeat (refine Ks.ret ?_)
  exact Ww.z8h Tryz.results76 rfl b1 _ (tkC 0 0 0) _ _ (.bool false) rfl rfl HR2.out Tryz.underlying45 rfl (by kernel_rfl) ⟨rfl, HB1.out.trans ((H2.out (fun _ => False) w.heap.size (Or.inr (Nat.le_of_eq Hb1.out.symm))).below (Nat.le_refl _) (fun _ _ h => h))⟩
 ·refine Ks.val rfl (.bool true) (by simp [execOp, go_sem]; omega) ?_
  simp only [zD]
  refine Ks.v (.bool true) ?_
  simp only [zD]
  with_reducible refine Ks.n ?_
  simp only [zD]
  with_reducible refine Ks.n ?_
  simp only [zD]
  with_reducible refine Ks.n ?_
  simp only [zD]
  refine Ks.v (.bool true) ?_
  simp only [zD]
  refine Ks.done ?_
  refine wp_cond_true rfl ?_
  refine wp_seq ?_
  refine Ks.reg ?_
  refine Ks.v (.agg (tkC 0 0 0)) ?_
  simp only [zD]
  refine Ks.whole rfl _ _ _ rfl b1 (tkC 0 0 0) rfl rfl HR1.out (by kernel_rfl) rfl (by simp [tkC, Value.oneCell']) ?_
  intro w2 HR2 H2 H3 H4
  simp only [Act.put]
  refine Ks.v (.bool false) ?_
  simp only [zD]
  refine Ks.done ?_
  refine wp_ret ?_
  repeat (refine Ks.ret ?_)
  exact Ww.z8h Tryz.results76 rfl b1 _ (tkC 0 0 0) _ _ (.bool false) rfl rfl HR2.out Tryz.underlying45 rfl (by kernel_rfl) ⟨rfl, HB1.out.trans ((H2.out (fun _ => False) w.heap.size (Or.inr (Nat.le_of_eq Hb1.out.symm))).below (Nat.le_refl _) (fun _ _ h => h))⟩
def z3p (t : List UInt8) : Int := be ((t.drop 7).take 1)
theorem y2k (l : List UInt8) (hl : l.length = 72) (hh : l.head? = some 84) (w : World) : Calls Tryz.prog 76 #[.string ⟨l.toArray⟩] w fun e w' => e = .returned (.tuple #[.agg (tkC (z0g l) (z0s l) (z3p l)), .bool true]) ∧ Below w.heap.size w w' := by
 have Hn1 : Hid (∀ w, Calls Tryz.prog 149 #[.string ⟨(l.drop 1).toArray⟩, .int .i64 2] w fun e w' => e = .returned (.tuple #[.int .i64 (z0g l), .string ⟨(l.drop 3).toArray⟩]) ∧ Below w.heap.size w w') := fun w => by
  have := y0f (l.drop 1) 2 (by rw [List.length_drop]; omega) (by omega) w
  rw [List.drop_drop] at this
  exact this
 have Hn2 : Hid (∀ w, Calls Tryz.prog 149 #[.string ⟨(l.drop 3).toArray⟩, .int .i64 4] w fun e w' => e = .returned (.tuple #[.int .i64 (z0s l), .string ⟨(l.drop 7).toArray⟩]) ∧ Below w.heap.size w w') := fun w => by
  have := y0f (l.drop 3) 4 (by rw [List.length_drop]; omega) (by omega) w
  rw [List.drop_drop] at this
  exact this
 have Hn3 : Hid (∀ w, Calls Tryz.prog 149 #[.string ⟨(l.drop 7).toArray⟩, .int .i64 1] w fun e w' => e = .returned (.tuple #[.int .i64 (z3p l), .string ⟨(l.drop 8).toArray⟩]) ∧ Below w.heap.size w w') := fun w => by
  have := y0f (l.drop 7) 1 (by rw [List.length_drop]; omega) (by omega) w
  rw [List.drop_drop] at this
  exact this
 go_enter Tryz.func76, Tryz.ntmps76
 refine wp_seq ?_
 refine Ks.reg ?_
 refine Ks.alloc rfl _ rfl (.agg (tkC 0 0 0)) (by kernel_rfl) (tkC 0 0 0) rfl ?_
 intro w1 b1 Hb1 HR1 HB1 HS1
 simp only [zD]
 refine Ks.v (.bool false) ?_
 simp only [zD]
 refine Ks.done ?_
 refine wp_seq ?_
 refine wp_seq ?_
 refine Ks.reg ?_
 refine Ks.v (.string ⟨l.toArray⟩) ?_
 simp only [zD]
 refine Ks.v (.int .i64 (l.length : Int)) ?_
 simp only [zD]
 refine Ks.val rfl (.bool false) (by simp [execOp, go_sem, hl]) ?_
 simp only [zD]
 refine Ks.v (.bool false) ?_
 simp only [zD]
 refine Ks.g (.string ⟨l.toArray⟩) ?_
 simp only [zD]
 refine x1c (by kernel_rfl) _ _ rfl l 1 (by omega) rfl rfl ?_
 simp only [zD]
 refine Ks.y8b (by kernel_rfl) (.bool false) (by simp [execOp, go_sem, y0i, hh]) ?_
 simp only [zD]
 refine Ks.v (.bool false) ?_
 simp only [zD]
 refine Ks.done ?_
 refine wp_cond_false rfl ?_
 refine wp_skip ?_
 refine Ks.norm ?_
 refine wp_seq ?_
 refine Ks.reg ?_
 refine Ks.v (.string ⟨l.toArray⟩) ?_
 simp only [zD]
 refine q5v (by kernel_rfl) _ _ rfl l 1 (by omega) rfl rfl ?_
 simp only [zD]
 refine Ks.call rfl 149 #[.string ⟨(l.drop 1).toArray⟩, .int .i64 2] (by kernel_rfl) ((Hn1.out w1).mono fun e w' h => ⟨_, h.1, rfl, h.2⟩) (R := fun v w' => v = _ ∧ Below w1.heap.size w1 w') ?_
 rintro v w2 ⟨rfl, hb2⟩
 have HR2 : Hid (w2.heap[b1]? = _) := (hb2.block _ (aL HR1.out)).trans HR1.out
 have HB2 : Hid (Below w.heap.size w w2) := HB1.out.trans (hb2.mono HB1.out.size)
 clear hb2 HR1 HB1
 simp only [zD]
 refine Ks.v (.tuple #[.int .i64 (z0g l), .string ⟨(l.drop 3).toArray⟩]) ?_
 simp only [zD]
 refine Ks.v (.int .i64 (z0g l)) ?_
 simp only [zD]
 refine Ks.v (.string ⟨(l.drop 3).toArray⟩) ?_
 simp only [zD]
 refine Ks.v (.int .i64 (z0g l)) ?_
 simp only [zD]
 refine Ks.v (.string ⟨(l.drop 3).toArray⟩) ?_
 simp only [zD]
 refine Ks.done ?_
 refine wp_seq ?_
 refine Ks.reg ?_
 refine Ks.v (.string ⟨(l.drop 3).toArray⟩) ?_
 simp only [zD]
 refine Ks.call rfl 149 #[.string ⟨(l.drop 3).toArray⟩, .int .i64 4] (by kernel_rfl) ((Hn2.out w2).mono fun e w' h => ⟨_, h.1, rfl, h.2⟩) (R := fun v w' => v = _ ∧ Below w2.heap.size w2 w') ?_
 rintro v w3 ⟨rfl, hb2⟩
 have HR3 : Hid (w3.heap[b1]? = _) := (hb2.block _ (aL HR2.out)).trans HR2.out
 have HB3 : Hid (Below w.heap.size w w3) := HB2.out.trans (hb2.mono HB2.out.size)
 clear hb2 HR2 HB2
 simp only [zD]
 refine Ks.v (.tuple #[.int .i64 (z0s l), .string ⟨(l.drop 7).toArray⟩]) ?_
 simp only [zD]
 refine Ks.v (.int .i64 (z0s l)) ?_
 simp only [zD]
 refine Ks.v (.string ⟨(l.drop 7).toArray⟩) ?_
 simp only [zD]
 refine Ks.v (.int .i64 (z0s l)) ?_
 simp only [zD]
 refine Ks.v (.string ⟨(l.drop 7).toArray⟩) ?_
 simp only [zD]
 refine Ks.done ?_
 refine wp_seq ?_
 refine Ks.reg ?_
 refine Ks.v (.string ⟨(l.drop 7).toArray⟩) ?_
 simp only [zD]
 refine Ks.call rfl 149 #[.string ⟨(l.drop 7).toArray⟩, .int .i64 1] (by kernel_rfl) ((Hn3.out w3).mono fun e w' h => ⟨_, h.1, rfl, h.2⟩) (R := fun v w' => v = _ ∧ Below w3.heap.size w3 w') ?_
 rintro v w4 ⟨rfl, hb2⟩
 have HR4 : Hid (w4.heap[b1]? = _) := (hb2.block _ (aL HR3.out)).trans HR3.out
 have HB4 : Hid (Below w.heap.size w w4) := HB3.out.trans (hb2.mono HB3.out.size)
 clear hb2 HR3 HB3
 simp only [zD]
 refine Ks.v (.tuple #[.int .i64 (z3p l), .string ⟨(l.drop 8).toArray⟩]) ?_
 simp only [zD]
 refine Ks.v (.int .i64 (z3p l)) ?_
 simp only [zD]
 refine Ks.v (.string ⟨(l.drop 8).toArray⟩) ?_
 simp only [zD]
 refine Ks.v (.int .i64 (z3p l)) ?_
 simp only [zD]
 refine Ks.v (.string ⟨(l.drop 8).toArray⟩) ?_
 simp only [zD]
 refine Ks.done ?_
 refine wp_seq ?_
 refine Ks.reg ?_
 refine Ks.v (.int .i64 (z0g l)) ?_
 simp only [zD]
 refine Ks.v (.int .i64 (z0s l)) ?_
 simp only [zD]
 refine Ks.v (.int .i64 (z3p l)) ?_
 simp only [zD]
 refine Ks.v (.agg (tkC (z0g l) (z0s l) (z3p l))) ?_
 simp only [zD]
 refine Ks.whole rfl _ _ _ rfl b1 (tkC (z0g l) (z0s l) (z3p l)) rfl rfl HR4.out (by kernel_rfl) rfl (by simp [tkC, Value.oneCell']) ?_
 intro w5 HR5 H2 H3 H4
 simp only [Act.put]
 refine Ks.v (.bool true) ?_
 simp only [zD]
 refine Ks.done ?_
 refine wp_ret ?_
 repeat (refine Ks.ret ?_)
 exact Ww.z8h Tryz.results76 rfl b1 _ (tkC (z0g l) (z0s l) (z3p l)) _ _ (.bool true) rfl rfl HR5.out Tryz.underlying45 rfl (by kernel_rfl) ⟨rfl, HB4.out.trans ((H2.out (fun _ => False) w.heap.size (Or.inr (Nat.le_of_eq Hb1.out.symm))).below (Nat.le_refl _) (fun _ _ h => h))⟩
theorem k1b (k l : List UInt8) (n : Nat) (hl : l.length = n + 64) (hn : n ≤ 1000) (w : World) (ht : Hs.z0j w) : Calls Tryz.prog 150 #[.string ⟨k.toArray⟩, .string ⟨l.toArray⟩] w fun e w' => e = .returned (.bool (Gw.z0n k (l.take n) (l.drop n))) ∧ Below w.heap.size w w' := by
 have Hr : Hid (∀ w, Hs.z0j w → Calls Tryz.prog 52 #[.string ⟨k.toArray⟩, .string ⟨(l.take n).toArray⟩, .string ⟨(l.drop n).toArray⟩] w fun e w' => e = .returned (.bool (Gw.z0n k (l.take n) (l.drop n))) ∧ Below w.heap.size w w') := fun w ht => Gw.x8t k (l.take n) (l.drop n) (by rw [List.length_take]; omega) w ht
 obtain ⟨b, hb⟩ : ∃ b, b = Gw.z0n k (l.take n) (l.drop n) := ⟨_, rfl⟩
 rw [← hb] at Hr ⊢
 clear hb
 go_enter Tryz.func150, Tryz.ntmps150
 refine wp_seq ?_
 refine Ks.reg ?_
 refine Ks.v (.bool false) ?_
 simp only [zD]
 refine Ks.done ?_
 refine wp_seq ?_
 refine wp_seq ?_
 refine Ks.reg ?_
 refine Ks.v (.string ⟨l.toArray⟩) ?_
 simp only [zD]
 refine Ks.v (.int .i64 (l.length : Int)) ?_
 simp only [zD]
 refine Ks.val rfl (.bool false) (by simp [execOp, go_sem, hl]; omega) ?_
 simp only [zD]
 refine Ks.done ?_
 refine wp_cond_false rfl ?_
 refine wp_skip ?_
 refine Ks.norm ?_
 refine wp_seq ?_
 refine Ks.reg ?_
 refine Ks.v (.string ⟨l.toArray⟩) ?_
 simp only [zD]
 refine Ks.v (.int .i64 (l.length : Int)) ?_
 simp only [zD]
 refine Ks.val rfl (.int .i64 (n : Int)) (by
  simp [execOp, go_sem, hl]
  rw [IntWalk.i64_in _ ⟨by omega, by omega⟩]) ?_
 simp only [zD]
 refine Ks.v (.int .i64 (n : Int)) ?_
 simp only [zD]
 refine Ks.done ?_
 refine wp_seq ?_
 refine Qt.y2a (by kernel_rfl) (by kernel_rfl) ?_
 refine Qt.z0b rfl (.string ⟨k.toArray⟩) (fun _ _ => by kernel_rfl) ?_
 refine Qt.z0b rfl (.string ⟨l.toArray⟩) (fun _ _ => by kernel_rfl) ?_
 refine Qt.z0b rfl (.int .i64 (n : Int)) (fun _ _ => by kernel_rfl) ?_
 simp only [zD]
 refine k7k rfl _ _ rfl l n (by omega) rfl rfl ?_
 simp only [zD]
 refine Qt.z0b rfl (.string ⟨l.toArray⟩) (fun _ _ => by kernel_rfl) ?_
 refine Qt.z0b rfl (.int .i64 (n : Int)) (fun _ _ => by kernel_rfl) ?_
 simp only [zD]
 refine q6s rfl _ _ rfl l n (by omega) rfl rfl ?_
 simp only [zD]
 refine Qt.z0e rfl 52 #[.string ⟨k.toArray⟩, .string ⟨(l.take n).toArray⟩, .string ⟨(l.drop n).toArray⟩] (.bool b) (fun _ => by kernel_rfl) (fun w' hb => Hr.out w' (ht.below hb ht.lt)) ?_
 simp only [zD]
 refine Qt.z0b rfl (.bool b) (fun _ _ => by kernel_rfl) ?_
 simp only [zD]
 refine Qt.z1a ?_
 intro w2 hb2
 refine Ks.norm ?_
 refine wp_ret ?_
 repeat (refine Ks.ret ?_)
 refine bodyPost_ret (v := .bool b) (by simp [results, Tryz.results150]) rfl ?_
 exact ⟨rfl, hb2⟩
theorem x2t {S : Nat → Prop} {w : World} {g : Nat} {s : St} (h : z0h S w g s) (l : List UInt8) (n : Nat) (hl : l.length = n + 64) (hn : n ≤ 1000) (ht : Hs.z0j w) : Calls Tryz.prog 77 #[.pointer (some ⟨g, 0, none⟩), .string ⟨l.toArray⟩] w fun e w' => e = .returned (.bool (Gw.z0n s.key (l.take n) (l.drop n))) ∧ Below w.heap.size w w' := by
 obtain ⟨_, vh, vd, vu, hg, _⟩ := h
 have hc : w.cell? ⟨g, 1, none⟩ = some (.string ⟨s.key.toArray⟩) := z0c hg 1 rfl
 have Hr : Hid _ := k1b s.key l n hl hn w ht
 obtain ⟨b, hb⟩ : ∃ b, b = Gw.z0n s.key (l.take n) (l.drop n) := ⟨_, rfl⟩
 rw [← hb] at Hr ⊢
 clear hb hg
 go_enter Tryz.func77, Tryz.ntmps77
 refine wp_seq ?_
 refine Ks.reg ?_
 refine Ks.v (.bool false) ?_
 simp only [zD]
 refine Ks.done ?_
 refine wp_seq ?_
 refine Ks.reg ?_
 refine Ks.v (.pointer (some ⟨g, 0, none⟩)) ?_
 simp only [zD]
 refine Ks.v (.bool true) ?_
 simp only [zD]
 refine Ks.v (.bool true) ?_
 simp only [zD]
 refine Ks.g (.pointer (some ⟨g, 0, none⟩)) ?_
 simp only [zD]
 refine Ks.g (.pointer (some ⟨g, 0, none⟩)) ?_
 simp only [zD]
 refine Ks.g (.pointer (some ⟨g, 1, none⟩)) ?_
 simp only [zD]
 refine Ks.z4k (by kernel_rfl) _ _ rfl Tryz.underlying9 rfl g 1 _ rfl hc ?_
 simp only [zD]
 refine Ks.g (.string ⟨l.toArray⟩) ?_
 simp only [zD]
 refine Ks.pure (by kernel_rfl) 150 #[.string ⟨s.key.toArray⟩, .string ⟨l.toArray⟩] (by kernel_rfl) Hr.out ?_
 intro w1 hb1
 simp only [zD]
 refine Ks.val rfl (.bool b) (by cases b <;> kernel_rfl) ?_
 simp only [zD]
 refine Ks.v (.bool b) ?_
 simp only [zD]
 refine Ks.done ?_
 refine wp_ret ?_
 repeat (refine Ks.ret ?_)
 refine bodyPost_ret (v := .bool b) (by simp [results, Tryz.results77]) rfl ?_
 exact ⟨rfl, hb1⟩
end Gt
open Go Go.RowKit
namespace Gt
open Mp Bk
set_option maxHeartbeats 4000000 in
theorem x3z (s : ByteArray) (w : World) (hlim : s.size ≤ 281474976710656) : Calls Tryz.prog 157 #[.string s] w fun e w' => e = .returned (.string s) ∧ Below w.heap.size w w' := by
 by_cases h0 : s.size = 0
 ·have hs : s = ⟨#[]⟩ := by
   apply ByteArray.ext
   exact Array.eq_empty_of_size_eq_zero h0
  subst hs
  go_enter Tryz.func157, Tryz.ntmps157
  go_wp2
  go_ret
  exact ⟨rfl, Below.refl _ _⟩
 ·obtain ⟨i0, hi, hz0, hz1, hz2⟩ := info_parts (show (Tryz.prog.info? 5).map (fun i => (i.zero, i.size, i.bytes)) = some (some (.int .u8 0), 1, 1) by kernel_rfl)
  have hinfo : (Tryz.prog.info? 5).map (·.size) = some 1 := by rw [hi]; simp [hz1]
  have hco : Tryz.prog.cellsOf 5 = 1 := by simp [Program.cellsOf, hi, hz1]
  obtain ⟨M, hM⟩ : ∃ M, M = madeCells (Value.int .u8 0).cells (((s.size : Nat) : Int).toNat * i0.size) := ⟨_, rfl⟩
  have hMs : M.size = s.size := by rw [hM, size_madeCells, hz1]; simp
  have hmk : ∀ W : World, (Instr.makeSlice 145 (.int .i64 (s.size : Int)) (.int .i64 (s.size : Int))).run Tryz.prog W = .ok (.slice (some ⟨W.heap.size, 0, none⟩) s.size s.size) (W.alloc (.cells M 5)) := fun W => by
   have h := run_make (P := Tryz.prog) W 145 5 i0 (.int .u8 0) Tryz.underlying145 hi hz0 .i64 .i64 (s.size : Int) (s.size : Int) (by omega) (by omega) (by rw [hz2]; omega) (by omega)
   rw [← hM] at h
   simpa using h
  clear hM
  have hcp := Lib.run_copy_row_string (P := Tryz.prog) (w.alloc (.cells M 5)) 145 9 3 5 w.heap.size 0 s.size s.size s M 5 Tryz.underlying145 hinfo (heap_alloc_new w _) (Nat.le_refl _) (by omega)
  obtain ⟨Y, hY⟩ : ∃ Y, Y = (M.toList.take 0 ++ Lib.byteCells s.data.toList ++ M.toList.drop (0 + s.size)).toArray := ⟨_, rfl⟩
  rw [← hY] at hcp
  have hYl : Y.toList = Lib.byteCells s.data.toList := by
   rw [hY, List.toList_toArray, List.take_zero, List.nil_append, List.drop_of_length_le (by rw [Array.length_toList]; omega), List.append_nil]
  have hYs : Y.size = s.size := by rw [← Array.length_toList, hYl, Lib.byteCells_length, ← Lib.size_eq]
  have hgY : ((w.alloc (.cells M 5)).setRow w.heap.size Y).heap[w.heap.size]? = some (.cells Y 5 (0, 0)) := setRow_heap _ _ M _ 5 (0, 0) (heap_alloc_new w _)
  have hne : s.data.toList ≠ [] := fun e => h0 (by rw [Lib.size_eq, e]; rfl)
  have hUS := Lib.run_unsafeString_row (P := Tryz.prog) ((w.alloc (.cells M 5)).setRow w.heap.size Y) 313 3 9 5 Tryz.underlying313 hco w.heap.size Y.size (by unfold World.shape?; rw [hgY]) s.data.toList hne (by rw [← Lib.size_eq]; omega) (by rw [← Lib.size_eq]; omega)
   (fun j x hx => Lib.cells_of_row hgY Y.size j _ (by rw [List.take_of_length_le (by rw [Array.length_toList]; exact Nat.le_refl _), hYl]; simp [Lib.byteCells, hx]))
  rw [← Lib.size_eq] at hUS
  clear hY
  go_enter Tryz.func157, Tryz.ntmps157
  go_wp2
  go_ret
  have hb1 : Below w.heap.size w (w.alloc (.cells M 5)) := (Below.refl _ w).alloc (Nat.le_refl _) _
  have hb2 : Below w.heap.size (w.alloc (.cells M 5)) ((w.alloc (.cells M 5)).setRow w.heap.size Y) := ⟨rfl, rfl, rfl, by simp, fun k hk => setRow_other _ _ _ _ (by omega)⟩
  exact ⟨rfl, Lib.below_freeze (hb1.trans hb2) (p := ⟨w.heap.size, 0, none⟩) (Nat.le_refl _) _⟩
theorem x5u (l : List UInt8) (hl : l.length ≤ 281474976710656) (w : World) : Calls Tryz.prog 86 #[.string ⟨l.toArray⟩] w fun e w' => e = .returned (.string ⟨l.toArray⟩) ∧ Below w.heap.size w w' := by
 go_enter Tryz.func86, Tryz.ntmps86
 refine wp_seq ?_
 refine Ks.reg ?_
 refine Ks.v (.string ⟨#[]⟩) ?_
 simp only [zD]
 refine Ks.done ?_
 refine wp_seq ?_
 refine Ks.reg ?_
 refine Ks.v (.string ⟨l.toArray⟩) ?_
 simp only [zD]
 refine Ks.pure (by kernel_rfl) 157 #[.string ⟨l.toArray⟩] (by kernel_rfl) (x3z ⟨l.toArray⟩ w (by exact hl)) ?_
 intro w1 hb1
 simp only [zD]
 refine Ks.v (.string ⟨l.toArray⟩) ?_
 simp only [zD]
 refine Ks.done ?_
 refine wp_ret ?_
 repeat (refine Ks.ret ?_)
 refine bodyPost_ret (v := .string ⟨l.toArray⟩) (by simp [results, Tryz.results86]) rfl ?_
 exact ⟨rfl, hb1⟩
end Gt
open Go Go.RowKit
namespace Gt
open Mp Bk Tk
theorem k8w (n : Int) (w : World) : Calls Tryz.prog 84 #[.int .i64 n] w fun e w' => e = .returned (.bool (bet 0 n 15)) ∧ Below w.heap.size w w' := by
 go_enter Tryz.func84, Tryz.ntmps84
 refine wp_seq ?_
 refine Ks.reg ?_
 refine Ks.v (.bool false) ?_
 simp only [zD]
 refine Ks.done ?_
 refine wp_seq ?_
 refine Ks.reg ?_
 refine Ks.v (.int .i64 n) ?_
 simp only [zD]
 refine Ks.pure (by kernel_rfl) 123 #[.int .i64 0, .int .i64 n, .int .i64 15] (by kernel_rfl) (v := .bool (bet 0 n 15)) ((z5d 0 n 15 w).mono fun e w' h => ⟨h.1, by rw [h.2]; exact Below.refl _ _⟩) ?_
 intro w1 hb1
 simp only [zD]
 refine Ks.v (.bool (bet 0 n 15)) ?_
 simp only [zD]
 refine Ks.done ?_
 refine wp_ret ?_
 repeat (refine Ks.ret ?_)
 refine bodyPost_ret (v := .bool (bet 0 n 15)) (by simp [results, Tryz.results84]) rfl ?_
 exact ⟨rfl, hb1⟩
theorem y3p {a b c : Int} (h : bet a b c = true) : a ≤ b ∧ b ≤ c := by
 unfold bet at h
 simpa using h
theorem y9c (n : Int) (k : List UInt8) (h : bet 0 n 15 = true) (hk : (Cw.z9s k).2 = true) (hl : k.length ≤ 281474976710656) (w : World) : Calls Tryz.prog 35 #[.int .i64 n, .string ⟨k.toArray⟩] w fun e w' => ∃ v, e = .returned v ∧ (∃ g, v = .tuple #[.pointer (some ⟨g, 0, none⟩), .int .i64 0] ∧ z0h (fun k => w.heap.size ≤ k) w' g (St.new n k)) ∧ Below w.heap.size w w' := by
 have HD : Hid (∀ w, Calls Tryz.prog 85 #[.string ⟨k.toArray⟩] w fun e w' => e = .returned (.tuple #[.agg (Cw.pw (Cw.z9s k).1), .bool (Cw.z9s k).2]) ∧ Below w.heap.size w w') := Cw.x1x k
 obtain ⟨p, hp⟩ : ∃ p, p = (Cw.z9s k).1 := ⟨_, rfl⟩
 rw [hk, ← hp] at HD
 clear hk hp
 go_enter Tryz.func35, Tryz.ntmps35
 refine wp_seq ?_
 refine Ks.reg ?_
 refine Ks.v (.pointer none) ?_
 simp only [zD]
 refine Ks.v (.int .i64 0) ?_
 simp only [zD]
 refine Ks.done ?_
 refine wp_seq ?_
 refine wp_seq ?_
 refine Ks.reg ?_
 refine Ks.v (.int .i64 n) ?_
 simp only [zD]
 refine Ks.pure (by kernel_rfl) 84 #[.int .i64 n] (by kernel_rfl) (k8w n w) ?_
 intro w1 hb1
 rw [h]
 simp only [zD]
 refine Ks.v (.bool false) ?_
 simp only [zD]
 refine Ks.done ?_
 refine wp_cond_false rfl ?_
 refine wp_skip ?_
 refine Ks.norm ?_
 refine wp_seq ?_
 refine wp_seq ?_
 refine Ks.reg ?_
 refine Ks.v (.string ⟨k.toArray⟩) ?_
 simp only [zD]
 refine Ks.pure (by kernel_rfl) 85 #[.string ⟨k.toArray⟩] (by kernel_rfl) (HD.out w1) ?_
 intro w2 hb2
 have HB2 : Hid (Below w.heap.size w w2) := hb1.trans (hb2.mono hb1.size)
 clear hb1 hb2
 simp only [zD]
 refine Ks.v (.tuple #[.agg (Cw.pw p), .bool true]) ?_
 simp only [zD]
 refine Ks.v (.agg (Cw.pw p)) ?_
 simp only [zD]
 refine Ks.v (.bool true) ?_
 simp only [zD]
 refine Ks.alloc rfl _ rfl (.agg Cw.z4q) (by kernel_rfl) Cw.z4q rfl ?_
 intro w3 b3 Hb3 HR3 HB3 HS3
 simp only [zD]
 refine Ks.whole rfl _ _ _ rfl b3 (Cw.pw p) rfl rfl HR3.out (by rw [Cw.z1z]; kernel_rfl) (by rw [Cw.z1z]; rfl) (Cw.y7e _) ?_
 intro w4 HR4 H2 H3 H4
 have HB4 : Hid (Below w.heap.size w w4) := (HB2.out.trans (HB3.out.mono HB2.out.size)).trans ((H2.out (fun _ => False) w.heap.size (Or.inr (by rw [Hb3.out]; exact HB2.out.size))).below (Nat.le_refl _) (fun _ _ h => h))
 clear HB2 HB3 HR3 HR4 H2 H3 H4 HS3
 simp only [Act.put]
 refine Ks.v (.bool true) ?_
 simp only [zD]
 refine Ks.done ?_
 refine wp_seq ?_
 refine Ks.reg ?_
 refine Ks.v (.bool true) ?_
 simp only [zD]
 refine Ks.v (.bool false) ?_
 simp only [zD]
 refine Ks.done ?_
 refine wp_cond_false rfl ?_
 refine wp_skip ?_
 refine Ks.norm ?_
 refine wp_seq ?_
 refine Ks.reg ?_
 refine Ks.v (.int .i64 n) ?_
 simp only [zD]
 refine Ks.v (.string ⟨k.toArray⟩) ?_
 simp only [zD]
 refine Ks.pure (by kernel_rfl) 86 #[.string ⟨k.toArray⟩] (by kernel_rfl) (x5u k hl w4) ?_
 intro w5 hb5
 have HB5 : Hid (Below w.heap.size w w5) := HB4.out.trans (hb5.mono HB4.out.size)
 clear hb5 HB4
 simp only [zD]
 refine Ks.v (.agg (z3h (St.new n k) (.map none) (.map none) (.map none))) ?_
 simp only [zD]
 refine Ks.box rfl _ _ rfl (z3h (St.new n k) (.map none) (.map none) (.map none)) rfl ?_
 intro w6 g Hg HG HB6 HS6
 simp only [zD]
 refine Ks.v (.pointer (some ⟨g, 0, none⟩)) ?_
 simp only [zD]
 refine Ks.v (.int .i64 0) ?_
 simp only [zD]
 refine Ks.done ?_
 refine wp_ret ?_
 repeat (refine Ks.ret ?_)
 refine bodyPost_ret (v := .tuple #[.pointer (some ⟨g, 0, none⟩), .int .i64 0]) (by simp [results, Tryz.results35]) rfl ?_
 have hgl : w.heap.size ≤ g := by rw [Hg.out]; exact HB5.out.size
 exact ⟨_, rfl, ⟨g, rfl, hgl, _, _, _, HG.out, Or.inl ⟨rfl, rfl, rfl, rfl⟩⟩, HB5.out.trans (HB6.out.mono HB5.out.size)⟩
theorem z0h.y6w {S : Nat → Prop} {w : World} {g : Nat} {s : St} (h : z0h S w g s) : w.cell? ⟨g, 2, none⟩ = some (.int .i64 s.own) := by
 obtain ⟨_, vh, vd, vu, hg, _⟩ := h
 exact z0c hg 2 rfl
theorem z0h.q6g {S : Nat → Prop} {w : World} {g : Nat} {s : St} (h : z0h S w g s) : w.cell? ⟨g, 0, none⟩ = some (.int .i64 s.number) := by
 obtain ⟨_, vh, vd, vu, hg, _⟩ := h
 exact z0c hg 0 rfl
def stC (s : St) : Array Value := #[.int .i64 s.floor, .int .i64 s.own, .int .i64 s.l.length, .int .i64 (held s.l).length]
theorem q5z {S : Nat → Prop} {w : World} {g : Nat} {s : St} (h : z0h S w g s) : Calls Tryz.prog 66 #[.pointer (some ⟨g, 0, none⟩)] w fun e w' => e = .returned (.agg (stC s)) ∧ Below w.heap.size w w' := by
 have HP : Hid (z0h S w g s) := h
 clear h
 go_enter Tryz.func66, Tryz.ntmps66
 refine wp_seq ?_
 refine Ks.reg ?_
 refine Ks.alloc rfl _ rfl (.agg #[.int .i64 0, .int .i64 0, .int .i64 0, .int .i64 0]) (by kernel_rfl) #[.int .i64 0, .int .i64 0, .int .i64 0, .int .i64 0] rfl ?_
 intro w1 b1 Hb1 HR1 HB1 HS1
 have HP1 : Hid (z0h S w1 g s) := HP.out.below HB1.out
 clear HP HS1
 simp only [zD]
 refine Ks.done ?_
 refine wp_seq ?_
 refine wp_seq ?_
 refine Ks.reg ?_
 refine Ks.v (.pointer (some ⟨g, 0, none⟩)) ?_
 simp only [zD]
 refine Ks.v (.bool false) ?_
 simp only [zD]
 refine Ks.done ?_
 refine wp_cond_false rfl ?_
 refine wp_skip ?_
 refine Ks.norm ?_
 refine wp_seq ?_
 refine Qt.z0q 17 (by kernel_rfl) (by kernel_rfl) ?_
 simp only [List.take_succ_cons, List.take_zero]
 refine Qt.z0b rfl (.pointer (some ⟨g, 0, none⟩)) (fun _ _ => by kernel_rfl) ?_
 refine Qt.z0b rfl (.pointer (some ⟨g, 0, none⟩)) (fun _ _ => by kernel_rfl) ?_
 refine Qt.z0b rfl (.pointer (some ⟨g, 3, none⟩)) (fun _ _ => by kernel_rfl) ?_
 simp only [zD]
 refine Qt.z0e rfl 75 #[.pointer (some ⟨g, 3, none⟩)] (.int .i64 s.floor) (fun _ => by kernel_rfl) (fun w' hb => z8p (HP1.out.below hb)) ?_
 simp only [zD]
 refine Qt.z0b rfl (.pointer (some ⟨g, 0, none⟩)) (fun _ _ => by kernel_rfl) ?_
 refine Qt.z0b rfl (.pointer (some ⟨g, 0, none⟩)) (fun _ _ => by kernel_rfl) ?_
 refine Qt.z0b rfl (.pointer (some ⟨g, 2, none⟩)) (fun _ _ => by kernel_rfl) ?_
 simp only [zD]
 refine z5f rfl _ _ rfl Tryz.underlying3 rfl g 2 (.int .i64 s.own) rfl HP1.out.lt HP1.out.y6w ?_
 simp only [zD]
 refine Qt.z0b rfl (.pointer (some ⟨g, 0, none⟩)) (fun _ _ => by kernel_rfl) ?_
 refine Qt.z0b rfl (.pointer (some ⟨g, 0, none⟩)) (fun _ _ => by kernel_rfl) ?_
 refine Qt.z0b rfl (.pointer (some ⟨g, 3, none⟩)) (fun _ _ => by kernel_rfl) ?_
 simp only [zD]
 refine Qt.z0e rfl 136 #[.pointer (some ⟨g, 3, none⟩)] (.int .i64 s.l.length) (fun _ => by kernel_rfl) (fun w' hb => q8w (HP1.out.below hb)) ?_
 simp only [zD]
 refine Qt.z0b rfl (.pointer (some ⟨g, 0, none⟩)) (fun _ _ => by kernel_rfl) ?_
 refine Qt.z0b rfl (.pointer (some ⟨g, 0, none⟩)) (fun _ _ => by kernel_rfl) ?_
 refine Qt.z0b rfl (.pointer (some ⟨g, 3, none⟩)) (fun _ _ => by kernel_rfl) ?_
 simp only [zD]
 refine Qt.z0e rfl 137 #[.pointer (some ⟨g, 3, none⟩)] (.int .i64 (held s.l).length) (fun _ => by kernel_rfl) (fun w' hb => k4v (HP1.out.below hb)) ?_
 simp only [zD]
 refine Qt.z0b rfl (.agg (stC s)) (fun _ _ => by kernel_rfl) ?_
 simp only [zD]
 refine Qt.z1a ?_
 simp only [List.drop_succ_cons, List.drop_zero]
 intro w2 hb2
 have HR2 : Hid (w2.heap[b1]? = _) := (hb2.block _ (aL HR1.out)).trans HR1.out
 have HB2 : Hid (Below w.heap.size w w2) := HB1.out.trans (hb2.mono HB1.out.size)
 refine Ks.whole rfl _ _ _ rfl b1 (stC s) rfl rfl HR2.out (by kernel_rfl) rfl (by simp [stC, Value.oneCell']) ?_
 intro w3 HR3 H2 H3 H4
 simp only [Act.put]
 refine Ks.done ?_
 refine wp_ret ?_
 exact Own.z1g Tryz.results66 rfl b1 _ (stC s) _ _ rfl HR3.out Tryz.underlying129 rfl (by kernel_rfl) ⟨rfl, HB2.out.trans ((H2.out (fun _ => False) w.heap.size (Or.inr (Nat.le_of_eq Hb1.out.symm))).below (Nat.le_refl _) (fun _ _ h => h))⟩
theorem k0z {S : Nat → Prop} {w : World} {g : Nat} {s : St} (h : z0h S w g s) (l : List UInt8) (hl : l.length ≤ 281474976710656) : Calls Tryz.prog 144 #[.pointer (some ⟨g, 0, none⟩), .int .i64 (z0g l), .string ⟨l.toArray⟩] w fun e w' => ∃ v, e = .returned v ∧ v = .tuple #[] ∧ z0h S w' g (s.raised l) ∧ Fr S w.heap.size w w' := by
 have HP : Hid (z0h S w g s) := h
 have hS := h.1
 clear h
 obtain ⟨F, hF⟩ : ∃ F, F = z0g l := ⟨_, rfl⟩
 rw [← hF]
 go_enter Tryz.func144, Tryz.ntmps144
 refine wp_seq ?_
 refine Ks.reg ?_
 refine Ks.v (.pointer (some ⟨g, 0, none⟩)) ?_
 simp only [zD]
 refine Ks.v (.pointer (some ⟨g, 0, none⟩)) ?_
 simp only [zD]
 refine Ks.v (.pointer (some ⟨g, 3, none⟩)) ?_
 simp only [zD]
 refine Ks.v (.int .i64 F) ?_
 simp only [zD]
 refine Ks.call rfl 216 #[.pointer (some ⟨g, 3, none⟩), .int .i64 F] (by kernel_rfl) (k0y HP.out F) ?_
 rintro v w1 ⟨rfl, hp1, hf1⟩
 have HP1 : Hid (z0h S w1 g { s with floor := F, l := s.l.map (z5e F) }) := hp1
 have HF1 : Hid (Fr S w.heap.size w w1) := hf1
 clear hp1 hf1 HP
 simp only [zD]
 refine Ks.done ?_
 refine Ks.reg ?_
 refine Ks.v (.pointer (some ⟨g, 0, none⟩)) ?_
 simp only [zD]
 refine Ks.v (.string ⟨l.toArray⟩) ?_
 simp only [zD]
 refine Ks.pure (by kernel_rfl) 86 #[.string ⟨l.toArray⟩] (by kernel_rfl) (x5u l hl w1) ?_
 intro w2 hb2
 have HP2 : Hid (z0h S w2 g { s with floor := F, l := s.l.map (z5e F) }) := HP1.out.below hb2
 have HF2 : Hid (Fr S w.heap.size w w2) := HF1.out.calls hb2 HF1.out.size
 clear hb2 HP1 HF1
 simp only [zD]
 refine Ks.v (.pointer (some ⟨g, 0, none⟩)) ?_
 simp only [zD]
 refine Ks.v (.pointer (some ⟨g, 7, none⟩)) ?_
 simp only [zD]
 obtain ⟨_, vh, vd, vu, hg2, hm2⟩ := HP2.out
 have HG2 : Hid _ := hg2
 have HM2 : Hid (Maps S w2 vh vd vu (s.l.map (z5e F))) := hm2
 clear hg2 hm2
 refine Ks.store rfl _ _ _ rfl g 7 _ rfl rfl HG2.out (by show 7 < 8; omega) (by kernel_rfl) rfl (z3h { s with floor := F, order := l, l := s.l.map (z5e F) } vh vd vu) rfl ?_
 intro w3 HG3 H2 H3 H4
 simp only [Act.put]
 go_wp2
 go_end0
 refine ⟨_, rfl, rfl, ⟨hS, vh, vd, vu, ?_, ?_⟩, HF2.out.trans (H2.out _ _ (Or.inl hS))⟩
 ·subst hF
  exact HG3.out
 ·subst hF
  rcases HM2.out with h | ⟨bh, bd, bu, lh, ld, lu, e1, e2, e3, s1, s2, s3, n1, n2, n3, h1, h2, h3, H⟩
  ·exact Or.inl h
  ·have hn : ∀ {b : Nat} {α β : Type} {ke : α → Value} {ve : β → Value} {l : List (α × β)}, Is w2 b ke ve l → b ≠ g := fun h => by
    obtain ⟨_, _, hb, _⟩ := h
    rintro rfl
    rw [HG2.out] at hb
    cases hb
   exact Or.inr ⟨bh, bd, bu, lh, ld, lu, e1, e2, e3, s1, s2, s3, n1, n2, n3, h1.congr (H3.out _ (hn h1)), h2.congr (H3.out _ (hn h2)), h3.congr (H3.out _ (hn h3)), H⟩
end Gt
open Go Go.RowKit
namespace Gt
open Mp Bk Tk
noncomputable abbrev x0k (s : St) (t : List UInt8) : Int × St := adm Gw.z0n s t
noncomputable abbrev y2o (s : St) (t : List UInt8) : Int × St := clo Gw.z0n s t
theorem z0h.mono {S T : Nat → Prop} {w : World} {g : Nat} {s : St} (h : z0h S w g s) (hS : ∀ k, S k → T k) : z0h T w g s := h.congr hS fun _ _ _ => rfl
theorem Maps.stored {S : Nat → Prop} {w w' : World} {g : Nat} {vh vd vu : Value} {l : List It} (h : Maps S w vh vd vu l) {cs : Array Value} {t : TypeId} {fr : Nat × Nat} (hg : w.heap[g]? = some (.cells cs t fr)) (hw : ∀ k, k ≠ g → w'.heap[k]? = w.heap[k]?) : Maps S w' vh vd vu l := by
 rcases h with h | ⟨bh, bd, bu, lh, ld, lu, e1, e2, e3, s1, s2, s3, n1, n2, n3, h1, h2, h3, H⟩
 ·exact Or.inl h
 ·have hn : ∀ {b : Nat} {α β : Type} {ke : α → Value} {ve : β → Value} {l : List (α × β)}, Is w b ke ve l → b ≠ g := fun h => by
   obtain ⟨_, _, hb, _⟩ := h
   rintro rfl
   rw [hg] at hb
   cases hb
  exact Or.inr ⟨bh, bd, bu, lh, ld, lu, e1, e2, e3, s1, s2, s3, n1, n2, n3, h1.congr (hw _ (hn h1)), h2.congr (hw _ (hn h2)), h3.congr (hw _ (hn h3)), H⟩
theorem q0q {S : Nat → Prop} {w : World} {g : Nat} {s : St} (_h : z0h S w g s) (l : List UInt8) (hl : l.length ≠ 72 ∨ l.head? ≠ some 84) : Calls Tryz.prog 31 #[.pointer (some ⟨g, 0, none⟩), .string ⟨l.toArray⟩] w fun e w' => e = .returned (.int .i64 4) ∧ Below w.heap.size w w' := by
 go_enter Tryz.func31, Tryz.ntmps31
 refine wp_seq ?_
 refine Ks.reg ?_
 refine Ks.v (.int .i64 0) ?_
 simp only [zD]
 refine Ks.done ?_
 refine wp_seq ?_
 refine Ks.reg ?_
 refine Ks.v (.string ⟨l.toArray⟩) ?_
 simp only [zD]
 refine Ks.pure (by kernel_rfl) 76 #[.string ⟨l.toArray⟩] (by kernel_rfl) (y4p l hl w) ?_
 intro w1 hb1
 simp only [zD]
 refine Ks.v (.tuple #[.agg (tkC 0 0 0), .bool false]) ?_
 simp only [zD]
 refine Ks.v (.agg (tkC 0 0 0)) ?_
 simp only [zD]
 refine Ks.v (.bool false) ?_
 simp only [zD]
 refine Ks.alloc rfl _ rfl (.agg (tkC 0 0 0)) (by kernel_rfl) (tkC 0 0 0) rfl ?_
 intro w2 b2 Hb2 HR2 HB2 HS2
 simp only [zD]
 refine Ks.whole rfl _ _ _ rfl b2 (tkC 0 0 0) rfl rfl HR2.out (by kernel_rfl) rfl (by simp [tkC, Value.oneCell']) ?_
 intro w3 HR3 H2 H3 H4
 have HB3 : Hid (Below w.heap.size w w3) := (hb1.trans (HB2.out.mono hb1.size)).trans ((H2.out (fun _ => False) w.heap.size (Or.inr (by rw [Hb2.out]; exact hb1.size))).below (Nat.le_refl _) (fun _ _ h => h))
 clear hb1 HB2 HR2 H2 H3 H4
 simp only [Act.put]
 refine Ks.v (.bool false) ?_
 simp only [zD]
 refine Ks.done ?_
 refine wp_seq ?_
 refine wp_seq ?_
 refine Ks.reg ?_
 refine Ks.v (.bool false) ?_
 simp only [zD]
 refine Ks.v (.bool true) ?_
 simp only [zD]
 refine Ks.done ?_
 refine wp_cond_true rfl ?_
 refine wp_seq ?_
 refine Ks.reg ?_
 refine Ks.v (.int .i64 4) ?_
 simp only [zD]
 refine Ks.done ?_
 refine wp_ret ?_
 repeat (refine Ks.ret ?_)
 refine bodyPost_ret (v := .int .i64 4) (by simp [results, Tryz.results31]) rfl ?_
 exact ⟨rfl, HB3.out⟩
theorem x5k {S : Nat → Prop} {w : World} {g : Nat} {s : St} (h : z0h S w g s) (hI : Inv s) (l : List UInt8) (hl : l.length = 72) (hh : l.head? = some 84) (ht : Hs.z0j w) : Calls Tryz.prog 31 #[.pointer (some ⟨g, 0, none⟩), .string ⟨l.toArray⟩] w fun e w' => e = .returned (.int .i64 (x0k s l).1) ∧ z0h (fun k => S k ∨ w.heap.size ≤ k) w' g (x0k s l).2 ∧ Fr S w.heap.size w w' := by
 have HP : Hid (z0h (fun k => S k ∧ k < w.heap.size) w g s) := h.cut (Nat.le_refl _)
 have hS := h.1
 have hT : ∀ k, (S k ∧ k < w.heap.size) → S k ∨ w.heap.size ≤ k := fun k h => Or.inl h.1
 have HT : Hid (Hs.z0j w) := ht
 have Hadm : Hid (x0k s l = _) := show adm Gw.z0n s l = _ by
  unfold adm
  rw [if_neg (by simp [hl, hh])]
 clear h ht
 go_enter Tryz.func31, Tryz.ntmps31
 refine wp_seq ?_
 refine Ks.reg ?_
 refine Ks.v (.int .i64 0) ?_
 simp only [zD]
 refine Ks.done ?_
 refine wp_seq ?_
 refine Ks.reg ?_
 refine Ks.v (.string ⟨l.toArray⟩) ?_
 simp only [zD]
 refine Ks.pure (by kernel_rfl) 76 #[.string ⟨l.toArray⟩] (by kernel_rfl) (y2k l hl hh w) ?_
 intro w1 hb1
 simp only [zD]
 refine Ks.v (.tuple #[.agg (tkC (z0g l) (z0s l) (z3p l)), .bool true]) ?_
 simp only [zD]
 refine Ks.v (.agg (tkC (z0g l) (z0s l) (z3p l))) ?_
 simp only [zD]
 refine Ks.v (.bool true) ?_
 simp only [zD]
 refine Ks.alloc rfl _ rfl (.agg (tkC 0 0 0)) (by kernel_rfl) (tkC 0 0 0) rfl ?_
 intro w2 b2 Hb2 HR2 HB2 HS2
 simp only [zD]
 refine Ks.whole rfl _ _ _ rfl b2 (tkC (z0g l) (z0s l) (z3p l)) rfl rfl HR2.out (by kernel_rfl) rfl (by simp [tkC, Value.oneCell']) ?_
 intro w3 HR3 H2 H3 H4
 have HB3 : Hid (Below w.heap.size w w3) := (hb1.trans (HB2.out.mono hb1.size)).trans ((H2.out (fun _ => False) w.heap.size (Or.inr (by rw [Hb2.out]; exact hb1.size))).below (Nat.le_refl _) (fun _ _ h => h))
 have HP3 : Hid (z0h (fun k => S k ∧ k < w.heap.size) w3 g s) := HP.out.below HB3.out
 have HT3 : Hid (Hs.z0j w3) := HT.out.below HB3.out HT.out.lt
 have hb2 : w.heap.size ≤ b2 := by rw [Hb2.out]; exact hb1.size
 clear hb1 HB2 HR2 H2 H3 H4 HP HT Hb2 HS2
 simp only [Act.put]
 refine Ks.v (.bool true) ?_
 simp only [zD]
 refine Ks.done ?_
 refine wp_seq ?_
 refine wp_seq ?_
 refine Ks.reg ?_
 refine Ks.v (.bool true) ?_
 simp only [zD]
 refine Ks.v (.bool false) ?_
 simp only [zD]
 refine Ks.done ?_
 refine wp_cond_false rfl ?_
 refine wp_skip ?_
 refine Ks.norm ?_
 refine wp_seq ?_
 refine wp_seq ?_
 refine Ks.reg ?_
 refine Ks.v (.pointer (some ⟨g, 0, none⟩)) ?_
 simp only [zD]
 refine Ks.v (.string ⟨l.toArray⟩) ?_
 simp only [zD]
 obtain ⟨R, hR⟩ : ∃ R, R = Gw.z0n s.key (l.take 8) (l.drop 8) := ⟨_, rfl⟩
 rw [← hR] at Hadm
 refine Ks.pure (by kernel_rfl) 77 #[.pointer (some ⟨g, 0, none⟩), .string ⟨l.toArray⟩] (by kernel_rfl) (v := .bool R) (by rw [hR]; exact x2t HP3.out l 8 hl (by omega) HT3.out) ?_
 intro w4 hb4
 have HB4 : Hid (Below w.heap.size w w4) := HB3.out.trans (hb4.mono HB3.out.size)
 have HP4 : Hid (z0h (fun k => S k ∧ k < w.heap.size) w4 g s) := HP3.out.below hb4
 have HR4 : Hid (w4.heap[b2]? = _) := (hb4.block _ (aL HR3.out)).trans HR3.out
 clear hb4 HB3 HP3 HR3 HT3 hR
 simp only [zD]
 cases R with
 | false =>
  refine Ks.v (.bool true) ?_
  simp only [zD]
  refine Ks.done ?_
  refine wp_cond_true rfl ?_
  refine wp_seq ?_
  refine Ks.reg ?_
  refine Ks.v (.int .i64 5) ?_
  simp only [zD]
  refine Ks.done ?_
  refine wp_ret ?_
  repeat (refine Ks.ret ?_)
  refine bodyPost_ret (v := .int .i64 5) (by simp [results, Tryz.results31]) rfl ?_
  rw [Hadm.out, if_pos rfl]
  exact ⟨rfl, HP4.out.mono hT, Fr.z0z HB4.out (Nat.le_refl _)⟩
 | true =>
  rw [if_neg (by decide)] at Hadm
  refine Ks.v (.bool false) ?_
  simp only [zD]
  refine Ks.done ?_
  refine wp_cond_false rfl ?_
  refine wp_skip ?_
  refine Ks.norm ?_
  refine wp_seq ?_
  refine wp_seq ?_
  refine Qt.y2a (by kernel_rfl) (by kernel_rfl) ?_
  refine Qt.z0b rfl (.pointer (some ⟨b2, 0, none⟩)) (fun _ _ => by kernel_rfl) ?_
  simp only [zD]
  refine z5f rfl _ _ rfl Tryz.underlying3 rfl b2 0 (.int .i64 (z0g l)) rfl (aL HR4.out) (z0c HR4.out 0 rfl) ?_
  simp only [zD]
  refine Qt.z0b rfl (.pointer (some ⟨g, 0, none⟩)) (fun _ _ => by kernel_rfl) ?_
  refine Qt.z0b rfl (.pointer (some ⟨g, 0, none⟩)) (fun _ _ => by kernel_rfl) ?_
  refine Qt.z0b rfl (.pointer (some ⟨g, 3, none⟩)) (fun _ _ => by kernel_rfl) ?_
  simp only [zD]
  refine Qt.z0e rfl 75 #[.pointer (some ⟨g, 3, none⟩)] (.int .i64 s.floor) (fun _ => by kernel_rfl) (fun w' hb => z8p (HP4.out.below hb)) ?_
  simp only [zD]
  refine Qt.z0b rfl (.bool (decide (z0g l < s.floor))) (fun _ _ => by kernel_rfl) ?_
  simp only [zD]
  refine Qt.z1a ?_
  intro w5 hb5
  have HB5 : Hid (Below w.heap.size w w5) := HB4.out.trans (hb5.mono HB4.out.size)
  have HP5 : Hid (z0h (fun k => S k ∧ k < w.heap.size) w5 g s) := HP4.out.below hb5
  have HR5 : Hid (w5.heap[b2]? = _) := (hb5.block _ (aL HR4.out)).trans HR4.out
  clear hb5 HB4 HP4 HR4
  refine Ks.norm ?_
  refine wp_cond_split rfl ?_ ?_
  ·intro hlt
   have hlt := of_decide_eq_true hlt
   refine wp_seq ?_
   refine Ks.reg ?_
   refine Ks.v (.int .i64 6) ?_
   simp only [zD]
   refine Ks.done ?_
   refine wp_ret ?_
   repeat (refine Ks.ret ?_)
   refine bodyPost_ret (v := .int .i64 6) (by simp [results, Tryz.results31]) rfl ?_
   rw [Hadm.out, if_pos hlt]
   exact ⟨rfl, HP5.out.mono hT, Fr.z0z HB5.out (Nat.le_refl _)⟩
  ·intro hlt
   have hlt := of_decide_eq_false hlt
   rw [if_neg hlt] at Hadm
   refine wp_skip ?_
   refine Ks.norm ?_
   refine wp_seq ?_
   refine Ks.reg ?_
   refine Ks.v (.pointer (some ⟨b2, 0, none⟩)) ?_
   simp only [zD]
   refine Ks.cell rfl _ _ rfl Tryz.underlying3 rfl b2 0 (.int .i64 (z0g l)) rfl (z0c HR5.out 0 rfl) ?_
   simp only [zD]
   refine Ks.v (.pointer (some ⟨b2, 1, none⟩)) ?_
   simp only [zD]
   refine Ks.cell rfl _ _ rfl Tryz.underlying3 rfl b2 1 (.int .i64 (z0s l)) rfl (z0c HR5.out 1 rfl) ?_
   simp only [zD]
   refine Ks.v (two (z0g l, z0s l)) ?_
   simp only [zD]
   refine Ks.alloc rfl _ rfl (.agg #[.int .i64 0, .int .i64 0]) (by kernel_rfl) #[.int .i64 0, .int .i64 0] rfl ?_
   intro w6 b6 Hb6 HR6 HB6 HS6
   simp only [zD]
   refine Ks.whole rfl _ _ _ rfl b6 #[.int .i64 (z0g l), .int .i64 (z0s l)] rfl rfl HR6.out (by kernel_rfl) rfl (by simp [Value.oneCell']) ?_
   intro w7 HR7 H2 H3 H4
   have HB7 : Hid (Below w.heap.size w w7) := (HB5.out.trans (HB6.out.mono HB5.out.size)).trans ((H2.out (fun _ => False) w.heap.size (Or.inr (by rw [Hb6.out]; exact HB5.out.size))).below (Nat.le_refl _) (fun _ _ h => h))
   have HP7 : Hid (z0h (fun k => S k ∧ k < w.heap.size) w7 g s) := (HP5.out.below HB6.out).congr (fun _ h => h) fun k hk _ => H3.out k (by rw [Hb6.out]; have := hk.2; have := HB5.out.size; omega)
   have hb6 : w.heap.size ≤ b6 := by rw [Hb6.out]; exact HB5.out.size
   clear H2 H3 H4 HR6 HB6 HS6 HB5 HP5 HR5 Hb6
   simp only [Act.put]
   refine Ks.done ?_
   refine wp_seq ?_
   refine wp_seq ?_
   obtain ⟨U, hU⟩ : ∃ U, U = decide (∃ x ∈ held s.l, x.pass = (z0g l, z0s l)) := ⟨_, rfl⟩
   refine Qt.y2a (by kernel_rfl) (by kernel_rfl) ?_
   refine Qt.z0b rfl (.pointer (some ⟨g, 0, none⟩)) (fun _ _ => by kernel_rfl) ?_
   refine Qt.z0b rfl (.pointer (some ⟨g, 0, none⟩)) (fun _ _ => by kernel_rfl) ?_
   refine Qt.z0b rfl (.pointer (some ⟨g, 3, none⟩)) (fun _ _ => by kernel_rfl) ?_
   simp only [zD]
   refine Qt.z7g rfl _ _ rfl _ rfl _ _ _ _ HR7.out Tryz.underlying150 rfl (by kernel_rfl) ?_
   simp only [zD]
   refine Qt.z0e rfl 78 #[.pointer (some ⟨g, 3, none⟩), two (z0g l, z0s l)] (.bool U) (fun _ => by unfold two; kernel_rfl) (fun w' hb => by rw [hU]; exact k7f (HP7.out.below hb) (z0g l, z0s l)) ?_
   simp only [zD]
   refine Qt.z1a ?_
   intro w8 hb8
   have HB8 : Hid (Below w.heap.size w w8) := HB7.out.trans (hb8.mono HB7.out.size)
   have HP8 : Hid (z0h (fun k => S k ∧ k < w.heap.size) w8 g s) := HP7.out.below hb8
   have HR8 : Hid (w8.heap[b6]? = _) := (hb8.block _ (aL HR7.out)).trans HR7.out
   clear hb8 HB7 HP7 HR7
   refine Ks.norm ?_
   refine wp_cond_split rfl ?_ ?_
   ·intro hu
    have hu := of_decide_eq_true (hU ▸ hu)
    refine wp_seq ?_
    refine Ks.reg ?_
    refine Ks.v (.int .i64 7) ?_
    simp only [zD]
    refine Ks.done ?_
    refine wp_ret ?_
    repeat (refine Ks.ret ?_)
    refine bodyPost_ret (v := .int .i64 7) (by simp [results, Tryz.results31]) rfl ?_
    rw [Hadm.out, if_pos hu]
    exact ⟨rfl, HP8.out.mono hT, Fr.z0z HB8.out (Nat.le_refl _)⟩
   ·intro hu
    have hu := of_decide_eq_false (hU ▸ hu)
    rw [if_neg hu] at Hadm
    refine wp_skip ?_
    refine Ks.norm ?_
    refine wp_seq ?_
    refine wp_seq ?_
    refine Ks.reg ?_
    refine Ks.v (.pointer (some ⟨g, 0, none⟩)) ?_
    simp only [zD]
    refine Ks.v (.pointer (some ⟨g, 0, none⟩)) ?_
    simp only [zD]
    refine Ks.v (.pointer (some ⟨g, 2, none⟩)) ?_
    simp only [zD]
    refine Ks.cell rfl _ _ rfl Tryz.underlying3 rfl g 2 (.int .i64 s.own) rfl HP8.out.y6w ?_
    simp only [zD]
    refine Ks.v (.bool (decide ((1000 : Int) ≤ s.own))) ?_
    simp only [zD]
    refine Ks.done ?_
    refine wp_cond_split rfl ?_ ?_
    ·intro ho
     have ho := of_decide_eq_true ho
     refine wp_seq ?_
     refine Ks.reg ?_
     refine Ks.v (.int .i64 8) ?_
     simp only [zD]
     refine Ks.done ?_
     refine wp_ret ?_
     repeat (refine Ks.ret ?_)
     refine bodyPost_ret (v := .int .i64 8) (by simp [results, Tryz.results31]) rfl ?_
     rw [Hadm.out, if_pos ho]
     exact ⟨rfl, HP8.out.mono hT, Fr.z0z HB8.out (Nat.le_refl _)⟩
    ·intro ho
     have ho := of_decide_eq_false ho
     rw [if_neg ho] at Hadm
     refine wp_skip ?_
     refine Ks.norm ?_
     refine wp_seq ?_
     refine Ks.reg ?_
     refine Ks.v (.pointer (some ⟨g, 0, none⟩)) ?_
     simp only [zD]
     refine Ks.v (.pointer (some ⟨g, 0, none⟩)) ?_
     simp only [zD]
     refine Ks.v (.pointer (some ⟨g, 2, none⟩)) ?_
     simp only [zD]
     refine Ks.cell rfl _ _ rfl Tryz.underlying3 rfl g 2 (.int .i64 s.own) rfl HP8.out.y6w ?_
     simp only [zD]
     refine Ks.val rfl (.int .i64 (s.own + 1)) (by
      have h1 := hI.own
      simp [execOp, go_sem]
      exact IntWalk.i64_in _ ⟨by omega, by omega⟩) ?_
     simp only [zD]
     refine Ks.v (.pointer (some ⟨g, 0, none⟩)) ?_
     simp only [zD]
     refine Ks.v (.pointer (some ⟨g, 2, none⟩)) ?_
     simp only [zD]
     obtain ⟨hS8, vh, vd, vu, hg8, hm8⟩ := HP8.out
     have HG8 : Hid _ := hg8
     have HM8 : Hid (Maps (fun k => S k ∧ k < w.heap.size) w8 vh vd vu s.l) := hm8
     clear hg8 hm8 HP8
     refine Ks.store rfl _ _ _ rfl g 2 _ rfl rfl HG8.out (by show 2 < 8; omega) (by kernel_rfl) rfl (z3h { s with own := s.own + 1 } vh vd vu) rfl ?_
     intro w9 HG9 H2 H3 H4
     have HP9 : Hid (z0h (fun k => S k ∧ k < w.heap.size) w9 g { s with own := s.own + 1 }) := ⟨hS8, vh, vd, vu, HG9.out, HM8.out.stored HG8.out H3.out⟩
     have HF9 : Hid (Fr S w.heap.size w w9) := (Fr.z0z HB8.out (Nat.le_refl _)).trans (H2.out _ _ (Or.inl hS))
     have HR9 : Hid (w9.heap[b6]? = _) := (H3.out b6 (by have := hS8.2; omega)).trans HR8.out
     clear H2 H3 H4 HG9 HM8 HG8 HB8 HR8
     simp only [Act.put]
     refine Ks.done ?_
     refine wp_seq ?_
     refine Qt.z0q 13 (by kernel_rfl) (by kernel_rfl) ?_
     simp only [List.take_succ_cons, List.take_zero]
     refine Qt.z0b rfl (.pointer (some ⟨g, 0, none⟩)) (fun _ _ => by kernel_rfl) ?_
     refine Qt.z0b rfl (.pointer (some ⟨g, 0, none⟩)) (fun _ _ => by kernel_rfl) ?_
     refine Qt.z0b rfl (.pointer (some ⟨g, 3, none⟩)) (fun _ _ => by kernel_rfl) ?_
     refine Qt.z0b rfl (.pointer (some ⟨g, 0, none⟩)) (fun _ _ => by kernel_rfl) ?_
     refine Qt.z0b rfl (.pointer (some ⟨g, 0, none⟩)) (fun _ _ => by kernel_rfl) ?_
     refine Qt.z0b rfl (.pointer (some ⟨g, 0, none⟩)) (fun _ _ => by kernel_rfl) ?_
     simp only [zD]
     refine z5f rfl _ _ rfl Tryz.underlying3 rfl g 0 (.int .i64 s.number) rfl HP9.out.lt HP9.out.q6g ?_
     simp only [zD]
     refine Qt.z0b rfl (.pointer (some ⟨g, 0, none⟩)) (fun _ _ => by kernel_rfl) ?_
     refine Qt.z0b rfl (.pointer (some ⟨g, 0, none⟩)) (fun _ _ => by kernel_rfl) ?_
     refine Qt.z0b rfl (.pointer (some ⟨g, 2, none⟩)) (fun _ _ => by kernel_rfl) ?_
     simp only [zD]
     refine z5f rfl _ _ rfl Tryz.underlying3 rfl g 2 (.int .i64 (s.own + 1)) rfl HP9.out.lt HP9.out.y6w ?_
     simp only [zD]
     refine Qt.z0b rfl (two (s.number, s.own + 1)) (fun _ _ => by kernel_rfl) ?_
     simp only [zD]
     refine Qt.z7g rfl _ _ rfl _ rfl _ _ _ _ HR9.out Tryz.underlying150 rfl (by kernel_rfl) ?_
     simp only [zD]
     refine Qt.z1a ?_
     simp only [List.drop_succ_cons, List.drop_zero]
     intro w10 hb10
     have HP10 : Hid (z0h (fun k => S k ∧ k < w.heap.size) w10 g { s with own := s.own + 1 }) := HP9.out.below hb10
     have HF10 : Hid (Fr S w.heap.size w w10) := HF9.out.calls hb10 HF9.out.size
     clear hb10 HP9 HF9 HR9
     refine Ks.call rfl 79 #[.pointer (some ⟨g, 3, none⟩), two (s.fresh l).key, two (s.fresh l).pass] (by unfold two; kernel_rfl) (R := fun v w' => v = .tuple #[] ∧ z0h (fun k => (S k ∧ k < w.heap.size) ∨ w10.heap.size ≤ k) w' g { s with own := s.own + 1, l := ins (s.fresh l) s.l } ∧ Fr (fun k => S k ∧ k < w.heap.size) w10.heap.size w10 w') ((k2w HP10.out (s.fresh l) (y6e hI l) rfl).mono fun e w' h => ⟨_, h.1, rfl, h.2.1, h.2.2⟩) ?_
     rintro v w11 ⟨rfl, hp11, hf11⟩
     have HF11 : Hid (Fr S w.heap.size w w11) := HF10.out.trans (hf11.mono HF10.out.size fun k _ h => h.1)
     have HP11 : Hid (z0h (fun k => S k ∨ w.heap.size ≤ k) w11 g { s with own := s.own + 1, l := ins (s.fresh l) s.l }) := hp11.mono fun k hk => hk.imp (fun h => h.1) (Nat.le_trans HF10.out.size)
     clear hp11 hf11 HF10 HP10
     simp only [zD]
     refine Ks.done ?_
     refine wp_seq ?_
     refine Ks.reg ?_
     refine Ks.v (.int .i64 0) ?_
     simp only [zD]
     refine Ks.done ?_
     refine wp_ret ?_
     repeat (refine Ks.ret ?_)
     refine bodyPost_ret (v := .int .i64 0) (by simp [results, Tryz.results31]) rfl ?_
     rw [Hadm.out]
     exact ⟨rfl, HP11.out, HF11.out⟩
theorem q7d {S : Nat → Prop} {w : World} {g : Nat} {s : St} (h : z0h S w g s) (hI : Inv s) (l : List UInt8) (ht : Hs.z0j w) : Calls Tryz.prog 31 #[.pointer (some ⟨g, 0, none⟩), .string ⟨l.toArray⟩] w fun e w' => e = .returned (.int .i64 (x0k s l).1) ∧ z0h (fun k => S k ∨ w.heap.size ≤ k) w' g (x0k s l).2 ∧ Fr S w.heap.size w w' := by
 by_cases hl : l.length ≠ 72 ∨ l.head? ≠ some 84
 ·refine (q0q h l hl).mono ?_
  rintro e w' ⟨rfl, hb⟩
  have e1 : x0k s l = (4, s) := if_pos hl
  rw [e1]
  exact ⟨rfl, (h.below hb).mono fun k hk => Or.inl hk, Fr.z0z hb (Nat.le_refl _)⟩
 ·have h1 : l.length = 72 := by
   apply Classical.byContradiction
   exact fun x => hl (Or.inl x)
  have h2 : l.head? = some 84 := by
   apply Classical.byContradiction
   exact fun x => hl (Or.inr x)
  exact x5k h hI l h1 h2 ht
end Gt
open Go Go.RowKit
namespace Gt
open Mp Bk Tk
theorem q1f (g : Nat) (l : List UInt8) (hl : l.length ≠ 67 ∨ l.head? ≠ some 67) (w : World) : Calls Tryz.prog 71 #[.pointer (some ⟨g, 0, none⟩), .string ⟨l.toArray⟩] w fun e w' => e = .returned (.int .i64 4) ∧ Below w.heap.size w w' := by
 go_enter Tryz.func71, Tryz.ntmps71
 refine wp_seq ?_
 refine Ks.reg ?_
 refine Ks.v (.int .i64 0) ?_
 simp only [zD]
 refine Ks.done ?_
 refine wp_seq ?_
 refine Ks.reg ?_
 refine Ks.v (.string ⟨l.toArray⟩) ?_
 simp only [zD]
 refine Ks.pure (by kernel_rfl) 143 #[.string ⟨l.toArray⟩] (by kernel_rfl) (y7i l hl w) ?_
 intro w1 hb1
 simp only [zD]
 refine Ks.v (.tuple #[.int .i64 0, .bool false]) ?_
 simp only [zD]
 refine Ks.v (.int .i64 0) ?_
 simp only [zD]
 refine Ks.v (.bool false) ?_
 simp only [zD]
 refine Ks.v (.int .i64 0) ?_
 simp only [zD]
 refine Ks.v (.bool false) ?_
 simp only [zD]
 refine Ks.done ?_
 refine wp_seq ?_
 refine wp_seq ?_
 refine Ks.reg ?_
 refine Ks.v (.bool false) ?_
 simp only [zD]
 refine Ks.v (.bool true) ?_
 simp only [zD]
 refine Ks.done ?_
 refine wp_cond_true rfl ?_
 refine wp_seq ?_
 refine Ks.reg ?_
 refine Ks.v (.int .i64 4) ?_
 simp only [zD]
 refine Ks.done ?_
 refine wp_ret ?_
 repeat (refine Ks.ret ?_)
 refine bodyPost_ret (v := .int .i64 4) (by simp [results, Tryz.results71]) rfl ?_
 exact ⟨rfl, hb1⟩
theorem x5w {S : Nat → Prop} {w : World} {g : Nat} {s : St} (h : z0h S w g s) (l : List UInt8) (hl : l.length = 67) (hh : l.head? = some 67) (ht : Hs.z0j w) : Calls Tryz.prog 71 #[.pointer (some ⟨g, 0, none⟩), .string ⟨l.toArray⟩] w fun e w' => e = .returned (.int .i64 (y2o s l).1) ∧ z0h S w' g (y2o s l).2 ∧ Fr S w.heap.size w w' := by
 have HP : Hid (z0h S w g s) := h
 have HT : Hid (Hs.z0j w) := ht
 have Hclo : Hid (y2o s l = _) := show clo Gw.z0n s l = _ by
  unfold clo
  rw [if_neg (by simp [hl, hh])]
 clear h ht
 go_enter Tryz.func71, Tryz.ntmps71
 refine wp_seq ?_
 refine Ks.reg ?_
 refine Ks.v (.int .i64 0) ?_
 simp only [zD]
 refine Ks.done ?_
 refine wp_seq ?_
 refine Ks.reg ?_
 refine Ks.v (.string ⟨l.toArray⟩) ?_
 simp only [zD]
 refine Ks.pure (by kernel_rfl) 143 #[.string ⟨l.toArray⟩] (by kernel_rfl) (y4o l hl hh w) ?_
 intro w1 hb1
 have HP1 : Hid (z0h S w1 g s) := HP.out.below hb1
 have HT1 : Hid (Hs.z0j w1) := HT.out.below hb1 HT.out.lt
 have HB1 : Hid (Below w.heap.size w w1) := hb1
 clear hb1 HP HT
 simp only [zD]
 refine Ks.v (.tuple #[.int .i64 (z0g l), .bool true]) ?_
 simp only [zD]
 refine Ks.v (.int .i64 (z0g l)) ?_
 simp only [zD]
 refine Ks.v (.bool true) ?_
 simp only [zD]
 refine Ks.v (.int .i64 (z0g l)) ?_
 simp only [zD]
 refine Ks.v (.bool true) ?_
 simp only [zD]
 refine Ks.done ?_
 refine wp_seq ?_
 refine wp_seq ?_
 refine Ks.reg ?_
 refine Ks.v (.bool true) ?_
 simp only [zD]
 refine Ks.v (.bool false) ?_
 simp only [zD]
 refine Ks.done ?_
 refine wp_cond_false rfl ?_
 refine wp_skip ?_
 refine Ks.norm ?_
 refine wp_seq ?_
 refine wp_seq ?_
 refine Ks.reg ?_
 refine Ks.v (.pointer (some ⟨g, 0, none⟩)) ?_
 simp only [zD]
 refine Ks.v (.string ⟨l.toArray⟩) ?_
 simp only [zD]
 obtain ⟨R, hR⟩ : ∃ R, R = Gw.z0n s.key (l.take 3) (l.drop 3) := ⟨_, rfl⟩
 rw [← hR] at Hclo
 refine Ks.pure (by kernel_rfl) 77 #[.pointer (some ⟨g, 0, none⟩), .string ⟨l.toArray⟩] (by kernel_rfl) (v := .bool R) (by rw [hR]; exact x2t HP1.out l 3 hl (by omega) HT1.out) ?_
 intro w2 hb2
 have HP2 : Hid (z0h S w2 g s) := HP1.out.below hb2
 have HB2 : Hid (Below w.heap.size w w2) := HB1.out.trans (hb2.mono HB1.out.size)
 clear hb2 HP1 HT1 HB1 hR
 simp only [zD]
 cases R with
 | false =>
  refine Ks.v (.bool true) ?_
  simp only [zD]
  refine Ks.done ?_
  refine wp_cond_true rfl ?_
  refine wp_seq ?_
  refine Ks.reg ?_
  refine Ks.v (.int .i64 5) ?_
  simp only [zD]
  refine Ks.done ?_
  refine wp_ret ?_
  repeat (refine Ks.ret ?_)
  refine bodyPost_ret (v := .int .i64 5) (by simp [results, Tryz.results71]) rfl ?_
  rw [Hclo.out, if_pos rfl]
  exact ⟨rfl, HP2.out, Fr.z0z HB2.out (Nat.le_refl _)⟩
 | true =>
  rw [if_neg (by decide)] at Hclo
  refine Ks.v (.bool false) ?_
  simp only [zD]
  refine Ks.done ?_
  refine wp_cond_false rfl ?_
  refine wp_skip ?_
  refine Ks.norm ?_
  refine wp_seq ?_
  refine wp_seq ?_
  refine Ks.reg ?_
  refine Ks.v (.int .i64 (z0g l)) ?_
  simp only [zD]
  refine Ks.v (.pointer (some ⟨g, 0, none⟩)) ?_
  simp only [zD]
  refine Ks.v (.pointer (some ⟨g, 0, none⟩)) ?_
  simp only [zD]
  refine Ks.v (.pointer (some ⟨g, 3, none⟩)) ?_
  simp only [zD]
  refine Ks.pure (by kernel_rfl) 75 #[.pointer (some ⟨g, 3, none⟩)] (by kernel_rfl) (z8p HP2.out) ?_
  intro w3 hb3
  have HP3 : Hid (z0h S w3 g s) := HP2.out.below hb3
  have HB3 : Hid (Below w.heap.size w w3) := HB2.out.trans (hb3.mono HB2.out.size)
  clear hb3 HP2 HB2
  simp only [zD]
  refine Ks.v (.bool (decide (z0g l ≤ s.floor))) ?_
  simp only [zD]
  refine Ks.done ?_
  refine wp_cond_split rfl ?_ ?_
  ·intro hlt
   have hlt := of_decide_eq_true hlt
   refine wp_seq ?_
   refine Ks.reg ?_
   refine Ks.v (.int .i64 6) ?_
   simp only [zD]
   refine Ks.done ?_
   refine wp_ret ?_
   repeat (refine Ks.ret ?_)
   refine bodyPost_ret (v := .int .i64 6) (by simp [results, Tryz.results71]) rfl ?_
   rw [Hclo.out, if_pos hlt]
   exact ⟨rfl, HP3.out, Fr.z0z HB3.out (Nat.le_refl _)⟩
  ·intro hlt
   have hlt := of_decide_eq_false hlt
   rw [if_neg hlt] at Hclo
   refine wp_skip ?_
   refine Ks.norm ?_
   refine wp_seq ?_
   refine Ks.reg ?_
   refine Ks.v (.pointer (some ⟨g, 0, none⟩)) ?_
   simp only [zD]
   refine Ks.v (.int .i64 (z0g l)) ?_
   simp only [zD]
   refine Ks.v (.string ⟨l.toArray⟩) ?_
   simp only [zD]
   refine Ks.call rfl 144 #[.pointer (some ⟨g, 0, none⟩), .int .i64 (z0g l), .string ⟨l.toArray⟩] (by kernel_rfl) (k0z HP3.out l (by omega)) ?_
   rintro v w4 ⟨rfl, hp4, hf4⟩
   simp only [zD]
   refine Ks.done ?_
   refine wp_seq ?_
   refine Ks.reg ?_
   refine Ks.v (.int .i64 0) ?_
   simp only [zD]
   refine Ks.done ?_
   refine wp_ret ?_
   repeat (refine Ks.ret ?_)
   refine bodyPost_ret (v := .int .i64 0) (by simp [results, Tryz.results71]) rfl ?_
   rw [Hclo.out]
   exact ⟨rfl, hp4, (Fr.z0z HB3.out (Nat.le_refl _)).trans (hf4.mono HB3.out.size fun _ _ h => h)⟩
theorem x5v {S : Nat → Prop} {w : World} {g : Nat} {s : St} (h : z0h S w g s) (l : List UInt8) (ht : Hs.z0j w) : Calls Tryz.prog 71 #[.pointer (some ⟨g, 0, none⟩), .string ⟨l.toArray⟩] w fun e w' => e = .returned (.int .i64 (y2o s l).1) ∧ z0h S w' g (y2o s l).2 ∧ Fr S w.heap.size w w' := by
 by_cases hl : l.length ≠ 67 ∨ l.head? ≠ some 67
 ·refine (q1f g l hl w).mono ?_
  rintro e w' ⟨rfl, hb⟩
  have e1 : y2o s l = (4, s) := if_pos hl
  rw [e1]
  exact ⟨rfl, h.below hb, Fr.z0z hb (Nat.le_refl _)⟩
 ·have h1 : l.length = 67 := by
   apply Classical.byContradiction
   exact fun x => hl (Or.inl x)
  have h2 : l.head? = some 67 := by
   apply Classical.byContradiction
   exact fun x => hl (Or.inr x)
  exact x5w h l h1 h2 ht
end Gt
open Go Go.RowKit
namespace Qd
def GW (w w' : World) : Prop := ∃ q os, w' = Sort.grow (w.drewN q) os
theorem GW.refl (w : World) : GW w w := ⟨0, #[], by simp [Sort.grow_empty, World.drewN]⟩
theorem GW.one (w : World) : GW w { w with drawn := w.drawn + 1 } := ⟨1, #[], by simp [Sort.grow_empty, World.drewN]⟩
theorem x3j (w : World) (os : Array Obj) (n : Nat) : (Sort.grow w os).drewN n = Sort.grow (w.drewN n) os := rfl
theorem drewN_drewN (w : World) (n m : Nat) : (w.drewN n).drewN m = w.drewN (n + m) := by simp [World.drewN, Nat.add_assoc]
theorem GW.trans {u v w : World} (h : GW u v) (k : GW v w) : GW u w := by
 obtain ⟨q, os, rfl⟩ := h
 obtain ⟨q', os', rfl⟩ := k
 exact ⟨q + q', os ++ os', by rw [x3j, drewN_drewN, Sort.grow_grow]⟩
theorem GW.alloc {u v : World} (h : GW u v) (o : Obj) : GW u (v.alloc o) := h.trans ⟨0, #[o], by rw [Sort.alloc_eq_grow]; rfl⟩
theorem GW.block {w w' : World} (h : GW w w') {k : Nat} (hk : k < w.heap.size) : w'.heap[k]? = w.heap[k]? := by
 obtain ⟨q, os, rfl⟩ := h
 show (w.heap ++ os)[k]? = _
 rw [Array.getElem?_append_left hk]
theorem GW.below {w w' : World} (h : GW w w') : Below w.heap.size w w' := by
 refine ⟨?_, ?_, ?_, ?_, fun k hk => h.block hk⟩
 all_goals obtain ⟨q, os, rfl⟩ := h
 ·rfl
 ·rfl
 ·rfl
 ·show w.heap.size ≤ (w.heap ++ os).size
  simp
section
variable {P : Program} {ops : Array Oper} {w : World} {Q : Act → Prop} {rest : List Oper} {o : Oper} {a : Act}
theorem off (hw : Region.wanted o (yielded ops a.tmps) = false) (h : wpQuiet P ops (GW w) Q rest (a.put o.dst undef)) : wpQuiet P ops (GW w) Q (o :: rest) a := by
 unfold wpQuiet
 rw [if_neg (by rw [hw]; decide)]
 exact h
theorem val (hw : Region.wanted o (yielded ops a.tmps) = true) (v : Value) (hv : ∀ w', GW w w' → (execOp a.eval o).run P w' = .ok (.value v) w') (h : wpQuiet P ops (GW w) Q rest (a.put o.dst v)) : wpQuiet P ops (GW w) Q (o :: rest) a := by
 unfold wpQuiet
 rw [if_pos hw]
 refine ⟨v, fun w' hw' => ?_, h⟩
 unfold Oper.quietAt
 rw [hv w' hw']
 exact ⟨rfl, rfl⟩
theorem call (hw : Region.wanted o (yielded ops a.tmps) = true) (f : FuncId) (args : Array Value) (v : Value) (hv : ∀ w', (execOp a.eval o).run P w' = .ok (.enter f args) w') (hc : ∀ w', GW w w' → Calls P f args w' fun e w'' => e = .returned v ∧ GW w' w'') (h : wpQuiet P ops (GW w) Q rest (a.put o.dst v)) : wpQuiet P ops (GW w) Q (o :: rest) a := by
 unfold wpQuiet
 rw [if_pos hw]
 refine ⟨v, fun w' hw' => ?_, h⟩
 unfold Oper.quietAt
 rw [hv w']
 exact ⟨rfl, (hc w' hw').mono fun e w'' ⟨he, hb⟩ => ⟨he, hw'.trans hb⟩⟩
theorem cell (hw : Region.wanted o (yielded ops a.tmps) = true) (ty : TypeId) (x : Operand) (ho : o.op = .load ty x) {d : TypeDesc} (hu : P.underlying ty = some d) (hd : d.isRow = false) (b off : Nat) (v : Value) (hx : a.eval x = .pointer (some ⟨b, off, none⟩)) (hb : b < w.heap.size) (hc : w.cell? ⟨b, off, none⟩ = some v)
  (h : wpQuiet P ops (GW w) Q rest (a.put o.dst v)) : wpQuiet P ops (GW w) Q (o :: rest) a := by
 refine val hw v (fun w' hw' => ?_) h
 have h1 := Gt.z4h hu hd (w := w') (b := b) (off := off) (v := v) (by rw [hw'.below.cell (by exact hb)]; exact hc)
 unfold execOp
 simp only [ho, hx, Instr.loadAt, Instr.sureAddr, Sem.run_bind, Sem.run_pure, Result.andThen_ok, h1]
theorem mid (hw : Region.wanted o (yielded ops a.tmps) = true) (ty : TypeId) (x : Operand) (ho : o.op = .load ty x) (b off : Nat) (hx : a.eval x = .pointer (some ⟨b, off, none⟩)) (cs : List Value) {d : TypeDesc} (hb : b < w.heap.size) (hc : w.rangeAt b off cs) (hu : P.underlying ty = some d) (hd : d.isRow = true) (hi : (P.info? ty).map (·.size) = some cs.length)
  (h : wpQuiet P ops (GW w) Q rest (a.put o.dst (.agg cs.toArray))) : wpQuiet P ops (GW w) Q (o :: rest) a := by
 refine val hw (.agg cs.toArray) (fun w' hw' => ?_) h
 have hc' : w'.rangeAt b off cs := fun j v hv => by rw [hw'.below.cell (by exact hb)]; exact hc j v hv
 have h1 := run_loadVar_mid w' b off ty cs d hc' hu hd hi
 unfold execOp
 simp only [ho, hx, Instr.loadAt, Instr.sureAddr, Sem.run_bind, Sem.run_pure, Result.andThen_ok, h1]
end
theorem z0q {P : Program} {id : Nat} {Q : Exit → Act → World → Prop} {a : Act} {w : World} {l : List Oper} (n : Nat) (hm : P.follows .mixedOrders = true) (hB : Region.lexTailB .any l.toArray n = true)
  (h : wpQuiet P l.toArray (GW w) (fun a' => ∀ w', GW w w' → wpList P l.toArray Q (l.drop n) a' w') (l.take n) a) : (Code.region id l.toArray true).wp P Q a w :=
 Qt.z2j (C := GW w) n hm hB (GW.one w) h
end Qd
end Go.Proofs.YtbojijefenfbgaaGreatDoor

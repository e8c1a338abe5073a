/- Walks of posternlaw: makes. Walk of posternlaw: one step of a script. Walks of posternlaw: an empty book is looked at; the script is played. -/
import Derived.Test.YtbojijefenfbgaaGreatDoorGgShort
import Derived.Test.YtbojijefenfbgaaGreatDoorGgRefG
import Derived.Test.YtbojijefenfbgaaGreatDoorGgDocS
namespace Go.Proofs.YtbojijefenfbgaaGreatDoor
open Go Go.RowKit
namespace Gt
open Mp Bk Tk
set_option maxRecDepth 10000 in
theorem makes_no {W B K : Nat} {lv : Value} (num : Int) (k : List UInt8) (c : Int) (w : World)
  (hW : w.heap[W]? = some (.cells (worldC B K lv) 123 (0, 0)))
  (hp : ∀ w, Calls Tryz.prog 35 #[.int .i64 num, .string ⟨k.toArray⟩] w fun e w' => e = .returned (.tuple #[.pointer none, .int .i64 c]) ∧ Below w.heap.size w w')
  (hr : ∀ w, Calls Tryz.prog 129 #[.int .i64 num, .string ⟨k.toArray⟩, .pointer (some ⟨K, 0, none⟩)] w fun e w' => e = .returned (.tuple #[.pointer none, .int .i64 c]) ∧ Below w.heap.size w w') :
  Calls Tryz.prog 64 #[.pointer (some ⟨W, 0, none⟩), .int .i64 num, .string ⟨k.toArray⟩] w fun e w' => e = .returned (.bool true) ∧ Below w.heap.size w w' := by
 have HW : Hid (w.heap[W]? = some (.cells (worldC B K lv) 123 (0, 0))) := hW
 have hWl := (Array.getElem?_eq_some_iff.1 hW).1
 clear hW
 go_enter Tryz.func64, Tryz.ntmps64
 refine wp_seq ?_
 refine Ks.reg ?_
 refine Ks.v (.bool false) ?_
 simp only [Act.put, zA, zB, zC]
 refine Ks.done ?_
 refine wp_seq ?_
 refine Ks.reg ?_
 refine Ks.v (.int .i64 num) ?_
 simp only [Act.put, zA, zB, zC]
 refine Ks.v (.string ⟨k.toArray⟩) ?_
 simp only [Act.put, zA, zB, zC]
 refine Ks.pure (by kernel_rfl) 35 #[.int .i64 num, .string ⟨k.toArray⟩] (by kernel_rfl) (hp w) ?_
 intro w1 hb1
 simp only [Act.put, zA, zB, zC]
 refine Ks.v (.tuple #[.pointer none, .int .i64 c]) ?_
 simp only [Act.put, zA, zB, zC]
 refine Ks.v (.pointer none) ?_
 simp only [Act.put, zA, zB, zC]
 refine Ks.v (.int .i64 c) ?_
 simp only [Act.put, zA, zB, zC]
 refine Ks.v (.pointer none) ?_
 simp only [Act.put, zA, zB, zC]
 refine Ks.v (.int .i64 c) ?_
 simp only [Act.put, zA, zB, zC]
 refine Ks.done ?_
 refine wp_seq ?_
 refine Ks.reg ?_
 refine Ks.v (.int .i64 num) ?_
 simp only [Act.put, zA, zB, zC]
 refine Ks.v (.string ⟨k.toArray⟩) ?_
 simp only [Act.put, zA, zB, zC]
 refine Ks.v (.pointer (some ⟨W, 0, none⟩)) ?_
 simp only [Act.put, zA, zB, zC]
 refine Ks.v (.pointer (some ⟨W, 0, none⟩)) ?_
 simp only [Act.put, zA, zB, zC]
 refine Ks.v (.pointer (some ⟨W, 2, none⟩)) ?_
 simp only [Act.put, zA, zB, zC]
 refine Ks.cell rfl _ _ rfl Tryz.underlying118 rfl W 2 (.pointer (some ⟨K, 0, none⟩)) rfl (row_at ((hb1.block W hWl).trans HW.out) 2 rfl) ?_
 simp only [Act.put, zA, zB, zC]
 refine Ks.pure (by kernel_rfl) 129 #[.int .i64 num, .string ⟨k.toArray⟩, .pointer (some ⟨K, 0, none⟩)] (by kernel_rfl) (hr w1) ?_
 intro w2 hb2
 simp only [Act.put, zA, zB, zC]
 refine Ks.v (.tuple #[.pointer none, .int .i64 c]) ?_
 simp only [Act.put, zA, zB, zC]
 refine Ks.v (.pointer none) ?_
 simp only [Act.put, zA, zB, zC]
 refine Ks.v (.int .i64 c) ?_
 simp only [Act.put, zA, zB, zC]
 refine Ks.v (.pointer none) ?_
 simp only [Act.put, zA, zB, zC]
 refine Ks.v (.int .i64 c) ?_
 simp only [Act.put, zA, zB, zC]
 refine Ks.done ?_
 refine wp_seq ?_
 refine wp_seq ?_
 refine Ks.reg ?_
 refine Ks.v (.int .i64 c) ?_
 simp only [Act.put, zA, zB, zC]
 refine Ks.pure (by kernel_rfl) 22 #[.int .i64 c] (by kernel_rfl) (Gw.num_f c w2) ?_
 intro w3 hb3
 simp only [Act.put, zA, zB, zC]
 refine Ks.v (.int .i64 c) ?_
 simp only [Act.put, zA, zB, zC]
 refine Ks.val rfl (.bool false) (by simp [execOp, go_sem]) ?_
 simp only [Act.put, zA, zB, zC]
 refine Ks.v (.bool false) ?_
 simp only [Act.put, zA, zB, zC]
 refine Ks.valg (by kernel_rfl) (.pointer none) (by kernel_rfl) ?_
 simp only [Act.put, zA, zB, zC]
 refine Ks.valg (by kernel_rfl) (.bool true) (by kernel_rfl) ?_
 simp only [Act.put, zA, zB, zC]
 refine Ks.valg (by kernel_rfl) (.pointer none) (by kernel_rfl) ?_
 simp only [Act.put, zA, zB, zC]
 refine Ks.valg (by kernel_rfl) (.bool true) (by kernel_rfl) ?_
 simp only [Act.put, zA, zB, zC]
 refine Ks.valg (by kernel_rfl) (.bool false) (by kernel_rfl) ?_
 simp only [Act.put, zA, zB, zC]
 refine Ks.v (.bool false) ?_
 simp only [Act.put, zA, zB, zC]
 refine Ks.done ?_
 refine wp_cond_false rfl ?_
 refine wp_skip ?_
 refine Ks.norm ?_
 refine wp_seq ?_
 refine wp_seq ?_
 refine Ks.reg ?_
 refine Ks.v (.pointer none) ?_
 simp only [Act.put, zA, zB, zC]
 refine Ks.v (.bool false) ?_
 simp only [Act.put, zA, zB, zC]
 refine Ks.done ?_
 refine wp_cond_false rfl ?_
 refine wp_skip ?_
 refine Ks.norm ?_
 refine wp_seq ?_
 refine Ks.reg ?_
 refine Ks.v (.bool true) ?_
 simp only [Act.put, zA, zB, zC]
 refine Ks.done ?_
 refine wp_ret ?_
 repeat (refine Ks.ret ?_)
 refine bodyPost_ret (v := .bool true) (by simp [results, Tryz.results64]) rfl ?_
 exact ⟨rfl, (hb1.trans (hb2.mono hb1.size)).trans (hb3.mono (Nat.le_trans hb1.size hb2.size))⟩
theorem prInfo : (Tryz.prog.info? 132).map (fun i => (i.zero, i.size, i.bytes)) = some (some (.agg #[.pointer none, .pointer none]), 2, 16) := by kernel_rfl
set_option maxRecDepth 10000 in
theorem makes_yes {O : Nat → Nat → Prop} {N W B K : Nat} {ps : List Pr} {n : Nat} {lv : Value} {ks : List Asked} (num : Int) (k : List UInt8) (hb : bet 0 num 15 = true) (hk : (Cw.decF k).2 = true) (w : World)
  (h : WIn O N w W B K ps n lv ks) (hn : n ≤ 10000000000) :
  Calls Tryz.prog 64 #[.pointer (some ⟨W, 0, none⟩), .int .i64 num, .string ⟨k.toArray⟩] w fun e w' => e = .returned (.bool true) ∧ (∃ O' lv' p, WIn O' N w' W B K (ps ++ [p]) (n + 1) lv' ks ∧ p.s = p.t) ∧ Below N w w' := by
 have hkl : k.length ≤ 281474976710656 := by
  unfold Cw.decF at hk
  split at hk
  ·omega
  ·simp at hk
 have H : Hid (WIn O N w W B K ps n lv ks) := h
 have hnp := h.np
 clear h
 go_enter Tryz.func64, Tryz.ntmps64
 refine wp_seq ?_
 refine Ks.reg ?_
 refine Ks.v (.bool false) ?_
 simp only [Act.put, zA, zB, zC]
 refine Ks.done ?_
 refine wp_seq ?_
 refine Ks.reg ?_
 refine Ks.v (.int .i64 num) ?_
 simp only [Act.put, zA, zB, zC]
 refine Ks.v (.string ⟨k.toArray⟩) ?_
 simp only [Act.put, zA, zB, zC]
 refine Ks.call rfl 35 #[.int .i64 num, .string ⟨k.toArray⟩] (by kernel_rfl) (new_yes num k hb hk hkl w) ?_
 rintro v1 w1 ⟨⟨gx, rfl, hx⟩, hb1⟩
 simp only [Act.put, zA, zB, zC]
 refine Ks.v (.tuple #[.pointer (some ⟨gx, 0, none⟩), .int .i64 0]) ?_
 simp only [Act.put, zA, zB, zC]
 refine Ks.v (.pointer (some ⟨gx, 0, none⟩)) ?_
 simp only [Act.put, zA, zB, zC]
 refine Ks.v (.int .i64 0) ?_
 simp only [Act.put, zA, zB, zC]
 refine Ks.v (.pointer (some ⟨gx, 0, none⟩)) ?_
 simp only [Act.put, zA, zB, zC]
 refine Ks.v (.int .i64 0) ?_
 simp only [Act.put, zA, zB, zC]
 refine Ks.done ?_
 refine wp_seq ?_
 refine Ks.reg ?_
 refine Ks.v (.int .i64 num) ?_
 simp only [Act.put, zA, zB, zC]
 refine Ks.v (.string ⟨k.toArray⟩) ?_
 simp only [Act.put, zA, zB, zC]
 refine Ks.v (.pointer (some ⟨W, 0, none⟩)) ?_
 simp only [Act.put, zA, zB, zC]
 refine Ks.v (.pointer (some ⟨W, 0, none⟩)) ?_
 simp only [Act.put, zA, zB, zC]
 refine Ks.v (.pointer (some ⟨W, 2, none⟩)) ?_
 simp only [Act.put, zA, zB, zC]
 refine Ks.cell rfl _ _ rfl Tryz.underlying118 rfl W 2 (.pointer (some ⟨K, 0, none⟩)) rfl (row_at (H.out.below hb1).world 2 rfl) ?_
 simp only [Act.put, zA, zB, zC]
 refine Ks.call rfl 129 #[.int .i64 num, .string ⟨k.toArray⟩, .pointer (some ⟨K, 0, none⟩)] (by kernel_rfl) (newR num k K hb w1) ?_
 rintro v2 w2 ⟨hv, hb2⟩
 rw [if_pos hk] at hv
 obtain ⟨gy, rfl, hy⟩ := hv
 simp only [Act.put, zA, zB, zC]
 refine Ks.v (.tuple #[.pointer (some ⟨gy, 0, none⟩), .int .i64 0]) ?_
 simp only [Act.put, zA, zB, zC]
 refine Ks.v (.pointer (some ⟨gy, 0, none⟩)) ?_
 simp only [Act.put, zA, zB, zC]
 refine Ks.v (.int .i64 0) ?_
 simp only [Act.put, zA, zB, zC]
 refine Ks.v (.pointer (some ⟨gy, 0, none⟩)) ?_
 simp only [Act.put, zA, zB, zC]
 refine Ks.v (.int .i64 0) ?_
 simp only [Act.put, zA, zB, zC]
 refine Ks.done ?_
 refine wp_seq ?_
 refine wp_seq ?_
 refine Ks.reg ?_
 refine Ks.v (.int .i64 0) ?_
 simp only [Act.put, zA, zB, zC]
 refine Ks.pure (by kernel_rfl) 22 #[.int .i64 0] (by kernel_rfl) (Gw.num_f 0 w2) ?_
 intro w3 hb3
 have HX : Hid (PGate (fun b => w.heap.size ≤ b ∧ b < w1.heap.size) w3 gx (St.new num k)) := ((hx.cut (Nat.le_refl _)).below hb2).below hb3
 have HY : Hid (RGate (fun b => w1.heap.size ≤ b ∧ b < w2.heap.size) w3 gy (St.new num k) K) := (hy.cut (Nat.le_refl _)).below hb3
 have H3 : Hid (WIn O N w3 W B K ps n lv ks) := ((H.out.below hb1).below hb2).below hb3
 have HB3 : Hid (Below w.heap.size w w3) := (hb1.trans (hb2.mono hb1.size)).trans (hb3.mono (Nat.le_trans hb1.size hb2.size))
 have hs1 := hb1.size
 have hs2 := hb2.size
 have hs3 := hb3.size
 clear hb1 hb2 hb3 hx hy
 simp only [Act.put, zA, zB, zC]
 refine Ks.v (.int .i64 0) ?_
 simp only [Act.put, zA, zB, zC]
 refine Ks.v (.bool false) ?_
 simp only [Act.put, zA, zB, zC]
 refine Ks.v (.bool false) ?_
 simp only [Act.put, zA, zB, zC]
 refine Ks.valg (by kernel_rfl) (.pointer (some ⟨gx, 0, none⟩)) (by kernel_rfl) ?_
 simp only [Act.put, zA, zB, zC]
 refine Ks.valg (by kernel_rfl) (.bool false) (by kernel_rfl) ?_
 simp only [Act.put, zA, zB, zC]
 refine Ks.valg (by kernel_rfl) (.pointer (some ⟨gy, 0, none⟩)) (by kernel_rfl) ?_
 simp only [Act.put, zA, zB, zC]
 refine Ks.valg (by kernel_rfl) (.bool false) (by kernel_rfl) ?_
 simp only [Act.put, zA, zB, zC]
 refine Ks.valg (by kernel_rfl) (.bool false) (by kernel_rfl) ?_
 simp only [Act.put, zA, zB, zC]
 refine Ks.v (.bool false) ?_
 simp only [Act.put, zA, zB, zC]
 refine Ks.done ?_
 refine wp_cond_false rfl ?_
 refine wp_skip ?_
 refine Ks.norm ?_
 refine wp_seq ?_
 refine wp_seq ?_
 refine Ks.reg ?_
 refine Ks.v (.pointer (some ⟨gy, 0, none⟩)) ?_
 simp only [Act.put, zA, zB, zC]
 refine Ks.v (.bool true) ?_
 simp only [Act.put, zA, zB, zC]
 refine Ks.done ?_
 refine wp_cond_true rfl ?_
 refine Ks.reg ?_
 refine Ks.v (.pointer (some ⟨W, 0, none⟩)) ?_
 simp only [Act.put, zA, zB, zC]
 refine Ks.v (.pointer (some ⟨W, 0, none⟩)) ?_
 simp only [Act.put, zA, zB, zC]
 refine Ks.v (.pointer (some ⟨W, 0, none⟩)) ?_
 simp only [Act.put, zA, zB, zC]
 refine Ks.v (.pointer (some ⟨W, 1, none⟩)) ?_
 simp only [Act.put, zA, zB, zC]
 refine Ks.cell rfl _ _ rfl Tryz.underlying121 rfl W 1 lv rfl (row_at H3.out.world 1 rfl) ?_
 simp only [Act.put, zA, zB, zC]
 refine Ks.v (.pointer (some ⟨gx, 0, none⟩)) ?_
 simp only [Act.put, zA, zB, zC]
 refine Ks.v (.pointer (some ⟨gy, 0, none⟩)) ?_
 simp only [Act.put, zA, zB, zC]
 refine Ks.v (.agg #[.pointer (some ⟨gx, 0, none⟩), .pointer (some ⟨gy, 0, none⟩)]) ?_
 simp only [Act.put, zA, zB, zC]
 refine Ks.single rfl 121 132 _ rfl (.agg #[.pointer (some ⟨gx, 0, none⟩), .pointer (some ⟨gy, 0, none⟩)]) (.agg #[.pointer none, .pointer none]) rfl #[.pointer (some ⟨gx, 0, none⟩), .pointer (some ⟨gy, 0, none⟩)] 2 16 Tryz.underlying121 prInfo (by decide) (by decide) (by kernel_rfl) ?_
 intro w4 b4 Hb4 HO4 HB4
 have HR4 : Hid (Row (fun b => O b 3) w4 132 2 lv ps.length (prL ps)) := (H3.out.below HB4.out).row
 have HW4 : Hid (w4.heap[W]? = some (.cells (worldC B K lv) 123 (0, 0))) := (H3.out.below HB4.out).world
 clear Hb4
 simp only [Act.put, zA, zB, zC]
 refine app_row rfl _ _ _ rfl 132 (.agg #[.pointer none, .pointer none]) 2 16 Tryz.underlying121 prInfo rfl (by decide) (by decide) _ _ ps.length (prL ps) rfl HR4.out 1 b4 1 [.pointer (some ⟨gx, 0, none⟩), .pointer (some ⟨gy, 0, none⟩)] rfl (fun j c hc => (cell_of_row w4 b4 j _ _ _ HO4.out).trans (by simpa using hc)) rfl (fun c hc => by
  simp at hc
  rcases hc with rfl | rfl <;> rfl) (by omega) ?_
 intro v5 w5 hrow hgr
 have hne : lv.ownBlock ≠ some W := fun e => absurd (H3.out.one W _ _ (HR4.out.2 W e) H3.out.oW) (by decide)
 have HR5 : Hid (Row (fun b => O b 3 ∨ w3.heap.size ≤ b) w5 132 2 v5 (ps.length + 1) (prL ps ++ prC ⟨gx, gy, St.new num k, St.new num k⟩)) := hrow.mono fun b hb => hb.elim Or.inl fun e => Or.inr (by rw [e]; exact HB4.out.size)
 have HW5 : Hid (w5.heap[W]? = some (.cells (worldC B K lv) 123 (0, 0))) := (hgr.block W (Array.getElem?_eq_some_iff.1 HW4.out).1 (fun e => hne e.symm)).trans HW4.out
 have HF5 : Hid (Fr (fun b => O b 1 ∨ O b 3) w3.heap.size w3 w5) := (Fr.of_below HB4.out (Nat.le_refl _)).grown hgr HB4.out.size fun b hb => Or.inl (Or.inr (HR4.out.2 b hb))
 clear hrow hgr HR4 HW4 HO4 HB4
 simp only [Act.put, zA, zB, zC]
 refine Ks.v (.pointer (some ⟨W, 0, none⟩)) ?_
 simp only [Act.put, zA, zB, zC]
 refine Ks.v (.pointer (some ⟨W, 1, none⟩)) ?_
 simp only [Act.put, zA, zB, zC]
 refine Ks.store rfl _ _ _ rfl W 1 _ rfl rfl HW5.out (by show 1 < 3; omega) (by kernel_rfl) (row_one HR5.out) (worldC B K v5) rfl ?_
 intro w9 HW9 G2 G3 G4
 have hne5 : v5.ownBlock ≠ some W := fun e => (HR5.out.2 W e).elim (fun x => absurd (H3.out.one W _ _ x H3.out.oW) (by decide)) (fun x => absurd (H3.out.lt W 1 H3.out.oW).2 (by omega))
 have HR9 : Hid (Row (fun b => O b 3 ∨ w3.heap.size ≤ b) w9 132 2 v5 (ps.length + 1) (prL ps ++ prC ⟨gx, gy, St.new num k, St.new num k⟩)) := HR5.out.congr fun b hb => G3.out b (fun e => hne5 (by rw [hb, e]))
 have HF9 : Hid (Fr (fun b => O b 1 ∨ O b 3) w3.heap.size w3 w9) := HF5.out.trans (G2.out _ _ (Or.inl (Or.inl H3.out.oW)))
 clear G2 G3 G4 HW5 HR5 HF5
 simp only [Act.put]
 refine Ks.done ?_
 refine wp_seq ?_
 refine Ks.reg ?_
 refine Ks.v (.bool true) ?_
 simp only [Act.put, zA, zB, zC]
 refine Ks.done ?_
 refine wp_ret ?_
 repeat (refine Ks.ret ?_)
 refine bodyPost_ret (v := .bool true) (by simp [results, Tryz.results64]) rfl ?_
 have hbd : 0 ≤ num ∧ num ≤ 15 := bet_true hb
 have hB : Below N w w3 := HB3.out.mono H.out.wN
 have hwN := H.out.wN
 obtain ⟨O', hO'⟩ := H3.out.push (p := ⟨gx, gy, St.new num k, St.new num k⟩) HX.out HY.out (Inv.new hbd) (Inv.new hbd) (fun b hb => ⟨by omega, by omega, fun i hi => absurd (H.out.lt b i hi).2 (by omega)⟩) (fun b hb => ⟨by omega, by omega, fun i hi => absurd (H.out.lt b i hi).2 (by omega)⟩) (fun b hb => by omega) HF9.out HW9.out HR9.out
 exact ⟨rfl, ⟨O', _, _, hO', rfl⟩, hB.trans (H3.out.belowN HF9.out fun b hb => hb.elim (fun x => ⟨_, x⟩) (fun x => ⟨_, x⟩))⟩
def WAt (N : Nat) (w : World) (W B K : Nat) (ps : List Pr) (n : Nat) : Prop := (∃ O lv ks, WIn O N w W B K ps n lv ks) ∧ ∀ p ∈ ps, p.s = p.t
theorem WAt.below {N : Nat} {w w' : World} {W B K : Nat} {ps : List Pr} {n : Nat} (h : WAt N w W B K ps n) (hb : Below w.heap.size w w') : WAt N w' W B K ps n := by
 obtain ⟨⟨O, lv, ks, h⟩, he⟩ := h
 exact ⟨⟨O, lv, ks, h.below hb⟩, he⟩
def made (num : Int) (k : List UInt8) : Prop := bet 0 num 15 = true ∧ (Cw.decF k).2 = true
theorem makes_f {N W B K : Nat} {ps : List Pr} {n : Nat} (num : Int) (k : List UInt8) (w : World) (h : WAt N w W B K ps n) (hn : n ≤ 10000000000) :
  Calls Tryz.prog 64 #[.pointer (some ⟨W, 0, none⟩), .int .i64 num, .string ⟨k.toArray⟩] w fun e w' => e = .returned (.bool true) ∧ (∃ ps', WAt N w' W B K ps' (n + 1) ∧ (made num k → ps'.length = ps.length + 1) ∧ ps.length ≤ ps'.length) ∧ Below N w w' := by
 obtain ⟨⟨O, lv, ks, h⟩, he⟩ := h
 by_cases hb : bet 0 num 15 = true
 ·by_cases hk : (Cw.decF k).2 = true
  ·refine (makes_yes num k hb hk w h hn).mono ?_
   rintro e w' ⟨h1, ⟨O', lv', p, h2, h3⟩, h4⟩
   refine ⟨h1, ⟨ps ++ [p], ⟨⟨O', lv', ks, h2⟩, ?_⟩, fun _ => by simp, by simp⟩, h4⟩
   intro q hq
   rcases List.mem_append.1 hq with hq | hq
   ·exact he q hq
   ·simp at hq
    rw [hq]
    exact h3
  ·have hk' : (Cw.decF k).2 = false := by simpa using hk
   refine (makes_no num k 3 w h.world (fun w => new_key num k hb hk' w) (fun w => (newR num k K hb w).mono ?_)).mono ?_
   ·rintro e w' ⟨v, h1, h2, h3⟩
    rw [if_neg hk] at h2
    exact ⟨by rw [h1, h2], h3⟩
   ·rintro e w' ⟨h1, h2⟩
    exact ⟨h1, ⟨ps, ⟨⟨O, lv, ks, (h.below h2).more (Nat.le_succ n)⟩, he⟩, fun hm => absurd hm.2 hk, Nat.le_refl _⟩, h2.mono h.wN⟩
 ·have hb' : bet 0 num 15 = false := by simpa using hb
  refine (makes_no num k 2 w h.world (fun w => new_num num k hb' w) (fun w => newR_no num k K hb' w)).mono ?_
  rintro e w' ⟨h1, h2⟩
  exact ⟨h1, ⟨ps, ⟨⟨O, lv, ks, (h.below h2).more (Nat.le_succ n)⟩, he⟩, fun hm => absurd hm.1 hb, Nat.le_refl _⟩, h2.mono h.wN⟩
def pickN (c : Int) (m : Nat) : Nat := if c < 0 then (-(c + 1)).toNat % m else c.toNat % m
theorem pickN_lt {c : Int} {m : Nat} (h : 0 < m) : pickN c m < m := by
 unfold pickN
 split <;> exact Nat.mod_lt _ h
theorem pick_p (c : Int) (m : Nat) (hc : -9223372036854775808 ≤ c ∧ c < 9223372036854775808) (hm : 0 < m) (w : World) : Calls Tryz.prog 130 #[.int .i64 c, .int .i64 (m : Int)] w fun e w' => e = .returned (.int .i64 (pickN c m : Int)) ∧ Below w.heap.size w w' := by
 go_enter Tryz.func130, Tryz.ntmps130
 refine wp_seq ?_
 refine Ks.reg ?_
 refine Ks.v (.int .i64 0) ?_
 simp only [Act.put, zA, zB, zC]
 refine Ks.done ?_
 refine wp_seq ?_
 refine wp_seq ?_
 refine Ks.reg ?_
 refine Ks.v (.int .i64 c) ?_
 simp only [Act.put, zA, zB, zC]
 by_cases h0 : c < 0
 ·refine Ks.val rfl (.bool true) (by simp [execOp, go_sem, h0]) ?_
  simp only [Act.put, zA, zB, zC]
  refine Ks.done ?_
  refine wp_cond_true rfl ?_
  refine Ks.reg ?_
  refine Ks.v (.int .i64 c) ?_
  simp only [Act.put, zA, zB, zC]
  refine Ks.val rfl (.int .i64 (c + 1)) (by
   simp [execOp, go_sem]
   exact Dc.wrap64 (by omega) (by omega)) ?_
  simp only [Act.put, zA, zB, zC]
  refine Ks.val rfl (.int .i64 (-(c + 1))) (by
   simp [execOp, go_sem]
   exact Dc.wrap64 (by omega) (by omega)) ?_
  simp only [Act.put, zA, zB, zC]
  refine Ks.v (.int .i64 (-(c + 1))) ?_
  simp only [Act.put, List.setIfInBounds_toArray, List.set_cons_zero]
  refine Ks.done ?_
  refine wp_seq ?_
  refine Ks.reg ?_
  obtain ⟨d, hd⟩ : ∃ d : Nat, (d : Int) = -(c + 1) := ⟨(-(c + 1)).toNat, by omega⟩
  have hv : pickN c m = d % m := by
   unfold pickN
   rw [if_pos h0, ← hd]
   rfl
  rw [← hd]
  refine Ks.v (.int .i64 (d : Int)) ?_
  simp only [Act.put, zA, zB, zC]
  refine Ks.v (.int .i64 (m : Int)) ?_
  simp only [Act.put, zA, zB, zC]
  have hrem : ((d : Int).tmod (m : Int)) = ((d % m : Nat) : Int) := by simp [Int.tmod_eq_emod_of_nonneg (Int.natCast_nonneg d)]
  refine Ks.val rfl (.int .i64 ((d % m : Nat) : Int)) (by
   simp [execOp, go_sem, hrem]
   omega) ?_
  simp only [Act.put, zA, zB, zC]
  refine Ks.v (.int .i64 ((d % m : Nat) : Int)) ?_
  simp only [Act.put, zA, zB, zC]
  refine Ks.done ?_
  refine wp_ret ?_
  repeat (refine Ks.ret ?_)
  refine bodyPost_ret (v := .int .i64 ((d % m : Nat) : Int)) (by simp [results, Tryz.results130]) rfl ?_
  exact ⟨by rw [hv], Below.refl _ _⟩
 ·refine Ks.val rfl (.bool false) (by simp [execOp, go_sem, h0]) ?_
  simp only [Act.put, zA, zB, zC]
  refine Ks.done ?_
  refine wp_cond_false rfl ?_
  refine wp_skip ?_
  refine Ks.norm ?_
  refine wp_seq ?_
  refine Ks.reg ?_
  obtain ⟨d, rfl⟩ : ∃ d : Nat, c = (d : Int) := ⟨c.toNat, by omega⟩
  have hv : pickN d m = d % m := by
   unfold pickN
   rw [if_neg h0]
   rfl
  refine Ks.v (.int .i64 (d : Int)) ?_
  simp only [Act.put, zA, zB, zC]
  refine Ks.v (.int .i64 (m : Int)) ?_
  simp only [Act.put, zA, zB, zC]
  have hrem : ((d : Int).tmod (m : Int)) = ((d % m : Nat) : Int) := by simp [Int.tmod_eq_emod_of_nonneg (Int.natCast_nonneg d)]
  refine Ks.val rfl (.int .i64 ((d % m : Nat) : Int)) (by
   simp [execOp, go_sem, hrem]
   omega) ?_
  simp only [Act.put, zA, zB, zC]
  refine Ks.v (.int .i64 ((d % m : Nat) : Int)) ?_
  simp only [Act.put, zA, zB, zC]
  refine Ks.done ?_
  refine wp_ret ?_
  repeat (refine Ks.ret ?_)
  refine bodyPost_ret (v := .int .i64 ((d % m : Nat) : Int)) (by simp [results, Tryz.results130]) rfl ?_
  exact ⟨by rw [hv], Below.refl _ _⟩
end Gt
end Go.Proofs.YtbojijefenfbgaaGreatDoor
namespace Go.Proofs.YtbojijefenfbgaaGreatDoor
open Go Go.RowKit
namespace Gt
open Mp Bk Tk
structure Sp where
 kind : Int
 on : Int
 tgt : Int
 n : Int
 text : List UInt8
 floor : Value
 seen : Value
 order : Value
 heard : Value
def spC (o : Sp) : List Value := [.int .i64 o.kind, .int .i64 o.on, .int .i64 o.tgt, .int .i64 o.n, .string ⟨o.text.toArray⟩, o.floor, o.seen, o.order, o.heard]
theorem WAt.lt {N : Nat} {w : World} {W B K : Nat} {ps : List Pr} {n : Nat} (h : WAt N w W B K ps n) : N ≤ w.heap.size ∧ W < w.heap.size := by
 obtain ⟨⟨O, lv, ks, h⟩, _⟩ := h
 exact ⟨h.wN, (h.lt W 1 h.oW).2⟩
theorem even_set {ps : List Pr} (he : ∀ p ∈ ps, p.s = p.t) {i : Nat} {q : Pr} (hq : q.s = q.t) : ∀ p ∈ ps.set i q, p.s = p.t := fun p hp => by
 rcases List.mem_or_eq_of_mem_set hp with h | h
 ·exact he p h
 ·rw [h]; exact hq
theorem map_four {l : List Field} {a b c d : String × TypeId × Nat} (h : l.map (fun f => (f.name, f.type, f.offset)) = [a, b, c, d]) : ∃ f g k m : Field, l = [f, g, k, m] ∧ (f.name, f.type, f.offset) = a ∧ (g.name, g.type, g.offset) = b ∧ (k.name, k.type, k.offset) = c ∧ (m.name, m.type, m.offset) = d := by
 match l, h with
 | [], h => simp at h
 | [f], h => simp at h
 | [f, g], h => simp at h
 | [f, g, k], h => simp at h
 | [f, g, k, m], h =>
  simp only [List.map_cons, List.map_nil, List.cons.injEq, and_true] at h
  exact ⟨f, g, k, m, rfl, h.1, h.2.1, h.2.2.1, h.2.2.2⟩
 | f :: g :: k :: m :: n :: r, h => simp at h
set_option maxRecDepth 100000 in
theorem eq_state (s : St) (w : World) : (Op.equalIn 10000 129 (.agg (stC s)) (.agg (stC s))).run Tryz.prog w = .ok true w := by
 have hs := run_equalIn_struct (P := Tryz.prog) w 9999 129 (stC s) (stC s) (by kernel_rfl) (by kernel_rfl)
 have hf : (Tryz.prog.fieldsOf 129).toList.map (fun f => (f.name, f.type, f.offset)) = [("Floor", 3, 0), ("Own", 3, 1), ("Known", 3, 2), ("Held", 3, 3)] := by kernel_rfl
 obtain ⟨f, g, k, m, hl, h1, h2, h3, h4⟩ := map_four hf
 injection h1 with f1 h1
 injection h1 with f2 f3
 injection h2 with g1 h2
 injection h2 with g2 g3
 injection h3 with k1 h3
 injection h3 with k2 k3
 injection h4 with m1 h4
 injection h4 with m2 m3
 have p0 := run_part_plain (P := Tryz.prog) w (e := 3) (xs := stC s) (off := 0) (v := .int .i64 s.floor) (by kernel_rfl) rfl
 have p1 := run_part_plain (P := Tryz.prog) w (e := 3) (xs := stC s) (off := 1) (v := .int .i64 s.own) (by kernel_rfl) rfl
 have p2 := run_part_plain (P := Tryz.prog) w (e := 3) (xs := stC s) (off := 2) (v := .int .i64 s.l.length) (by kernel_rfl) rfl
 have p3 := run_part_plain (P := Tryz.prog) w (e := 3) (xs := stC s) (off := 3) (v := .int .i64 (held s.l).length) (by kernel_rfl) rfl
 have e3 : ∀ x : Int, (Op.equalIn 9999 3 (.int .i64 x) (.int .i64 x)).run Tryz.prog w = .ok true w := fun x => by
  simp [go_sem]
 show (Op.equalIn (9999 + 1) _ _ _).run _ w = _
 rw [hs, hl]
 simp [Op.eqFields, f1, g1, k1, m1, f2, g2, k2, m2, f3, g3, k3, m3, p0, p1, p2, p3, e3, Result.andThen_ok]
set_option maxRecDepth 10000 in
set_option maxHeartbeats 1000000 in
theorem step_f {N W B K : Nat} {ps : List Pr} {n : Nat} (o : Sp) (w : World) (h : WAt N w W B K ps n) (hn : n ≤ 10000000000) (hp0 : 0 < ps.length) (h4 : o.kind ≤ 4) (hon : -9223372036854775808 ≤ o.on ∧ o.on < 9223372036854775808) (ht : Hs.TabAt w) (_hN : 0 < N) :
  Calls Tryz.prog 65 #[.pointer (some ⟨W, 0, none⟩), .agg (spC o).toArray] w fun e w' => e = .returned (.bool true) ∧ (∃ ps', WAt N w' W B K ps' (n + 1) ∧ ps.length ≤ ps'.length) ∧ Below N w w' := by
 obtain ⟨hwN, hWl⟩ := h.lt
 have H : Hid (WAt N w W B K ps n) := h
 have HT : Hid (Hs.TabAt w) := ht
 clear h ht
 go_enter Tryz.func65, Tryz.ntmps65
 refine wp_seq ?_
 refine Ks.reg ?_
 refine Ks.box rfl _ _ rfl (spC o).toArray rfl ?_
 intro w1 ob Hob HO1 HB1 HS1
 have hob : w.heap.size ≤ ob := Nat.le_of_eq Hob.out.symm
 clear Hob HS1
 simp only [Act.put, zA, zB, zC]
 refine Ks.v (.bool false) ?_
 simp only [Act.put, zA, zB, zC]
 refine Ks.done ?_
 refine wp_seq ?_
 refine wp_seq ?_
 refine Ks.reg ?_
 refine Ks.v (.pointer (some ⟨ob, 0, none⟩)) ?_
 simp only [Act.put, zA, zB, zC]
 refine Ks.cell rfl _ _ rfl Tryz.underlying3 rfl ob 0 (.int .i64 o.kind) rfl (row_at HO1.out 0 rfl) ?_
 simp only [Act.put, zA, zB, zC]
 by_cases hk1 : o.kind = 1
 ·refine Ks.val rfl (.bool true) (by simp [execOp, go_sem, hk1]) ?_
  simp only [Act.put, zA, zB, zC]
  refine Ks.done ?_
  refine wp_cond_true rfl ?_
  refine wp_seq ?_
  refine Ks.reg ?_
  refine Ks.v (.pointer (some ⟨W, 0, none⟩)) ?_
  simp only [Act.put, zA, zB, zC]
  refine Ks.v (.pointer (some ⟨ob, 3, none⟩)) ?_
  simp only [Act.put, zA, zB, zC]
  refine Ks.cell rfl _ _ rfl Tryz.underlying3 rfl ob 3 (.int .i64 o.n) rfl (row_at HO1.out 3 rfl) ?_
  simp only [Act.put, zA, zB, zC]
  refine Ks.v (.pointer (some ⟨ob, 4, none⟩)) ?_
  simp only [Act.put, zA, zB, zC]
  refine Ks.cell rfl _ _ rfl Tryz.underlying9 rfl ob 4 (.string ⟨o.text.toArray⟩) rfl (row_at HO1.out 4 rfl) ?_
  simp only [Act.put, zA, zB, zC]
  refine Ks.call rfl 64 #[.pointer (some ⟨W, 0, none⟩), .int .i64 o.n, .string ⟨o.text.toArray⟩] (by kernel_rfl) (R := fun v w' => v = .bool true ∧ (∃ ps', WAt N w' W B K ps' (n + 1) ∧ ps.length ≤ ps'.length) ∧ Below N w1 w') ((makes_f o.n o.text w1 (H.out.below HB1.out) hn).mono ?_) ?_
  ·rintro e w' ⟨e1, ⟨ps', h1, _, h2⟩, h3⟩
   exact ⟨_, e1, rfl, ⟨ps', h1, h2⟩, h3⟩
  rintro v w2 ⟨rfl, h1, h2⟩
  simp only [Act.put, zA, zB, zC]
  refine Ks.v (.bool true) ?_
  simp only [Act.put, zA, zB, zC]
  refine Ks.done ?_
  refine wp_ret ?_
  repeat (refine Ks.ret ?_)
  refine bodyPost_ret (v := .bool true) (by simp [results, Tryz.results65]) rfl ?_
  exact ⟨rfl, h1, (HB1.out.mono hwN).trans h2⟩
 ·refine Ks.val rfl (.bool false) (by simp [execOp, go_sem, hk1]) ?_
  simp only [Act.put, zA, zB, zC]
  refine Ks.done ?_
  refine wp_cond_false rfl ?_
  refine wp_skip ?_
  refine Ks.norm ?_
  refine wp_seq ?_
  obtain ⟨⟨O, lv, ks, hW⟩, he⟩ := H.out
  obtain ⟨gb, cap, cur, rfl, hgb, hg, hcap, hcap2, hsz, htk⟩ := hW.row.cases.resolve_left (fun x => absurd x.2.1 (by omega))
  have hnp := hW.np
  have H1 : Hid (WIn O N w1 W B K ps n (.slice (some ⟨gb, 0, none⟩) ps.length cap) ks) := hW.below HB1.out
  have HG1 : Hid (w1.heap[gb]? = some (.cells cur 132 (0, 0))) := (HB1.out.block gb (hW.lt gb 3 hgb).2).trans hg
  have hgl : gb < w1.heap.size := (Array.getElem?_eq_some_iff.1 HG1.out).1
  have hWl1 : W < w1.heap.size := Nat.lt_of_lt_of_le hWl HB1.out.size
  have hobl : ob < w1.heap.size := (Array.getElem?_eq_some_iff.1 HO1.out).1
  obtain ⟨i, hi⟩ : ∃ i, i = pickN o.on ps.length := ⟨_, rfl⟩
  have hil : i < ps.length := by rw [hi]; exact pickN_lt hp0
  obtain ⟨p, hp⟩ : ∃ p, ps[i]? = some p := ⟨_, List.getElem?_eq_getElem hil⟩
  have HRg : Hid (w1.rangeAt gb (i * 2) (prC p)) := Row.range (f := prC) (m := 2) (fun _ => rfl) HG1.out htk hp
  have HE : Hid (∀ p ∈ ps, p.s = p.t) := he
  have HOl : Hid (∀ b j, O b j → b < w.heap.size) := fun b j hb => (hW.lt b j hb).2
  have hs1 := HB1.out.size
  clear hW hg he H htk
  refine Qt.wp_let 14 (by kernel_rfl) (by kernel_rfl) _ rfl 132 rfl #[.pointer none, .pointer none] (by kernel_rfl) ?_
  simp only [List.take_succ_cons, List.take_zero]
  refine Qt.y_val rfl (.pointer (some ⟨W, 0, none⟩)) (fun _ _ => by kernel_rfl) ?_
  refine Qt.y_val rfl (.pointer (some ⟨W, 0, none⟩)) (fun _ _ => by kernel_rfl) ?_
  refine Qt.y_val rfl (.pointer (some ⟨W, 1, none⟩)) (fun _ _ => by kernel_rfl) ?_
  simp only [Act.put, zA, zB, zC]
  refine y_cell rfl _ _ rfl Tryz.underlying121 rfl W 1 (.slice (some ⟨gb, 0, none⟩) ps.length cap) rfl hWl1 (row_at H1.out.world 1 rfl) ?_
  simp only [Act.put, zA, zB, zC]
  refine Qt.y_val rfl (.pointer (some ⟨ob, 1, none⟩)) (fun _ _ => by kernel_rfl) ?_
  simp only [Act.put, zA, zB, zC]
  refine y_cell rfl _ _ rfl Tryz.underlying3 rfl ob 1 (.int .i64 o.on) rfl hobl (row_at HO1.out 1 rfl) ?_
  simp only [Act.put, zA, zB, zC]
  refine Qt.y_val rfl (.pointer (some ⟨W, 0, none⟩)) (fun _ _ => by kernel_rfl) ?_
  refine Qt.y_val rfl (.pointer (some ⟨W, 0, none⟩)) (fun _ _ => by kernel_rfl) ?_
  refine Qt.y_val rfl (.pointer (some ⟨W, 1, none⟩)) (fun _ _ => by kernel_rfl) ?_
  simp only [Act.put, zA, zB, zC]
  refine y_cell rfl _ _ rfl Tryz.underlying121 rfl W 1 (.slice (some ⟨gb, 0, none⟩) ps.length cap) rfl hWl1 (row_at H1.out.world 1 rfl) ?_
  simp only [Act.put, zA, zB, zC]
  refine Qt.y_val rfl (.int .i64 (ps.length : Int)) (fun _ _ => by kernel_rfl) ?_
  simp only [Act.put, zA, zB, zC]
  refine Qt.y_call rfl 130 #[.int .i64 o.on, .int .i64 (ps.length : Int)] (.int .i64 (i : Int)) (fun _ => by kernel_rfl) (fun w' _ => by rw [hi]; exact pick_p o.on ps.length hon hp0 w') ?_
  simp only [Act.put, zA, zB, zC]
  refine Ks.y_idx rfl _ _ _ rfl 132 2 Tryz.underlying121 (by kernel_rfl) (by kernel_rfl) gb ps.length cap i rfl rfl hil ?_
  simp only [Act.put, zA, zB, zC]
  refine Qt.y_mid rfl _ _ rfl gb (i * 2) rfl (prC p) _ hgl HRg.out Tryz.underlying132 rfl (by kernel_rfl) ?_
  simp only [Act.put, zA, zB, zC]
  refine Qt.y_nil ?_
  simp only [List.drop_succ_cons, List.drop_zero]
  intro pb w2 hbe2 hpb hz2
  simp only [List.setIfInBounds_toArray, List.set_cons_zero, List.set_cons_succ]
  refine Ks.whole rfl _ _ _ rfl pb (prC p).toArray rfl rfl hz2 (by kernel_rfl) rfl (by simp [prC, Value.oneCell']) ?_
  intro w3 HP3 G2 G3 G4
  have HB3 : Hid (Below w1.heap.size w1 w3) := hbe2.trans ((G2.out (fun _ => False) w1.heap.size (Or.inr (by omega))).below (Nat.le_refl _) (fun _ _ h => h))
  have HO3 : Hid (w3.heap[ob]? = some (.cells (spC o).toArray 126 (0, 0))) := (HB3.out.block ob hobl).trans HO1.out
  have H3 : Hid (WIn O N w3 W B K ps n (.slice (some ⟨gb, 0, none⟩) ps.length cap) ks) := H1.out.below HB3.out
  have HBw : Hid (Below w.heap.size w w3) := HB1.out.trans (HB3.out.mono HB1.out.size)
  have HT3 : Hid (Hs.TabAt w3) := HT.out.below HBw.out HT.out.lt
  clear G2 G3 G4 hz2 hbe2 HB3 HRg HG1 H1 HO1 HB1 HT
  simp only [Act.put]
  refine Ks.done ?_
  refine wp_seq ?_
  refine wp_seq ?_
  refine Ks.reg ?_
  refine Ks.v (.pointer (some ⟨ob, 0, none⟩)) ?_
  simp only [Act.put, zA, zB, zC]
  refine Ks.cell rfl _ _ rfl Tryz.underlying3 rfl ob 0 (.int .i64 o.kind) rfl (row_at HO3.out 0 rfl) ?_
  simp only [Act.put, zA, zB, zC]
  refine Ks.done ?_
  refine wp_block ?_
  refine wp_seq ?_
  refine Ks.reg ?_
  by_cases hk2 : o.kind = 2
  ·refine Ks.val rfl (.bool true) (by simp [execOp, go_sem, hk2]) ?_
   simp only [Act.put, zA, zB, zC]
   refine Ks.v (.bool true) ?_
   simp only [Act.put, zA, zB, zC]
   refine Ks.done ?_
   refine wp_cond_true rfl ?_
   refine wp_seq ?_
   refine Ks.reg ?_
   refine Ks.v (.pointer (some ⟨pb, 0, none⟩)) ?_
   simp only [Act.put, zA, zB, zC]
   refine Ks.cell rfl _ _ rfl Tryz.underlying62 rfl pb 0 (.pointer (some ⟨p.x, 0, none⟩)) rfl (row_at HP3.out 0 rfl) ?_
   simp only [Act.put, zA, zB, zC]
   refine Ks.v (.pointer (some ⟨ob, 4, none⟩)) ?_
   simp only [Act.put, zA, zB, zC]
   refine Ks.cell rfl _ _ rfl Tryz.underlying9 rfl ob 4 (.string ⟨o.text.toArray⟩) rfl (row_at HO3.out 4 rfl) ?_
   simp only [Act.put, zA, zB, zC]
   obtain ⟨hgx, _, hIs, _⟩ := H3.out.gates i p hp
   refine Ks.call rfl 31 #[.pointer (some ⟨p.x, 0, none⟩), .string ⟨o.text.toArray⟩] (by kernel_rfl) (R := fun v w' => v = .int .i64 (admE p.s o.text).1 ∧ PGate (fun b => O b (5 + 2 * i) ∨ w3.heap.size ≤ b) w' p.x (admE p.s o.text).2 ∧ Fr (fun b => O b (5 + 2 * i)) w3.heap.size w3 w') ((admit_p hgx hIs o.text HT3.out).mono ?_) ?_
   ·rintro e w' ⟨e1, e2, e3⟩
    exact ⟨_, e1, rfl, e2, e3⟩
   rintro v w4 ⟨rfl, hg4, hf4⟩
   have HP4 : Hid (w4.heap[pb]? = some (.cells (prC p).toArray 132 (0, 0))) := (hf4.block pb (Array.getElem?_eq_some_iff.1 HP3.out).1 (fun hx => absurd (HOl.out pb _ hx) (by omega))).trans HP3.out
   have HO4 : Hid (w4.heap[ob]? = some (.cells (spC o).toArray 126 (0, 0))) := (hf4.block ob (Array.getElem?_eq_some_iff.1 HO3.out).1 (fun hx => absurd (HOl.out ob _ hx) (by omega))).trans HO3.out
   obtain ⟨O4, hW4⟩ := H3.out.turnP hp (hIs.adm _ o.text) hf4 hg4
   have H4 : Hid (WIn O4 N w4 W B K (ps.set i { p with s := (admE p.s o.text).2 }) n (.slice (some ⟨gb, 0, none⟩) ps.length cap) ks) := hW4
   have HB4 : Hid (Below N w w4) := (HBw.out.mono hwN).trans (H3.out.belowN hf4 fun b hb => ⟨_, hb⟩)
   have hp4 : (ps.set i { p with s := (admE p.s o.text).2 })[i]? = some { p with s := (admE p.s o.text).2 } := List.getElem?_set_self hil
   clear hg4 hf4 hW4 HP3 HO3 hgx hIs
   simp only [Act.put, zA, zB, zC]
   refine Ks.v (.int .i64 (admE p.s o.text).1) ?_
   simp only [Act.put, zA, zB, zC]
   refine Ks.done ?_
   refine wp_seq ?_
   refine Qt.wp_tail 6 (by kernel_rfl) (by kernel_rfl) ?_
   simp only [List.take_succ_cons, List.take_zero]
   refine Qt.y_val rfl (.int .i64 (admE p.s o.text).1) (fun _ _ => by kernel_rfl) ?_
   simp only [Act.put, zA, zB, zC]
   refine Qt.y_call rfl 22 #[.int .i64 (admE p.s o.text).1] (.int .i64 (admE p.s o.text).1) (fun _ => by kernel_rfl) (fun w' _ => Gw.num_f (admE p.s o.text).1 w') ?_
   simp only [Act.put, zA, zB, zC]
   refine Qt.y_val rfl (.pointer (some ⟨pb, 1, none⟩)) (fun _ _ => by kernel_rfl) ?_
   simp only [Act.put, zA, zB, zC]
   refine y_cell rfl _ _ rfl Tryz.underlying130 rfl pb 1 (.pointer (some ⟨p.y, 0, none⟩)) rfl (Array.getElem?_eq_some_iff.1 HP4.out).1 (row_at HP4.out 1 rfl) ?_
   simp only [Act.put, zA, zB, zC]
   refine Qt.y_val rfl (.pointer (some ⟨ob, 4, none⟩)) (fun _ _ => by kernel_rfl) ?_
   simp only [Act.put, zA, zB, zC]
   refine y_cell rfl _ _ rfl Tryz.underlying9 rfl ob 4 (.string ⟨o.text.toArray⟩) rfl (Array.getElem?_eq_some_iff.1 HO4.out).1 (row_at HO4.out 4 rfl) ?_
   simp only [Act.put, zA, zB, zC]
   refine Qt.y_nil ?_
   simp only [List.drop_succ_cons, List.drop_zero]
   intro w5 hb5
   have H5 : Hid (WIn O4 N w5 W B K (ps.set i { p with s := (admE p.s o.text).2 }) n (.slice (some ⟨gb, 0, none⟩) ps.length cap) ks) := H4.out.below hb5
   have HB5 : Hid (Below N w w5) := HB4.out.trans (hb5.mono H4.out.wN)
   clear hb5 HP4 HO4 H4 HB4
   obtain ⟨_, hgy, _, hIt⟩ := H5.out.gates i _ hp4
   refine Ks.call rfl 131 #[.pointer (some ⟨p.y, 0, none⟩), .string ⟨o.text.toArray⟩] (by kernel_rfl) (R := fun v w' => v = .int .i64 (admE p.t o.text).1 ∧ Left (fun b => O4 b (6 + 2 * i)) (fun b => O4 b 4) w5 w' p.y K (admE p.t o.text).2 ks.length) ((admit_r hgy H5.out.known (fun j hj hj2 => absurd (H5.out.one j _ _ hj hj2) (by omega)) hIt (Nat.le_trans H5.out.nk (by omega)) o.text).mono ?_) ?_
   ·rintro e w' ⟨e1, e2⟩
    exact ⟨_, e1, rfl, e2⟩
   rintro v w6 ⟨rfl, hL⟩
   obtain ⟨O6, ks6, hW6⟩ := H5.out.turnR hp4 (hIt.adm _ o.text) hL
   have HB6 : Hid (Below N w w6) := by
    obtain ⟨_, _, _, _, _, _, _, _, _, hf⟩ := hL
    exact HB5.out.trans (H5.out.belowN hf fun b hb => hb.elim (fun x => ⟨_, x⟩) (fun x => ⟨_, x⟩))
   clear hL hgy
   have hst : p.s = p.t := HE.out p (List.mem_of_getElem? hp)
   rw [List.set_set] at hW6
   simp only [Act.put, zA, zB, zC]
   refine Ks.val rfl (.bool true) (by simp [execOp, go_sem, hst]) ?_
   simp only [Act.put, zA, zB, zC]
   refine Ks.v (.bool true) ?_
   simp only [Act.put, zA, zB, zC]
   refine Ks.done ?_
   refine wp_ret ?_
   repeat (first | refine Ks.ret ?_ | refine Ks.retb ?_)
   refine bodyPost_ret (v := .bool true) (by simp [results, Tryz.results65]) rfl ?_
   exact ⟨rfl, ⟨_, ⟨⟨_, _, _, hW6⟩, even_set HE.out (by show (admE p.s o.text).2 = (admE p.t o.text).2; rw [hst])⟩, by rw [List.length_set]; exact Nat.le_refl _⟩, HB6.out⟩
  ·refine Ks.val rfl (.bool false) (by simp [execOp, go_sem, hk2]) ?_
   simp only [Act.put, zA, zB, zC]
   refine Ks.v (.bool false) ?_
   simp only [Act.put, zA, zB, zC]
   refine Ks.done ?_
   refine wp_cond_false rfl ?_
   refine wp_seq ?_
   refine Ks.reg ?_
   by_cases hk3 : o.kind = 3
   ·refine Ks.val rfl (.bool true) (by simp [execOp, go_sem, hk3]) ?_
    simp only [Act.put, zA, zB, zC]
    refine Ks.v (.bool true) ?_
    simp only [Act.put, zA, zB, zC]
    refine Ks.done ?_
    refine wp_cond_true rfl ?_
    refine wp_seq ?_
    refine Ks.reg ?_
    refine Ks.v (.pointer (some ⟨pb, 0, none⟩)) ?_
    simp only [Act.put, zA, zB, zC]
    refine Ks.cell rfl _ _ rfl Tryz.underlying62 rfl pb 0 (.pointer (some ⟨p.x, 0, none⟩)) rfl (row_at HP3.out 0 rfl) ?_
    simp only [Act.put, zA, zB, zC]
    refine Ks.v (.pointer (some ⟨ob, 4, none⟩)) ?_
    simp only [Act.put, zA, zB, zC]
    refine Ks.cell rfl _ _ rfl Tryz.underlying9 rfl ob 4 (.string ⟨o.text.toArray⟩) rfl (row_at HO3.out 4 rfl) ?_
    simp only [Act.put, zA, zB, zC]
    obtain ⟨hgx, _, hIs, _⟩ := H3.out.gates i p hp
    refine Ks.call rfl 71 #[.pointer (some ⟨p.x, 0, none⟩), .string ⟨o.text.toArray⟩] (by kernel_rfl) (R := fun v w' => v = .int .i64 (cloE p.s o.text).1 ∧ PGate (fun b => O b (5 + 2 * i) ∨ w3.heap.size ≤ b) w' p.x (cloE p.s o.text).2 ∧ Fr (fun b => O b (5 + 2 * i)) w3.heap.size w3 w') ((close_p hgx o.text HT3.out).mono ?_) ?_
    ·rintro e w' ⟨e1, e2, e3⟩
     exact ⟨_, e1, rfl, e2.mono fun _ h => Or.inl h, e3⟩
    rintro v w4 ⟨rfl, hg4, hf4⟩
    have HP4 : Hid (w4.heap[pb]? = some (.cells (prC p).toArray 132 (0, 0))) := (hf4.block pb (Array.getElem?_eq_some_iff.1 HP3.out).1 (fun hx => absurd (HOl.out pb _ hx) (by omega))).trans HP3.out
    have HO4 : Hid (w4.heap[ob]? = some (.cells (spC o).toArray 126 (0, 0))) := (hf4.block ob (Array.getElem?_eq_some_iff.1 HO3.out).1 (fun hx => absurd (HOl.out ob _ hx) (by omega))).trans HO3.out
    obtain ⟨O4, hW4⟩ := H3.out.turnP hp (hIs.clo _ o.text) hf4 hg4
    have H4 : Hid (WIn O4 N w4 W B K (ps.set i { p with s := (cloE p.s o.text).2 }) n (.slice (some ⟨gb, 0, none⟩) ps.length cap) ks) := hW4
    have HB4 : Hid (Below N w w4) := (HBw.out.mono hwN).trans (H3.out.belowN hf4 fun b hb => ⟨_, hb⟩)
    have hp4 : (ps.set i { p with s := (cloE p.s o.text).2 })[i]? = some { p with s := (cloE p.s o.text).2 } := List.getElem?_set_self hil
    clear hg4 hf4 hW4 HP3 HO3 hgx hIs
    simp only [Act.put, zA, zB, zC]
    refine Ks.v (.int .i64 (cloE p.s o.text).1) ?_
    simp only [Act.put, zA, zB, zC]
    refine Ks.done ?_
    refine wp_seq ?_
    refine Qt.wp_tail 6 (by kernel_rfl) (by kernel_rfl) ?_
    simp only [List.take_succ_cons, List.take_zero]
    refine Qt.y_val rfl (.int .i64 (cloE p.s o.text).1) (fun _ _ => by kernel_rfl) ?_
    simp only [Act.put, zA, zB, zC]
    refine Qt.y_call rfl 22 #[.int .i64 (cloE p.s o.text).1] (.int .i64 (cloE p.s o.text).1) (fun _ => by kernel_rfl) (fun w' _ => Gw.num_f (cloE p.s o.text).1 w') ?_
    simp only [Act.put, zA, zB, zC]
    refine Qt.y_val rfl (.pointer (some ⟨pb, 1, none⟩)) (fun _ _ => by kernel_rfl) ?_
    simp only [Act.put, zA, zB, zC]
    refine y_cell rfl _ _ rfl Tryz.underlying130 rfl pb 1 (.pointer (some ⟨p.y, 0, none⟩)) rfl (Array.getElem?_eq_some_iff.1 HP4.out).1 (row_at HP4.out 1 rfl) ?_
    simp only [Act.put, zA, zB, zC]
    refine Qt.y_val rfl (.pointer (some ⟨ob, 4, none⟩)) (fun _ _ => by kernel_rfl) ?_
    simp only [Act.put, zA, zB, zC]
    refine y_cell rfl _ _ rfl Tryz.underlying9 rfl ob 4 (.string ⟨o.text.toArray⟩) rfl (Array.getElem?_eq_some_iff.1 HO4.out).1 (row_at HO4.out 4 rfl) ?_
    simp only [Act.put, zA, zB, zC]
    refine Qt.y_nil ?_
    simp only [List.drop_succ_cons, List.drop_zero]
    intro w5 hb5
    have H5 : Hid (WIn O4 N w5 W B K (ps.set i { p with s := (cloE p.s o.text).2 }) n (.slice (some ⟨gb, 0, none⟩) ps.length cap) ks) := H4.out.below hb5
    have HB5 : Hid (Below N w w5) := HB4.out.trans (hb5.mono H4.out.wN)
    clear hb5 HP4 HO4 H4 HB4
    obtain ⟨_, hgy, _, hIt⟩ := H5.out.gates i _ hp4
    refine Ks.call rfl 132 #[.pointer (some ⟨p.y, 0, none⟩), .string ⟨o.text.toArray⟩] (by kernel_rfl) (R := fun v w' => v = .int .i64 (cloE p.t o.text).1 ∧ Left (fun b => O4 b (6 + 2 * i)) (fun b => O4 b 4) w5 w' p.y K (cloE p.t o.text).2 ks.length) ((close_r hgy H5.out.known (fun j hj hj2 => absurd (H5.out.one j _ _ hj hj2) (by omega)) hIt (Nat.le_trans H5.out.nk (by omega)) o.text).mono ?_) ?_
    ·rintro e w' ⟨e1, e2⟩
     exact ⟨_, e1, rfl, e2⟩
    rintro v w6 ⟨rfl, hL⟩
    obtain ⟨O6, ks6, hW6⟩ := H5.out.turnR hp4 (hIt.clo _ o.text) hL
    have HB6 : Hid (Below N w w6) := by
     obtain ⟨_, _, _, _, _, _, _, _, _, hf⟩ := hL
     exact HB5.out.trans (H5.out.belowN hf fun b hb => hb.elim (fun x => ⟨_, x⟩) (fun x => ⟨_, x⟩))
    clear hL hgy
    have hst : p.s = p.t := HE.out p (List.mem_of_getElem? hp)
    rw [List.set_set] at hW6
    simp only [Act.put, zA, zB, zC]
    refine Ks.val rfl (.bool true) (by simp [execOp, go_sem, hst]) ?_
    simp only [Act.put, zA, zB, zC]
    refine Ks.v (.bool true) ?_
    simp only [Act.put, zA, zB, zC]
    refine Ks.done ?_
    refine wp_ret ?_
    repeat (first | refine Ks.ret ?_ | refine Ks.retb ?_)
    refine bodyPost_ret (v := .bool true) (by simp [results, Tryz.results65]) rfl ?_
    exact ⟨rfl, ⟨_, ⟨⟨_, _, _, hW6⟩, even_set HE.out (by show (cloE p.s o.text).2 = (cloE p.t o.text).2; rw [hst])⟩, by rw [List.length_set]; exact Nat.le_refl _⟩, HB6.out⟩
   ·refine Ks.val rfl (.bool false) (by simp [execOp, go_sem, hk3]) ?_
    simp only [Act.put, zA, zB, zC]
    refine Ks.v (.bool false) ?_
    simp only [Act.put, zA, zB, zC]
    refine Ks.done ?_
    refine wp_cond_false rfl ?_
    refine wp_seq ?_
    refine Ks.reg ?_
    by_cases hk4 : o.kind = 4
    ·refine Ks.val rfl (.bool true) (by simp [execOp, go_sem, hk4]) ?_
     simp only [Act.put, zA, zB, zC]
     refine Ks.v (.bool true) ?_
     simp only [Act.put, zA, zB, zC]
     refine Ks.done ?_
     refine wp_cond_true rfl ?_
     refine wp_seq ?_
     refine Qt.wp_all (by kernel_rfl) (by kernel_rfl) ?_
     refine Qt.y_val rfl (.pointer (some ⟨pb, 0, none⟩)) (fun _ _ => by kernel_rfl) ?_
     simp only [Act.put, zA, zB, zC]
     refine y_cell rfl _ _ rfl Tryz.underlying62 rfl pb 0 (.pointer (some ⟨p.x, 0, none⟩)) rfl (Array.getElem?_eq_some_iff.1 HP3.out).1 (row_at HP3.out 0 rfl) ?_
     simp only [Act.put, zA, zB, zC]
     obtain ⟨hgx, hgy, hIs, hIt⟩ := H3.out.gates i p hp
     have hst : p.t = p.s := (HE.out p (List.mem_of_getElem? hp)).symm
     rw [hst] at hgy
     refine Qt.y_call rfl 66 #[.pointer (some ⟨p.x, 0, none⟩)] (.agg (stC p.s)) (fun _ => by kernel_rfl) (fun w' hb => look_p (hgx.below hb)) ?_
     simp only [Act.put, zA, zB, zC]
     refine Qt.y_val rfl (.pointer (some ⟨pb, 1, none⟩)) (fun _ _ => by kernel_rfl) ?_
     simp only [Act.put, zA, zB, zC]
     refine y_cell rfl _ _ rfl Tryz.underlying130 rfl pb 1 (.pointer (some ⟨p.y, 0, none⟩)) rfl (Array.getElem?_eq_some_iff.1 HP3.out).1 (row_at HP3.out 1 rfl) ?_
     simp only [Act.put, zA, zB, zC]
     refine Qt.y_call rfl 67 #[.pointer (some ⟨p.y, 0, none⟩)] (.agg (stC p.s)) (fun _ => by kernel_rfl) (fun w' hb => look_r (hgy.below hb) (Nat.le_trans hIs.few (by omega))) ?_
     simp only [Act.put, zA, zB, zC]
     refine Qt.y_val rfl (.bool true) (fun w' _ => Ks.exec_eq _ _ _ _ rfl (stC p.s) (stC p.s) rfl rfl (by kernel_rfl) _ (eq_state p.s w')) ?_
     simp only [Act.put, zA, zB, zC]
     refine Qt.y_val rfl (.bool true) (fun _ _ => by kernel_rfl) ?_
     simp only [Act.put, zA, zB, zC]
     refine Qt.y_nil ?_
     intro w4 hb4
     refine Ks.norm ?_
     refine wp_ret ?_
     repeat (first | refine Ks.ret ?_ | refine Ks.retb ?_)
     refine bodyPost_ret (v := .bool true) (by simp [results, Tryz.results65]) rfl ?_
     exact ⟨rfl, ⟨ps, ⟨⟨O, _, ks, (H3.out.below hb4).more (Nat.le_succ n)⟩, HE.out⟩, Nat.le_refl _⟩, (HBw.out.mono hwN).trans (hb4.mono H3.out.wN)⟩
    ·refine Ks.val rfl (.bool false) (by simp [execOp, go_sem, hk4]) ?_
     simp only [Act.put, zA, zB, zC]
     refine Ks.v (.bool false) ?_
     simp only [Act.put, zA, zB, zC]
     refine Ks.done ?_
     refine wp_cond_false rfl ?_
     refine wp_seq ?_
     refine Ks.reg ?_
     refine Ks.val rfl (.bool false) (by
      have : o.kind ≠ 5 := by omega
      simp [execOp, go_sem, this]) ?_
     simp only [Act.put, zA, zB, zC]
     refine Ks.v (.bool false) ?_
     simp only [Act.put, zA, zB, zC]
     refine Ks.done ?_
     refine wp_cond_false rfl ?_
     refine wp_seq ?_
     refine Ks.reg ?_
     refine Ks.val rfl (.bool false) (by
      have : o.kind ≠ 6 := by omega
      simp [execOp, go_sem, this]) ?_
     simp only [Act.put, zA, zB, zC]
     refine Ks.v (.bool false) ?_
     simp only [Act.put, zA, zB, zC]
     refine Ks.done ?_
     refine wp_cond_false rfl ?_
     refine wp_seq ?_
     refine Ks.reg ?_
     refine Ks.val rfl (.bool false) (by
      have : o.kind ≠ 7 := by omega
      simp [execOp, go_sem, this]) ?_
     simp only [Act.put, zA, zB, zC]
     refine Ks.v (.bool false) ?_
     simp only [Act.put, zA, zB, zC]
     refine Ks.done ?_
     refine wp_cond_false rfl ?_
     refine wp_seq ?_
     refine Ks.reg ?_
     refine Ks.val rfl (.bool false) (by
      have : o.kind ≠ 8 := by omega
      simp [execOp, go_sem, this]) ?_
     simp only [Act.put, zA, zB, zC]
     refine Ks.v (.bool false) ?_
     simp only [Act.put, zA, zB, zC]
     refine Ks.done ?_
     refine wp_cond_false rfl ?_
     refine wp_seq ?_
     refine Ks.reg ?_
     refine Ks.val rfl (.bool false) (by
      have : o.kind ≠ 9 := by omega
      simp [execOp, go_sem, this]) ?_
     simp only [Act.put, zA, zB, zC]
     refine Ks.v (.bool false) ?_
     simp only [Act.put, zA, zB, zC]
     refine Ks.done ?_
     refine wp_cond_false rfl ?_
     refine wp_skip ?_
     refine Ks.inb ?_
     refine wp_seq ?_
     refine Ks.reg ?_
     refine Ks.v (.bool true) ?_
     simp only [Act.put, zA, zB, zC]
     refine Ks.done ?_
     refine wp_ret ?_
     repeat (refine Ks.ret ?_)
     refine bodyPost_ret (v := .bool true) (by simp [results, Tryz.results65]) rfl ?_
     exact ⟨rfl, ⟨ps, ⟨⟨O, _, ks, H3.out.more (Nat.le_succ n)⟩, HE.out⟩, Nat.le_refl _⟩, HBw.out.mono hwN⟩
end Gt
end Go.Proofs.YtbojijefenfbgaaGreatDoor
namespace Go.Proofs.YtbojijefenfbgaaGreatDoor
open Go Go.RowKit
namespace Ks
theorem once {P : Program} {a : Act} {w : World} {Q : Exit → Act → World → Prop} {c : Code} (h : c.wp P (Exit.then (fun _ _ => False) Q) a w) : (Code.loop c).wp P Q a w :=
 loop (fun _ a' w' => a' = a ∧ w' = w) 0 ⟨rfl, rfl⟩ (by
  rintro n a' w' ⟨rfl, rfl⟩
  refine wp_mono h ?_
  intro e a w hq
  cases e with
  | normal => exact hq.elim
  | _ => exact hq)
end Ks
namespace Gt
open Mp Bk Tk
set_option maxRecDepth 10000 in
theorem reads_f {B : Nat} (w : World) (hB : w.heap[B]? = some (.cells bookZ 32 (0, 0))) : Calls Tryz.prog 55 #[.pointer (some ⟨B, 0, none⟩)] w fun e w' => e = .returned (.bool true) ∧ Below w.heap.size w w' := by
 have HB : Hid (w.heap[B]? = some (.cells bookZ 32 (0, 0))) := hB
 clear hB
 go_enter Tryz.func55, Tryz.ntmps55
 refine wp_seq ?_
 refine Ks.reg ?_
 refine Ks.v (.bool false) ?_
 simp only [Act.put, zA, zB, zC]
 refine Ks.done ?_
 refine wp_seq ?_
 refine wp_seq ?_
 refine Ks.reg ?_
 refine Ks.v (.int .i64 0) ?_
 simp only [Act.put, zA, zB, zC]
 refine Ks.done ?_
 refine wp_block ?_
 refine Ks.once ?_
 refine wp_seq ?_
 refine wp_seq ?_
 refine Ks.reg ?_
 refine Ks.v (.int .i64 0) ?_
 simp only [Act.put, zA, zB, zC]
 refine Ks.v (.pointer (some ⟨B, 0, none⟩)) ?_
 simp only [Act.put, zA, zB, zC]
 refine Ks.v (.pointer (some ⟨B, 0, none⟩)) ?_
 simp only [Act.put, zA, zB, zC]
 refine Ks.v (.pointer (some ⟨B, 4, none⟩)) ?_
 simp only [Act.put, zA, zB, zC]
 refine Ks.cell rfl _ _ rfl Tryz.underlying28 rfl B 4 (.slice none 0 0) rfl (row_at HB.out 4 rfl) ?_
 simp only [Act.put, zA, zB, zC]
 refine Ks.v (.int .i64 0) ?_
 simp only [Act.put, zA, zB, zC]
 refine Ks.v (.bool false) ?_
 simp only [Act.put, zA, zB, zC]
 refine Ks.done ?_
 refine wp_cond_false rfl ?_
 refine wp_exit ?_
 refine Ks.exit2 ?_
 refine Ks.norm ?_
 refine wp_seq ?_
 refine wp_seq ?_
 refine Ks.reg ?_
 refine Ks.v (.int .i64 0) ?_
 simp only [Act.put, zA, zB, zC]
 refine Ks.done ?_
 refine wp_block ?_
 refine Ks.once ?_
 refine wp_seq ?_
 refine wp_seq ?_
 refine Ks.reg ?_
 refine Ks.v (.int .i64 0) ?_
 simp only [Act.put, zA, zB, zC]
 refine Ks.v (.pointer (some ⟨B, 0, none⟩)) ?_
 simp only [Act.put, zA, zB, zC]
 refine Ks.v (.pointer (some ⟨B, 0, none⟩)) ?_
 simp only [Act.put, zA, zB, zC]
 refine Ks.v (.pointer (some ⟨B, 6, none⟩)) ?_
 simp only [Act.put, zA, zB, zC]
 refine Ks.cell rfl _ _ rfl Tryz.underlying29 rfl B 6 (.slice none 0 0) rfl (row_at HB.out 6 rfl) ?_
 simp only [Act.put, zA, zB, zC]
 refine Ks.v (.int .i64 0) ?_
 simp only [Act.put, zA, zB, zC]
 refine Ks.v (.bool false) ?_
 simp only [Act.put, zA, zB, zC]
 refine Ks.done ?_
 refine wp_cond_false rfl ?_
 refine wp_exit ?_
 refine Ks.exit2 ?_
 refine Ks.norm ?_
 refine wp_seq ?_
 refine wp_seq ?_
 refine Ks.reg ?_
 refine Ks.v (.int .i64 0) ?_
 simp only [Act.put, zA, zB, zC]
 refine Ks.done ?_
 refine wp_block ?_
 refine Ks.once ?_
 refine wp_seq ?_
 refine wp_seq ?_
 refine Ks.reg ?_
 refine Ks.v (.int .i64 0) ?_
 simp only [Act.put, zA, zB, zC]
 refine Ks.v (.pointer (some ⟨B, 0, none⟩)) ?_
 simp only [Act.put, zA, zB, zC]
 refine Ks.v (.pointer (some ⟨B, 0, none⟩)) ?_
 simp only [Act.put, zA, zB, zC]
 refine Ks.v (.pointer (some ⟨B, 8, none⟩)) ?_
 simp only [Act.put, zA, zB, zC]
 refine Ks.cell rfl _ _ rfl Tryz.underlying30 rfl B 8 (.slice none 0 0) rfl (row_at HB.out 8 rfl) ?_
 simp only [Act.put, zA, zB, zC]
 refine Ks.v (.int .i64 0) ?_
 simp only [Act.put, zA, zB, zC]
 refine Ks.v (.bool false) ?_
 simp only [Act.put, zA, zB, zC]
 refine Ks.done ?_
 refine wp_cond_false rfl ?_
 refine wp_exit ?_
 refine Ks.exit2 ?_
 refine Ks.norm ?_
 refine wp_seq ?_
 refine Ks.reg ?_
 refine Ks.v (.bool true) ?_
 simp only [Act.put, zA, zB, zC]
 refine Ks.done ?_
 refine wp_ret ?_
 repeat (refine Ks.ret ?_)
 refine bodyPost_ret (v := .bool true) (by simp [results, Tryz.results55]) rfl ?_
 exact ⟨rfl, Below.refl _ _⟩
set_option maxRecDepth 10000 in
theorem looks_f {B : Nat} (w : World) (hB : w.heap[B]? = some (.cells bookZ 32 (0, 0))) : Calls Tryz.prog 17 #[.pointer (some ⟨B, 0, none⟩)] w fun e w' => e = .returned (.bool true) ∧ Below w.heap.size w w' := by
 have HB : Hid (w.heap[B]? = some (.cells bookZ 32 (0, 0))) := hB
 clear hB
 go_enter Tryz.func17, Tryz.ntmps17
 refine wp_seq ?_
 refine Ks.reg ?_
 refine Ks.v (.bool false) ?_
 simp only [Act.put, zA, zB, zC]
 refine Ks.done ?_
 refine wp_seq ?_
 refine wp_seq ?_
 refine Ks.reg ?_
 refine Ks.v (.int .i64 0) ?_
 simp only [Act.put, zA, zB, zC]
 refine Ks.done ?_
 refine wp_block ?_
 refine Ks.once ?_
 refine wp_seq ?_
 refine wp_seq ?_
 refine Ks.reg ?_
 refine Ks.v (.int .i64 0) ?_
 simp only [Act.put, zA, zB, zC]
 refine Ks.v (.pointer (some ⟨B, 0, none⟩)) ?_
 simp only [Act.put, zA, zB, zC]
 refine Ks.v (.pointer (some ⟨B, 0, none⟩)) ?_
 simp only [Act.put, zA, zB, zC]
 refine Ks.v (.pointer (some ⟨B, 0, none⟩)) ?_
 simp only [Act.put, zA, zB, zC]
 refine Ks.cell rfl _ _ rfl Tryz.underlying24 rfl B 0 (.slice none 0 0) rfl (row_at HB.out 0 rfl) ?_
 simp only [Act.put, zA, zB, zC]
 refine Ks.v (.int .i64 0) ?_
 simp only [Act.put, zA, zB, zC]
 refine Ks.v (.bool false) ?_
 simp only [Act.put, zA, zB, zC]
 refine Ks.done ?_
 refine wp_cond_false rfl ?_
 refine wp_exit ?_
 refine Ks.exit2 ?_
 refine Ks.norm ?_
 refine wp_seq ?_
 refine wp_seq ?_
 refine Ks.reg ?_
 refine Ks.v (.int .i64 0) ?_
 simp only [Act.put, zA, zB, zC]
 refine Ks.done ?_
 refine wp_block ?_
 refine Ks.once ?_
 refine wp_seq ?_
 refine wp_seq ?_
 refine Ks.reg ?_
 refine Ks.v (.int .i64 0) ?_
 simp only [Act.put, zA, zB, zC]
 refine Ks.v (.pointer (some ⟨B, 0, none⟩)) ?_
 simp only [Act.put, zA, zB, zC]
 refine Ks.v (.pointer (some ⟨B, 0, none⟩)) ?_
 simp only [Act.put, zA, zB, zC]
 refine Ks.v (.pointer (some ⟨B, 2, none⟩)) ?_
 simp only [Act.put, zA, zB, zC]
 refine Ks.cell rfl _ _ rfl Tryz.underlying26 rfl B 2 (.slice none 0 0) rfl (row_at HB.out 2 rfl) ?_
 simp only [Act.put, zA, zB, zC]
 refine Ks.v (.int .i64 0) ?_
 simp only [Act.put, zA, zB, zC]
 refine Ks.v (.bool false) ?_
 simp only [Act.put, zA, zB, zC]
 refine Ks.done ?_
 refine wp_cond_false rfl ?_
 refine wp_exit ?_
 refine Ks.exit2 ?_
 refine Ks.norm ?_
 refine wp_seq ?_
 refine Ks.reg ?_
 refine Ks.v (.pointer (some ⟨B, 0, none⟩)) ?_
 simp only [Act.put, zA, zB, zC]
 refine Ks.pure (by kernel_rfl) 55 #[.pointer (some ⟨B, 0, none⟩)] (by kernel_rfl) (reads_f w HB.out) ?_
 intro w1 hb1
 simp only [Act.put, zA, zB, zC]
 refine Ks.v (.bool true) ?_
 simp only [Act.put, zA, zB, zC]
 refine Ks.done ?_
 refine wp_ret ?_
 repeat (refine Ks.ret ?_)
 refine bodyPost_ret (v := .bool true) (by simp [results, Tryz.results17]) rfl ?_
 exact ⟨rfl, hb1⟩
end Gt
end Go.Proofs.YtbojijefenfbgaaGreatDoor

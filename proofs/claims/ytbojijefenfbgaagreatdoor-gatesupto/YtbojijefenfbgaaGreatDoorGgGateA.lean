/- Walks of the program's book: what only asks. Walks of the program's book: what writes. Walks of the program's book: Add, Raise. -/
import Derived.Test.YtbojijefenfbgaaGreatDoorGgShort
import Derived.Test.YtbojijefenfbgaaGreatDoorGgBookMath
import Derived.Test.YtbojijefenfbgaaGreatDoorChecked
import Derived.Test.YtbojijefenfbgaaGreatDoorGgQLate
import Derived.WalkSpells
import Derived.WalkLawsBesides
import Derived.Test.YtbojijefenfbgaaGreatDoorGgFrames
import Derived.Test.YtbojijefenfbgaaGreatDoorGgQRel
namespace Go.Proofs.YtbojijefenfbgaaGreatDoor
open Go Go.RowKit
namespace Gt
open Mp Bk
theorem row_at {w : World} {g : Nat} {cs : Array Value} {T : TypeId} (h : w.heap[g]? = some (.cells cs T (0, 0))) (j : Nat) {v : Value} (hv : cs[j]? = some v) : w.cell? ⟨g, j, none⟩ = some v := cell_of_row w g j _ _ _ h ▸ hv
theorem load_cell {P : Program} {ty : TypeId} {d : TypeDesc} (hu : P.underlying ty = some d) (hd : d.isRow = false) {w : World} {b off : Nat} {v : Value} (h : w.cell? ⟨b, off, none⟩ = some v) : (loadVar ty ⟨b, off, none⟩).run P w = .ok v w := by
 have h1 := run_underlying hu w
 cases d <;> simp [TypeDesc.isRow] at hd <;> simp [loadVar, isAgg, go_sem, h, h1]
theorem y_cell {P : Program} {W : World} {K : Act → Prop} {l : List Oper} {o : Oper} {a : Act} (hg : o.guard = none) (ty : TypeId) (x : Operand) (ho : o.op = .load ty x) {d : TypeDesc} (hu : P.underlying ty = some d) (hd : d.isRow = false) (b off : Nat) (v : Value) (hx : a.eval x = .pointer (some ⟨b, off, none⟩)) (hb : b < W.heap.size) (hc : W.cell? ⟨b, off, none⟩ = some v)
  (h : Qt.Lex P W K l (a.put o.dst v)) : Qt.Lex P W K (o :: l) a := by
 refine Qt.y_val hg v (fun w' hw' => ?_) h
 have h1 := load_cell hu hd (w := w') (b := b) (off := off) (v := v) (by rw [hw'.cell (by exact hb)]; exact hc)
 unfold execOp
 simp only [ho, hx, Instr.loadAt, Instr.sureAddr, Sem.run_bind, Sem.run_pure, Result.andThen_ok, h1]
theorem y_look {P : Program} {W : World} {K : Act → Prop} {l : List Oper} {o : Oper} {a : Act} (hg : o.guard = none) (m x : Operand) (t : TypeId) (ho : o.op = Op.lookup t m x true) {k e : TypeId} {α β : Type} [DecidableEq α] {ke : α → Value} {ve : β → Value} (Kp : KeyP P k ke) (ht : P.underlying t = some (.map k e))
  {z : Value} (hz : ∀ w, (zeroValue e).run P w = .ok z w) {ls : List (α × β)} {mv : Value} (hm : a.eval m = mv) (hV : V W mv ke ve ls) (c : α) (hx : a.eval x = ke c)
  (h : Qt.Lex P W K l (a.put o.dst (.tuple #[((at? c ls).map ve).getD z, .bool (at? c ls).isSome]))) : Qt.Lex P W K (o :: l) a := by
 refine Qt.y_val hg _ (fun w' hw' => ?_) h
 have hV' : V w' mv ke ve ls := by
  rcases hV with h1 | ⟨b, e1, h1⟩
  ·exact Or.inl h1
  ·exact Or.inr ⟨b, e1, h1.congr (hw'.block b h1.lt)⟩
 have h1 := look_v Kp ht hV' c (hz w')
 unfold execOp
 simp only [ho, hm, hx, h1, Sem.run_bind, Result.andThen_ok]
 rfl
theorem floor_b {S : Nat → Prop} {w : World} {g : Nat} {s : St} (h : PGate S w g s) : Calls Tryz.prog 75 #[.pointer (some ⟨g, 3, none⟩)] w fun e w' => e = .returned (.int .i64 s.floor) ∧ Below w.heap.size w w' := by
 obtain ⟨_, vh, vd, vu, hg, _⟩ := h
 have hc : w.cell? ⟨g, 3, none⟩ = some (.int .i64 s.floor) := row_at hg 3 rfl
 clear hg
 go_enter Tryz.func75, Tryz.ntmps75
 go_wp2
 go_ret
 exact ⟨rfl, Below.refl _ _⟩
theorem heard_b {S : Nat → Prop} {w : World} {g : Nat} {s : St} (h : PGate S w g s) : Calls Tryz.prog 136 #[.pointer (some ⟨g, 3, none⟩)] w fun e w' => e = .returned (.int .i64 s.l.length) ∧ Below w.heap.size w w' := by
 obtain ⟨_, vh, vd, vu, hg, hm⟩ := h
 have hc : w.cell? ⟨g, 4, none⟩ = some vh := row_at hg 4 rfl
 clear hg
 obtain ⟨lh, ld, lu, V1, V2, V3, H⟩ := hm.ask
 have e := H.len
 clear H V2 V3 hm
 go_enter Tryz.func136, Tryz.ntmps136
 go_wp2_with (first | (at_len; refine wpList_len _ rfl _ _ rfl heardT rfl V1 ?_))
 go_ret
 exact ⟨rfl, Below.refl _ _⟩
theorem held_b {S : Nat → Prop} {w : World} {g : Nat} {s : St} (h : PGate S w g s) : Calls Tryz.prog 137 #[.pointer (some ⟨g, 3, none⟩)] w fun e w' => e = .returned (.int .i64 (held s.l).length) ∧ Below w.heap.size w w' := by
 obtain ⟨_, vh, vd, vu, hg, hm⟩ := h
 have hc : w.cell? ⟨g, 5, none⟩ = some vd := row_at hg 5 rfl
 clear hg
 obtain ⟨lh, ld, lu, V1, V2, V3, H⟩ := hm.ask
 have e := H.lend
 clear H V1 V3 hm
 go_enter Tryz.func137, Tryz.ntmps137
 go_wp2_with (first | (at_len; refine wpList_len _ rfl _ _ rfl heldT rfl V2 ?_))
 go_ret
 exact ⟨rfl, Below.refl _ _⟩
theorem unit_get (o : Option Unit) : (o.map unit).getD (.agg #[]) = .agg #[] := by cases o <;> rfl
theorem used_b {S : Nat → Prop} {w : World} {g : Nat} {s : St} (h : PGate S w g s) (p : Int × Int) : Calls Tryz.prog 78 #[.pointer (some ⟨g, 3, none⟩), two p] w fun e w' => e = .returned (.bool (decide (∃ x ∈ held s.l, x.pass = p))) ∧ Below w.heap.size w w' := by
 obtain ⟨_, vh, vd, vu, hg, hm⟩ := h
 have hc : w.cell? ⟨g, 6, none⟩ = some vu := row_at hg 6 rfl
 have hgl := (Array.getElem?_eq_some_iff.1 hg).1
 clear hg
 obtain ⟨lh, ld, lu, V1, V2, V3, H⟩ := hm.ask
 have e : Hid _ := H.uses p
 clear H V1 V2 hm
 have HB : Hid (Below w.heap.size w (w.alloc (.cells #[.int .i64 p.1, .int .i64 p.2] 150))) := (Below.refl _ _).alloc (Nat.le_refl _) _
 have HP : Hid ((w.alloc (.cells #[.int .i64 p.1, .int .i64 p.2] 150)).heap[w.heap.size]? = some (.cells #[.int .i64 p.1, .int .i64 p.2] 150 (0, 0))) := heap_alloc_new _ _
 have HV : Hid (V (w.alloc (.cells #[.int .i64 p.1, .int .i64 p.2] 150)) vu two unit lu) := by
  rcases V3 with h1 | ⟨b, e1, h1⟩
  ·exact Or.inl h1
  ·exact Or.inr ⟨b, e1, h1.congr (HB.out.block b h1.lt)⟩
 have HC : Hid ((w.alloc (.cells #[.int .i64 p.1, .int .i64 p.2] 150)).cell? ⟨g, 6, none⟩ = some vu) := by
  show _ = _
  rw [HB.out.cell (by exact hgl)]
  exact hc
 have hG : Hid (g < (w.alloc (.cells #[.int .i64 p.1, .int .i64 p.2] 150)).heap.size) := Nat.lt_of_lt_of_le hgl HB.out.size
 unfold two
 go_enter Tryz.func78, Tryz.ntmps78
 go_wp2
 generalize World.alloc _ _ = w1 at *
 refine Qt.wp_late 9 (by kernel_rfl) (by kernel_rfl) _ _ rfl rfl 194 rfl #[] (by kernel_rfl) _ _ rfl #[] (by kernel_rfl) rfl (by simp) ?_
 simp only [List.take_succ_cons, List.take_zero]
 refine Qt.y_val rfl (.pointer (some ⟨g, 3, none⟩)) (fun _ _ => by kernel_rfl) ?_
 refine Qt.y_val rfl (.pointer (some ⟨g, 3, none⟩)) (fun _ _ => by kernel_rfl) ?_
 refine Qt.y_val rfl (.pointer (some ⟨g, 6, none⟩)) (fun _ _ => by kernel_rfl) ?_
 simp only [Act.put, zA, zB, zC]
 refine y_cell rfl _ _ rfl usedT rfl g 6 vu rfl hG.out HC.out ?_
 simp only [Act.put, zA, zB, zC]
 refine Qt.y_row rfl _ _ rfl _ rfl _ _ _ _ HP.out Tryz.underlying150 rfl (by kernel_rfl) ?_
 simp only [Act.put, zA, zB, zC]
 refine y_look rfl _ _ _ rfl passP usedT zero_unit rfl HV.out p rfl ?_
 rw [e.out, unit_get]
 simp only [Act.put, zA, zB, zC]
 refine Qt.y_val rfl (.tuple #[.agg #[], .bool (decide (∃ x ∈ held s.l, x.pass = p))]) (fun _ _ => by kernel_rfl) ?_
 refine Qt.y_val rfl (.agg #[]) (fun _ _ => by kernel_rfl) ?_
 refine Qt.y_val rfl (.bool (decide (∃ x ∈ held s.l, x.pass = p))) (fun _ _ => by kernel_rfl) ?_
 simp only [Act.put, zA, zB, zC]
 refine Qt.y_nil ⟨fun _ => rfl, fun _ => rfl, ?_⟩
 intro b w2 _ _ hb2
 have HB2 : Hid (Below w.heap.size w w2) := HB.out.trans (hb2.mono HB.out.size)
 clear hb2
 simp only [List.setIfInBounds_toArray, List.set_cons_zero, List.set_cons_succ]
 go_wp2
 go_ret
 exact ⟨rfl, HB2.out⟩
end Gt
end Go.Proofs.YtbojijefenfbgaaGreatDoor
namespace Go.Proofs.YtbojijefenfbgaaGreatDoor
open Go Go.RowKit
namespace Gt
open Mp Bk
theorem nil_some (b : Nat) (w : World) : Sem.run Tryz.prog (binOp BinOp.eql 137 (.map (some b)) (.map none)) w = .ok (.bool false) w := by kernel_rfl
structure Made (S : Nat → Prop) (w : World) (g : Nat) (s : St) (bh bd bu : Nat) (lh : List ((Int × Int) × Unit)) (ld : List ((Int × Int) × (Int × Int))) (lu : List ((Int × Int) × Unit)) : Prop where
 gate : w.heap[g]? = some (.cells (cellsP s (.map (some bh)) (.map (some bd)) (.map (some bu))) 143 (0, 0))
 sh : S bh
 sd : S bd
 su : S bu
 hd : bh ≠ bd
 du : bd ≠ bu
 hu : bh ≠ bu
 ih : Is w bh two unit lh
 id : Is w bd two two ld
 iu : Is w bu two unit lu
theorem Made.g_ne {S : Nat → Prop} {w : World} {g : Nat} {s : St} {bh bd bu : Nat} {lh ld lu} (h : Made S w g s bh bd bu lh ld lu) : g ≠ bh ∧ g ≠ bd ∧ g ≠ bu := by
 have hg := h.gate
 obtain ⟨_, _, h1, _⟩ := h.ih
 obtain ⟨_, _, h2, _⟩ := h.id
 obtain ⟨_, _, h3, _⟩ := h.iu
 refine ⟨?_, ?_, ?_⟩
 ·rintro rfl; rw [hg] at h1; cases h1
 ·rintro rfl; rw [hg] at h2; cases h2
 ·rintro rfl; rw [hg] at h3; cases h3
theorem Made.congr {S T : Nat → Prop} {w w' : World} {g : Nat} {s : St} {bh bd bu : Nat} {lh ld lu} (h : Made S w g s bh bd bu lh ld lu) (hS : ∀ k, S k → T k) (hw : ∀ k, k < w.heap.size → w'.heap[k]? = w.heap[k]?) : Made T w' g s bh bd bu lh ld lu :=
 ⟨by rw [hw g (Array.getElem?_eq_some_iff.1 h.gate).1]; exact h.gate, hS _ h.sh, hS _ h.sd, hS _ h.su, h.hd, h.du, h.hu, h.ih.congr (hw _ h.ih.lt), h.id.congr (hw _ h.id.lt), h.iu.congr (hw _ h.iu.lt)⟩
theorem Made.heard {S : Nat → Prop} {w w' : World} {g : Nat} {s : St} {bh bd bu : Nat} {lh ld lu lh'} (h : Made S w g s bh bd bu lh ld lu) (hi : Is w' bh two unit lh') (ht : w.mapTurned w' bh) : Made S w' g s bh bd bu lh' ld lu := by
 have hn := h.g_ne
 have hw : ∀ k, k < w.heap.size → k ≠ bh → w'.heap[k]? = w.heap[k]? := fun k hk hne => ht.grown.block k hk (fun e => hne (by injection e))
 exact ⟨by rw [hw g (Array.getElem?_eq_some_iff.1 h.gate).1 hn.1]; exact h.gate, h.sh, h.sd, h.su, h.hd, h.du, h.hu, hi, h.id.congr (hw _ h.id.lt h.hd.symm), h.iu.congr (hw _ h.iu.lt h.hu.symm)⟩
theorem Made.held {S : Nat → Prop} {w w' : World} {g : Nat} {s : St} {bh bd bu : Nat} {lh ld lu ld'} (h : Made S w g s bh bd bu lh ld lu) (hi : Is w' bd two two ld') (ht : w.mapTurned w' bd) : Made S w' g s bh bd bu lh ld' lu := by
 have hn := h.g_ne
 have hw : ∀ k, k < w.heap.size → k ≠ bd → w'.heap[k]? = w.heap[k]? := fun k hk hne => ht.grown.block k hk (fun e => hne (by injection e))
 exact ⟨by rw [hw g (Array.getElem?_eq_some_iff.1 h.gate).1 hn.2.1]; exact h.gate, h.sh, h.sd, h.su, h.hd, h.du, h.hu, h.ih.congr (hw _ h.ih.lt h.hd), hi, h.iu.congr (hw _ h.iu.lt h.du.symm)⟩
theorem Made.used {S : Nat → Prop} {w w' : World} {g : Nat} {s : St} {bh bd bu : Nat} {lh ld lu lu'} (h : Made S w g s bh bd bu lh ld lu) (hi : Is w' bu two unit lu') (ht : w.mapTurned w' bu) : Made S w' g s bh bd bu lh ld lu' := by
 have hn := h.g_ne
 have hw : ∀ k, k < w.heap.size → k ≠ bu → w'.heap[k]? = w.heap[k]? := fun k hk hne => ht.grown.block k hk (fun e => hne (by injection e))
 exact ⟨by rw [hw g (Array.getElem?_eq_some_iff.1 h.gate).1 hn.2.2]; exact h.gate, h.sh, h.sd, h.su, h.hd, h.du, h.hu, h.ih.congr (hw _ h.ih.lt h.hu), h.id.congr (hw _ h.id.lt h.du), hi⟩
theorem Made.pgate {S : Nat → Prop} {w : World} {g : Nat} {s : St} {bh bd bu : Nat} {lh ld lu} (h : Made S w g s bh bd bu lh ld lu) (hS : S g) (H : Has s.l lh ld lu) : PGate S w g s :=
 ⟨hS, _, _, _, h.gate, Or.inr ⟨bh, bd, bu, lh, ld, lu, rfl, rfl, rfl, h.sh, h.sd, h.su, h.hd, h.du, h.hu, h.ih, h.id, h.iu, H⟩⟩
set_option maxRecDepth 10000 in
theorem note_some {S : Nat → Prop} {w : World} {g : Nat} {s : St} {bh bd bu : Nat} {lh ld lu} (h : Made S w g s bh bd bu lh ld lu) (c : Int × Int) : Calls Tryz.prog 151 #[.pointer (some ⟨g, 3, none⟩), two c] w fun e w' => e = .returned (.tuple #[]) ∧ Made S w' g s bh bd bu (put c () lh) ld lu ∧ Fr S w.heap.size w w' := by
 have hc4 : w.cell? ⟨g, 4, none⟩ = some (.map (some bh)) := row_at h.gate 4 rfl
 have hgl := (Array.getElem?_eq_some_iff.1 h.gate).1
 have hns := nil_some bh
 have HB : Hid (Below w.heap.size w (w.alloc (.cells #[.int .i64 c.1, .int .i64 c.2] 154))) := (Below.refl _ _).alloc (Nat.le_refl _) _
 have HM : Hid (Made S (w.alloc (.cells #[.int .i64 c.1, .int .i64 c.2] 154)) g s bh bd bu lh ld lu) := h.congr (fun _ h => h) HB.out.block
 have HC : Hid ((w.alloc (.cells #[.int .i64 c.1, .int .i64 c.2] 154)).heap[w.heap.size]? = some (.cells #[.int .i64 c.1, .int .i64 c.2] 154 (0, 0))) := heap_alloc_new _ _
 clear h
 unfold two
 go_enter Tryz.func151, Tryz.ntmps151
 go_wp2
 generalize World.alloc _ _ = w1 at *
 refine Qt.wp_tail 6 (by kernel_rfl) (by kernel_rfl) ?_
 simp only [List.take_succ_cons, List.take_zero]
 refine Qt.y_val rfl (.pointer (some ⟨g, 3, none⟩)) (fun _ _ => by kernel_rfl) ?_
 refine Qt.y_val rfl (.pointer (some ⟨g, 3, none⟩)) (fun _ _ => by kernel_rfl) ?_
 refine Qt.y_val rfl (.pointer (some ⟨g, 4, none⟩)) (fun _ _ => by kernel_rfl) ?_
 simp only [Act.put, zA, zB, zC]
 refine y_cell rfl _ _ rfl heardT rfl g 4 (.map (some bh)) rfl (Array.getElem?_eq_some_iff.1 HM.out.gate).1 (row_at HM.out.gate 4 rfl) ?_
 simp only [Act.put, zA, zB, zC]
 refine Qt.y_row rfl _ _ rfl _ rfl _ _ _ _ HC.out Tryz.underlying154 rfl (by kernel_rfl) ?_
 simp only [Act.put, zA, zB, zC]
 refine Qt.y_val rfl (.agg #[]) (fun _ _ => by kernel_rfl) ?_
 simp only [Act.put, zA, zB, zC]
 refine Qt.y_nil ?_
 intro w2 hb2
 have HM2 : Hid (Made S w2 g s bh bd bu lh ld lu) := HM.out.congr (fun _ h => h) hb2.block
 have HB2 : Hid (Below w.heap.size w w2) := HB.out.trans (hb2.mono HB.out.size)
 clear hb2 HM HC HB
 simp only [List.drop_succ_cons, List.drop_zero]
 refine wpList_put _ rfl _ _ _ _ rfl admP heardT rfl HM2.out.ih c () rfl rfl ?_
 intro w3 hi ht
 have HM3 : Hid (Made S w3 g s bh bd bu (put c () lh) ld lu) := HM2.out.heard hi ht
 have HF3 : Hid (Fr S w.heap.size w w3) := (Fr.of_below HB2.out (Nat.le_refl _)).turned ht HB2.out.size (Or.inl HM2.out.sh)
 clear hi ht HM2 HB2
 simp only [Act.put]
 go_wp2
 go_end0
 exact ⟨rfl, HM3.out, HF3.out⟩
set_option maxRecDepth 10000 in
theorem note_nil {S : Nat → Prop} {w : World} {g : Nat} {s : St} (hS : S g) (hg : w.heap[g]? = some (.cells (cellsP s (.map none) (.map none) (.map none)) 143 (0, 0))) (c : Int × Int) : Calls Tryz.prog 151 #[.pointer (some ⟨g, 3, none⟩), two c] w fun e w' => e = .returned (.tuple #[]) ∧ (∃ bh bd bu, Made (fun k => S k ∨ w.heap.size ≤ k) w' g s bh bd bu (put c () []) [] []) ∧ Fr S w.heap.size w w' := by
 have hgl := (Array.getElem?_eq_some_iff.1 hg).1
 have Hg : Hid _ := hg
 clear hg
 unfold two
 go_enter Tryz.func151, Tryz.ntmps151
 refine wp_seq ?_
 refine Ks.reg ?_
 refine Ks.box rfl _ _ rfl #[.int .i64 c.1, .int .i64 c.2] rfl ?_
 intro w1 b1 Hb1 HC1 HB HS1
 have HG1 : Hid (w1.heap[g]? = some (.cells (cellsP s (.map none) (.map none) (.map none)) 143 (0, 0))) := (HB.out.block g hgl).trans Hg.out
 have HF1 : Hid (Fr S w.heap.size w w1) := Fr.of_below HB.out (Nat.le_refl _)
 clear Hg HB
 simp only [Act.put, zA, zB, zC]
 refine Ks.done ?_
 refine wp_seq ?_
 refine wp_seq ?_
 refine Ks.reg ?_
 refine Ks.v (.pointer (some ⟨g, 3, none⟩)) ?_
 simp only [Act.put, zA, zB, zC]
 refine Ks.v (.pointer (some ⟨g, 3, none⟩)) ?_
 simp only [Act.put, zA, zB, zC]
 refine Ks.v (.pointer (some ⟨g, 4, none⟩)) ?_
 simp only [Act.put, zA, zB, zC]
 refine Ks.cell rfl _ _ rfl heardT rfl g 4 (.map none) rfl (row_at HG1.out 4 rfl) ?_
 simp only [Act.put, zA, zB, zC]
 refine Ks.v (.bool true) ?_
 simp only [Act.put, zA, zB, zC]
 refine Ks.done ?_
 refine wp_cond_true rfl ?_
 refine wp_seq ?_
 refine Ks.reg ?_
 refine Ks.v (.pointer (some ⟨g, 3, none⟩)) ?_
 simp only [Act.put, zA, zB, zC]
 refine Ks.make rfl _ rfl ?_
 intro w2 bh H1 H2 H3 H4
 have HG2 : Hid (w2.heap[g]? = some (.cells (cellsP s (.map none) (.map none) (.map none)) 143 (0, 0))) := (H3.out.block g (Array.getElem?_eq_some_iff.1 HG1.out).1).trans HG1.out
 have HC2 : Hid (w2.heap[b1]? = _) := (H3.out.block _ (Array.getElem?_eq_some_iff.1 HC1.out).1).trans HC1.out
 have HF2 : Hid (Fr S w.heap.size w w2) := HF1.out.calls H3.out HF1.out.size
 have HIbh2 : Hid (Is w2 bh two unit ([] : List ((Int × Int) × (Unit)))) := ⟨_, _, H2.out, by simp, by simp, by simp, by simp⟩
 have HNbh : Hid (bh = w.heap.size + 1) := H1.out.trans HS1.out
 have HS2 : Hid (w2.heap.size = w.heap.size + 2) := H4.out.trans (by rw [HS1.out])
 clear H1 H2 H3 H4 HG1 HC1 HF1 HS1
 simp only [Act.put, zA, zB, zC]
 refine Ks.v (.pointer (some ⟨g, 3, none⟩)) ?_
 simp only [Act.put, zA, zB, zC]
 refine Ks.v (.pointer (some ⟨g, 4, none⟩)) ?_
 simp only [Act.put, zA, zB, zC]
 refine Ks.store rfl _ _ _ rfl g 4 _ rfl rfl HG2.out (by show 4 < 8; omega) (by kernel_rfl) rfl (cellsP s (.map (some bh)) (.map none) (.map none)) rfl ?_
 intro w3 HG3 H2 H3 H4
 have HC3 : Hid (w3.heap[b1]? = _) := (H3.out b1 (by have := Hb1.out; omega)).trans HC2.out
 have HF3 : Hid (Fr S w.heap.size w w3) := HF2.out.trans (H2.out _ _ (Or.inl hS))
 have HIbh3 : Hid (Is w3 bh two unit ([] : List ((Int × Int) × (Unit)))) := HIbh2.out.congr (H3.out _ (by have := HNbh.out; omega))
 have HS3 : Hid (w3.heap.size = w.heap.size + 2) := H4.out.trans HS2.out
 clear H2 H3 H4 HG2 HC2 HF2 HS2 HIbh2
 simp only [Act.put]
 refine Ks.done ?_
 refine wp_seq ?_
 refine Ks.reg ?_
 refine Ks.v (.pointer (some ⟨g, 3, none⟩)) ?_
 simp only [Act.put, zA, zB, zC]
 refine Ks.make rfl _ rfl ?_
 intro w4 bd H1 H2 H3 H4
 have HG4 : Hid (w4.heap[g]? = some (.cells (cellsP s (.map (some bh)) (.map none) (.map none)) 143 (0, 0))) := (H3.out.block g (Array.getElem?_eq_some_iff.1 HG3.out).1).trans HG3.out
 have HC4 : Hid (w4.heap[b1]? = _) := (H3.out.block _ (Array.getElem?_eq_some_iff.1 HC3.out).1).trans HC3.out
 have HF4 : Hid (Fr S w.heap.size w w4) := HF3.out.calls H3.out HF3.out.size
 have HIbh4 : Hid (Is w4 bh two unit ([] : List ((Int × Int) × Unit))) := HIbh3.out.congr (H3.out.block _ HIbh3.out.lt)
 have HIbd4 : Hid (Is w4 bd two two ([] : List ((Int × Int) × (Int × Int)))) := ⟨_, _, H2.out, by simp, by simp, by simp, by simp⟩
 have HNbd : Hid (bd = w.heap.size + 2) := H1.out.trans HS3.out
 have HS4 : Hid (w4.heap.size = w.heap.size + 3) := H4.out.trans (by rw [HS3.out])
 clear H1 H2 H3 H4 HG3 HC3 HF3 HS3 HIbh3
 simp only [Act.put, zA, zB, zC]
 refine Ks.v (.pointer (some ⟨g, 3, none⟩)) ?_
 simp only [Act.put, zA, zB, zC]
 refine Ks.v (.pointer (some ⟨g, 5, none⟩)) ?_
 simp only [Act.put, zA, zB, zC]
 refine Ks.store rfl _ _ _ rfl g 5 _ rfl rfl HG4.out (by show 5 < 8; omega) (by kernel_rfl) rfl (cellsP s (.map (some bh)) (.map (some bd)) (.map none)) rfl ?_
 intro w5 HG5 H2 H3 H4
 have HC5 : Hid (w5.heap[b1]? = _) := (H3.out b1 (by have := Hb1.out; omega)).trans HC4.out
 have HF5 : Hid (Fr S w.heap.size w w5) := HF4.out.trans (H2.out _ _ (Or.inl hS))
 have HIbh5 : Hid (Is w5 bh two unit ([] : List ((Int × Int) × Unit))) := HIbh4.out.congr (H3.out _ (by have := HNbh.out; omega))
 have HIbd5 : Hid (Is w5 bd two two ([] : List ((Int × Int) × (Int × Int)))) := HIbd4.out.congr (H3.out _ (by have := HNbd.out; omega))
 have HS5 : Hid (w5.heap.size = w.heap.size + 3) := H4.out.trans HS4.out
 clear H2 H3 H4 HG4 HC4 HF4 HS4 HIbh4 HIbd4
 simp only [Act.put]
 refine Ks.done ?_
 refine Ks.reg ?_
 refine Ks.v (.pointer (some ⟨g, 3, none⟩)) ?_
 simp only [Act.put, zA, zB, zC]
 refine Ks.make rfl _ rfl ?_
 intro w6 bu H1 H2 H3 H4
 have HG6 : Hid (w6.heap[g]? = some (.cells (cellsP s (.map (some bh)) (.map (some bd)) (.map none)) 143 (0, 0))) := (H3.out.block g (Array.getElem?_eq_some_iff.1 HG5.out).1).trans HG5.out
 have HC6 : Hid (w6.heap[b1]? = _) := (H3.out.block _ (Array.getElem?_eq_some_iff.1 HC5.out).1).trans HC5.out
 have HF6 : Hid (Fr S w.heap.size w w6) := HF5.out.calls H3.out HF5.out.size
 have HIbh6 : Hid (Is w6 bh two unit ([] : List ((Int × Int) × Unit))) := HIbh5.out.congr (H3.out.block _ HIbh5.out.lt)
 have HIbd6 : Hid (Is w6 bd two two ([] : List ((Int × Int) × (Int × Int)))) := HIbd5.out.congr (H3.out.block _ HIbd5.out.lt)
 have HIbu6 : Hid (Is w6 bu two unit ([] : List ((Int × Int) × (Unit)))) := ⟨_, _, H2.out, by simp, by simp, by simp, by simp⟩
 have HNbu : Hid (bu = w.heap.size + 3) := H1.out.trans HS5.out
 have HS6 : Hid (w6.heap.size = w.heap.size + 4) := H4.out.trans (by rw [HS5.out])
 clear H1 H2 H3 H4 HG5 HC5 HF5 HS5 HIbh5 HIbd5
 simp only [Act.put, zA, zB, zC]
 refine Ks.v (.pointer (some ⟨g, 3, none⟩)) ?_
 simp only [Act.put, zA, zB, zC]
 refine Ks.v (.pointer (some ⟨g, 6, none⟩)) ?_
 simp only [Act.put, zA, zB, zC]
 refine Ks.store rfl _ _ _ rfl g 6 _ rfl rfl HG6.out (by show 6 < 8; omega) (by kernel_rfl) rfl (cellsP s (.map (some bh)) (.map (some bd)) (.map (some bu))) rfl ?_
 intro w7 HG7 H2 H3 H4
 have HC7 : Hid (w7.heap[b1]? = _) := (H3.out b1 (by have := Hb1.out; omega)).trans HC6.out
 have HF7 : Hid (Fr S w.heap.size w w7) := HF6.out.trans (H2.out _ _ (Or.inl hS))
 have HIbh7 : Hid (Is w7 bh two unit ([] : List ((Int × Int) × Unit))) := HIbh6.out.congr (H3.out _ (by have := HNbh.out; omega))
 have HIbd7 : Hid (Is w7 bd two two ([] : List ((Int × Int) × (Int × Int)))) := HIbd6.out.congr (H3.out _ (by have := HNbd.out; omega))
 have HIbu7 : Hid (Is w7 bu two unit ([] : List ((Int × Int) × (Unit)))) := HIbu6.out.congr (H3.out _ (by have := HNbu.out; omega))
 have HS7 : Hid (w7.heap.size = w.heap.size + 4) := H4.out.trans HS6.out
 clear H2 H3 H4 HG6 HC6 HF6 HS6 HIbh6 HIbd6 HIbu6
 simp only [Act.put]
 refine Ks.done ?_
 have HM : Hid (Made (fun k => S k ∨ w.heap.size ≤ k) w7 g s bh bd bu [] [] []) := by
  have h1 := HNbh.out
  have h2 := HNbd.out
  have h3 := HNbu.out
  exact ⟨HG7.out, Or.inr (by omega), Or.inr (by omega), Or.inr (by omega), by omega, by omega, by omega, HIbh7.out, HIbd7.out, HIbu7.out⟩
 clear HG7 HIbh7 HIbd7 HIbu7 HNbh HNbd HNbu HS7
 refine Qt.wp_tail 6 (by kernel_rfl) (by kernel_rfl) ?_
 simp only [List.take_succ_cons, List.take_zero]
 refine Qt.y_val rfl (.pointer (some ⟨g, 3, none⟩)) (fun _ _ => by kernel_rfl) ?_
 refine Qt.y_val rfl (.pointer (some ⟨g, 3, none⟩)) (fun _ _ => by kernel_rfl) ?_
 refine Qt.y_val rfl (.pointer (some ⟨g, 4, none⟩)) (fun _ _ => by kernel_rfl) ?_
 simp only [Act.put, zA, zB, zC]
 refine y_cell rfl _ _ rfl heardT rfl g 4 (.map (some bh)) rfl (Array.getElem?_eq_some_iff.1 HM.out.gate).1 (row_at HM.out.gate 4 rfl) ?_
 simp only [Act.put, zA, zB, zC]
 refine Qt.y_row rfl _ _ rfl _ rfl _ _ _ _ HC7.out Tryz.underlying154 rfl (by kernel_rfl) ?_
 simp only [Act.put, zA, zB, zC]
 refine Qt.y_val rfl (.agg #[]) (fun _ _ => by kernel_rfl) ?_
 simp only [Act.put, zA, zB, zC]
 refine Qt.y_nil ?_
 simp only [List.drop_succ_cons, List.drop_zero]
 intro w8 hb2
 have HM2 : Hid (Made (fun k => S k ∨ w.heap.size ≤ k) w8 g s bh bd bu [] [] []) := HM.out.congr (fun _ h => h) hb2.block
 have HF8 : Hid (Fr S w.heap.size w w8) := HF7.out.calls hb2 HF7.out.size
 clear hb2 HM HC7 HF7
 refine wpList_put _ rfl _ _ _ _ rfl admP heardT rfl HM2.out.ih c () rfl rfl ?_
 intro w9 hi ht
 have HM3 : Hid (Made (fun k => S k ∨ w.heap.size ≤ k) w9 g s bh bd bu (put c () []) [] []) := HM2.out.heard hi ht
 have HF9 : Hid (Fr S w.heap.size w w9) := HF8.out.turned ht HF8.out.size HM2.out.sh
 clear hi ht HM2 HF8
 simp only [Act.put]
 go_wp2
 go_end0
 exact ⟨rfl, ⟨bh, bd, bu, HM3.out⟩, HF9.out⟩
end Gt
end Go.Proofs.YtbojijefenfbgaaGreatDoor
namespace Go.Proofs.YtbojijefenfbgaaGreatDoor
open Go Go.RowKit
namespace Gt
open Mp Bk
theorem note_b {S : Nat → Prop} {w : World} {g : Nat} {s : St} (h : PGate S w g s) (c : Int × Int) : Calls Tryz.prog 151 #[.pointer (some ⟨g, 3, none⟩), two c] w fun e w' => ∃ v, e = .returned v ∧ v = .tuple #[] ∧ (∃ bh bd bu lh ld lu, Has s.l lh ld lu ∧ Made (fun k => S k ∨ w.heap.size ≤ k) w' g s bh bd bu (put c () lh) ld lu) ∧ Fr S w.heap.size w w' := by
 obtain ⟨hS, vh, vd, vu, hg, hm⟩ := h
 rcases hm with ⟨rfl, rfl, rfl, hl⟩ | ⟨bh, bd, bu, lh, ld, lu, rfl, rfl, rfl, s1, s2, s3, n1, n2, n3, h1, h2, h3, H⟩
 ·refine (note_nil hS hg c).mono ?_
  rintro e w' ⟨rfl, ⟨bh, bd, bu, hm⟩, hf⟩
  exact ⟨_, rfl, rfl, ⟨bh, bd, bu, [], [], [], by rw [hl]; exact Has.nil, hm⟩, hf⟩
 ·refine (note_some ⟨hg, s1, s2, s3, n1, n2, n3, h1, h2, h3⟩ c).mono ?_
  rintro e w' ⟨rfl, hm, hf⟩
  refine ⟨_, rfl, rfl, ⟨bh, bd, bu, lh, ld, lu, H, ?_⟩, hf⟩
  exact ⟨hm.gate, Or.inl s1, Or.inl s2, Or.inl s3, n1, n2, n3, hm.ih, hm.id, hm.iu⟩
theorem PGate.cut {S : Nat → Prop} {w : World} {g : Nat} {s : St} (h : PGate S w g s) {B : Nat} (hB : w.heap.size ≤ B) : PGate (fun k => S k ∧ k < B) w g s := by
 have hlt := h.lt
 obtain ⟨hS, vh, vd, vu, hg, hm⟩ := h
 refine ⟨⟨hS, by omega⟩, vh, vd, vu, hg, ?_⟩
 rcases hm with h | ⟨bh, bd, bu, lh, ld, lu, e1, e2, e3, s1, s2, s3, n1, n2, n3, h1, h2, h3, H⟩
 ·exact Or.inl h
 ·exact Or.inr ⟨bh, bd, bu, lh, ld, lu, e1, e2, e3, ⟨s1, Nat.lt_of_lt_of_le h1.lt hB⟩, ⟨s2, Nat.lt_of_lt_of_le h2.lt hB⟩, ⟨s3, Nat.lt_of_lt_of_le h3.lt hB⟩, n1, n2, n3, h1, h2, h3, H⟩
set_option maxRecDepth 10000 in
theorem add_b {S : Nat → Prop} {w : World} {g : Nat} {s : St} (h : PGate S w g s) (x : It) (hx : x.key ∉ s.l.map It.key) (hn : x.gone = false) : Calls Tryz.prog 79 #[.pointer (some ⟨g, 3, none⟩), two x.key, two x.pass] w fun e w' => e = .returned (.tuple #[]) ∧ PGate (fun k => S k ∨ w.heap.size ≤ k) w' g { s with l := ins x s.l } ∧ Fr S w.heap.size w w' := by
 have HP : Hid (PGate S w g s) := h
 have hS := h.1
 clear h
 obtain ⟨kx, hkx⟩ : ∃ y, y = x.key := ⟨_, rfl⟩
 obtain ⟨px, hpx⟩ : ∃ y, y = x.pass := ⟨_, rfl⟩
 rw [← hkx, ← hpx]
 unfold two
 go_enter Tryz.func79, Tryz.ntmps79
 refine wp_seq ?_
 refine Ks.reg ?_
 refine Ks.box rfl _ _ rfl #[.int .i64 kx.1, .int .i64 kx.2] rfl ?_
 intro w1 b1 Hb1 HK1 HB1 HS1
 simp only [Act.put, zA, zB, zC]
 refine Ks.box rfl _ _ rfl #[.int .i64 px.1, .int .i64 px.2] rfl ?_
 intro w2 b2 Hb2 HC2 HB2 HS2
 have HK2 : Hid (w2.heap[b1]? = _) := (HB2.out.block _ (Array.getElem?_eq_some_iff.1 HK1.out).1).trans HK1.out
 have HB : Hid (Below w.heap.size w w2) := HB1.out.trans (HB2.out.mono HB1.out.size)
 have HP2 : Hid (PGate (fun k => S k ∧ k < w.heap.size) w2 g s) := (HP.out.cut (Nat.le_refl _)).below HB.out
 have hb1 : w.heap.size ≤ b1 := Nat.le_of_eq Hb1.out.symm
 have hb2 : w.heap.size ≤ b2 := Nat.le_trans HB1.out.size (Nat.le_of_eq Hb2.out.symm)
 clear HK1 HB1 HS1 HB2 HS2 HP Hb1 Hb2
 simp only [Act.put, zA, zB, zC]
 refine Ks.done ?_
 refine wp_seq ?_
 refine Ks.reg ?_
 refine Ks.v (.pointer (some ⟨g, 3, none⟩)) ?_
 simp only [Act.put, zA, zB, zC]
 refine Ks.row rfl _ _ rfl b1 rfl HK2.out Tryz.underlying154 rfl (by kernel_rfl) ?_
 simp only [Act.put, zA, zB, zC]
 refine Ks.call rfl 151 #[.pointer (some ⟨g, 3, none⟩), two kx] (by unfold two; kernel_rfl) (note_b HP2.out kx) ?_
 rintro v w3 ⟨rfl, ⟨bh, bd, bu, lh, ld, lu, H, hm⟩, hf⟩
 have HH : Hid (Has s.l lh ld lu) := H
 have hT : ∀ k, (S k ∧ k < w.heap.size) ∨ w2.heap.size ≤ k → S k ∨ w.heap.size ≤ k := fun k hk => hk.imp (fun h => h.1) (Nat.le_trans HB.out.size)
 have HM3 : Hid (Made (fun k => S k ∨ w.heap.size ≤ k) w3 g s bh bd bu (put kx () lh) ld lu) := hm.congr hT fun _ _ => rfl
 have HF3 : Hid (Fr S w.heap.size w w3) := (Fr.of_below HB.out (Nat.le_refl _)).trans (hf.mono HB.out.size fun k _ h => h.1)
 have HK3 : Hid (w3.heap[b1]? = _) := (hf.block b1 (Array.getElem?_eq_some_iff.1 HK2.out).1 (fun h => by omega)).trans HK2.out
 have HC3 : Hid (w3.heap[b2]? = _) := (hf.block b2 (Array.getElem?_eq_some_iff.1 HC2.out).1 (fun h => by omega)).trans HC2.out
 clear H hm hf hT HK2 HC2 HP2 HB
 simp only [Act.put, zA, zB, zC]
 refine Ks.done ?_
 refine wp_seq ?_
 refine Qt.wp_tail 6 (by kernel_rfl) (by kernel_rfl) ?_
 simp only [List.take_succ_cons, List.take_zero]
 refine Qt.y_val rfl (.pointer (some ⟨g, 3, none⟩)) (fun _ _ => by kernel_rfl) ?_
 refine Qt.y_val rfl (.pointer (some ⟨g, 3, none⟩)) (fun _ _ => by kernel_rfl) ?_
 refine Qt.y_val rfl (.pointer (some ⟨g, 5, none⟩)) (fun _ _ => by kernel_rfl) ?_
 simp only [Act.put, zA, zB, zC]
 refine y_cell rfl _ _ rfl heldT rfl g 5 (.map (some bd)) rfl (Array.getElem?_eq_some_iff.1 HM3.out.gate).1 (row_at HM3.out.gate 5 rfl) ?_
 simp only [Act.put, zA, zB, zC]
 refine Qt.y_row rfl _ _ rfl _ rfl _ _ _ _ HK3.out Tryz.underlying154 rfl (by kernel_rfl) ?_
 simp only [Act.put, zA, zB, zC]
 refine Qt.y_row rfl _ _ rfl _ rfl _ _ _ _ HC3.out Tryz.underlying150 rfl (by kernel_rfl) ?_
 simp only [Act.put, zA, zB, zC]
 refine Qt.y_nil ?_
 simp only [List.drop_succ_cons, List.drop_zero]
 intro w4 hb4
 have HM4 : Hid (Made (fun k => S k ∨ w.heap.size ≤ k) w4 g s bh bd bu (put kx () lh) ld lu) := HM3.out.congr (fun _ h => h) hb4.block
 have HF4 : Hid (Fr S w.heap.size w w4) := HF3.out.calls hb4 HF3.out.size
 have HC4 : Hid (w4.heap[b2]? = _) := (hb4.block b2 (Array.getElem?_eq_some_iff.1 HC3.out).1).trans HC3.out
 clear hb4 HM3 HF3 HK3 HC3
 refine wpList_put _ rfl _ _ _ _ rfl admP heldT rfl HM4.out.id kx px rfl rfl ?_
 intro w5 hi ht
 have HM5 : Hid (Made (fun k => S k ∨ w.heap.size ≤ k) w5 g s bh bd bu (put kx () lh) (put kx px ld) lu) := HM4.out.held hi ht
 have HF5 : Hid (Fr S w.heap.size w w5) := HF4.out.turned ht HF4.out.size HM4.out.sd
 have HC5 : Hid (w5.heap[b2]? = _) := (ht.grown.block b2 (Array.getElem?_eq_some_iff.1 HC4.out).1 (fun e => by
  injection e with e
  obtain ⟨_, _, h2, _⟩ := HM4.out.id
  rw [← e, HC4.out] at h2
  cases h2)).trans HC4.out
 clear hi ht HM4 HF4 HC4
 simp only [Act.put]
 refine Ks.done ?_
 refine Qt.wp_tail 6 (by kernel_rfl) (by kernel_rfl) ?_
 simp only [List.take_succ_cons, List.take_zero]
 refine Qt.y_val rfl (.pointer (some ⟨g, 3, none⟩)) (fun _ _ => by kernel_rfl) ?_
 refine Qt.y_val rfl (.pointer (some ⟨g, 3, none⟩)) (fun _ _ => by kernel_rfl) ?_
 refine Qt.y_val rfl (.pointer (some ⟨g, 6, none⟩)) (fun _ _ => by kernel_rfl) ?_
 simp only [Act.put, zA, zB, zC]
 refine y_cell rfl _ _ rfl usedT rfl g 6 (.map (some bu)) rfl (Array.getElem?_eq_some_iff.1 HM5.out.gate).1 (row_at HM5.out.gate 6 rfl) ?_
 simp only [Act.put, zA, zB, zC]
 refine Qt.y_row rfl _ _ rfl _ rfl _ _ _ _ HC5.out Tryz.underlying150 rfl (by kernel_rfl) ?_
 simp only [Act.put, zA, zB, zC]
 refine Qt.y_val rfl (.agg #[]) (fun _ _ => by kernel_rfl) ?_
 simp only [Act.put, zA, zB, zC]
 refine Qt.y_nil ?_
 simp only [List.drop_succ_cons, List.drop_zero]
 intro w6 hb6
 have HM6 : Hid (Made (fun k => S k ∨ w.heap.size ≤ k) w6 g s bh bd bu (put kx () lh) (put kx px ld) lu) := HM5.out.congr (fun _ h => h) hb6.block
 have HF6 : Hid (Fr S w.heap.size w w6) := HF5.out.calls hb6 HF5.out.size
 clear hb6 HM5 HF5 HC5
 refine wpList_put _ rfl _ _ _ _ rfl passP usedT rfl HM6.out.iu px () rfl rfl ?_
 intro w7 hi ht
 have HM7 : Hid (Made (fun k => S k ∨ w.heap.size ≤ k) w7 g s bh bd bu (put kx () lh) (put kx px ld) (put px () lu)) := HM6.out.used hi ht
 have HF7 : Hid (Fr S w.heap.size w w7) := HF6.out.turned ht HF6.out.size HM6.out.su
 have Hnd : Hid _ := HM6.out.iu.keys
 clear hi ht HM6 HF6
 simp only [Act.put]
 go_wp2
 go_end0
 refine ⟨rfl, ?_, HF7.out⟩
 subst hkx hpx
 exact Made.pgate (s := { s with l := ins x s.l }) ⟨HM7.out.gate, HM7.out.sh, HM7.out.sd, HM7.out.su, HM7.out.hd, HM7.out.du, HM7.out.hu, HM7.out.ih, HM7.out.id, HM7.out.iu⟩ (Or.inl hS) (HH.out.add Hnd.out hn hx)
end Gt
end Go.Proofs.YtbojijefenfbgaaGreatDoor

/- Walk of the document's gate: Look. Walk of the document's gate: Admit. -/
import Derived.Test.YtbojijefenfbgaaGreatDoorGgShort
import Derived.Test.YtbojijefenfbgaaGreatDoorGgRefC
namespace Go.Proofs.YtbojijefenfbgaaGreatDoor
open Go Go.RowKit
namespace Gt
open Mp Bk Tk
def stK (s : St) (k : Nat) : Array Value := #[.int .i64 s.floor, .int .i64 s.own, .int .i64 s.l.length, .int .i64 ((held (s.l.take k)).length : Int)]
theorem held_take {l : List It} {k : Nat} {y : It} (h : l[k]? = some y) : (held (l.take (k + 1))).length = (held (l.take k)).length + (if y.gone then 0 else 1) := by
 obtain ⟨hk, hy⟩ := List.getElem?_eq_some_iff.1 h
 unfold held
 rw [List.take_succ_eq_append_getElem hk, hy, List.filter_append, List.length_append]
 cases hg : y.gone <;> simp [hg]
def lFrame (g b2 b3 k : Nat) (f : Nat → Value) : Act := { tmps := #[.pointer (some ⟨g, 0, none⟩), f 1, .pointer (some ⟨b2, 0, none⟩), .pointer (some ⟨b3, 0, none⟩), .int .i64 (k : Int), f 5, f 6, f 7, f 8, f 9, f 10, f 11, f 12, f 13, f 14, f 15, f 16, f 17, f 18, f 19, f 20, f 21, f 22, f 23, f 24, f 25, f 26, f 27, f 28, f 29, f 30, f 31, f 32, f 33, f 34, f 35, f 36, f 37, f 38, f 39, f 40, f 41], defers := [] }
set_option maxRecDepth 10000 in
set_option maxHeartbeats 1000000 in
theorem look_r {S : Nat → Prop} {w : World} {g kn : Nat} {s : St} (h : RGate S w g s kn) (hn : s.l.length ≤ 100000) : Calls Tryz.prog 67 #[.pointer (some ⟨g, 0, none⟩)] w fun e w' => e = .returned (.agg (stC s)) ∧ Below w.heap.size w w' := by
 obtain ⟨hS, lv, hg, hrow⟩ := h
 have HG0 : Hid (w.heap[g]? = some (.cells (cellsR s lv kn) 225 (0, 0))) := hg
 have HL0 : Hid (Row S w 73 5 lv s.l.length (itL s.l)) := hrow
 have hgl := (Array.getElem?_eq_some_iff.1 hg).1
 clear hg hrow
 go_enter Tryz.func67, Tryz.ntmps67
 refine wp_seq ?_
 refine Ks.reg ?_
 refine Ks.alloc rfl _ rfl (.agg #[.int .i64 0, .int .i64 0, .int .i64 0, .int .i64 0]) (by kernel_rfl) #[.int .i64 0, .int .i64 0, .int .i64 0, .int .i64 0] rfl ?_
 intro w1 b2 Hb2 HR1 HB1 HS1
 have hb2 : w.heap.size ≤ b2 := Nat.le_of_eq Hb2.out.symm
 have HG1 : Hid (w1.heap[g]? = some (.cells (cellsR s lv kn) 225 (0, 0))) := (HB1.out.block g hgl).trans HG0.out
 clear Hb2 HS1
 simp only [Act.put, zA, zB, zC]
 refine Ks.done ?_
 refine wp_seq ?_
 refine Qt.wp_let 14 (by kernel_rfl) (by kernel_rfl) _ rfl 129 rfl #[.int .i64 0, .int .i64 0, .int .i64 0, .int .i64 0] (by kernel_rfl) ?_
 simp only [List.take_succ_cons, List.take_zero]
 refine Qt.y_val rfl (.pointer (some ⟨g, 0, none⟩)) (fun _ _ => by kernel_rfl) ?_
 refine Qt.y_val rfl (.pointer (some ⟨g, 0, none⟩)) (fun _ _ => by kernel_rfl) ?_
 refine Qt.y_val rfl (.pointer (some ⟨g, 1, none⟩)) (fun _ _ => by kernel_rfl) ?_
 simp only [Act.put, zA, zB, zC]
 refine y_cell rfl _ _ rfl Tryz.underlying3 rfl g 1 (.int .i64 s.floor) rfl (Array.getElem?_eq_some_iff.1 HG1.out).1 (row_at HG1.out 1 rfl) ?_
 simp only [Act.put, zA, zB, zC]
 refine Qt.y_val rfl (.pointer (some ⟨g, 0, none⟩)) (fun _ _ => by kernel_rfl) ?_
 refine Qt.y_val rfl (.pointer (some ⟨g, 0, none⟩)) (fun _ _ => by kernel_rfl) ?_
 refine Qt.y_val rfl (.pointer (some ⟨g, 2, none⟩)) (fun _ _ => by kernel_rfl) ?_
 simp only [Act.put, zA, zB, zC]
 refine y_cell rfl _ _ rfl Tryz.underlying3 rfl g 2 (.int .i64 s.own) rfl (Array.getElem?_eq_some_iff.1 HG1.out).1 (row_at HG1.out 2 rfl) ?_
 simp only [Act.put, zA, zB, zC]
 refine Qt.y_val rfl (.pointer (some ⟨g, 0, none⟩)) (fun _ _ => by kernel_rfl) ?_
 refine Qt.y_val rfl (.pointer (some ⟨g, 0, none⟩)) (fun _ _ => by kernel_rfl) ?_
 refine Qt.y_val rfl (.pointer (some ⟨g, 5, none⟩)) (fun _ _ => by kernel_rfl) ?_
 simp only [Act.put, zA, zB, zC]
 refine y_cell rfl _ _ rfl Tryz.underlying64 rfl g 5 lv rfl (Array.getElem?_eq_some_iff.1 HG1.out).1 (row_at HG1.out 5 rfl) ?_
 simp only [Act.put, zA, zB, zC]
 refine Qt.y_val rfl (.int .i64 (s.l.length : Int)) (fun _ _ => by
  rcases HL0.out.cases with ⟨rfl, h0, _⟩ | ⟨gb, cap, cur, rfl, _⟩
  ·rw [h0]
   kernel_rfl
  ·kernel_rfl) ?_
 simp only [Act.put, zA, zB, zC]
 refine Qt.y_val rfl (.agg (stK s 0)) (fun _ _ => by kernel_rfl) ?_
 simp only [Act.put, zA, zB, zC]
 refine Qt.y_nil ?_
 simp only [List.drop_succ_cons, List.drop_zero]
 intro b3 w2 hbe2 hb3 hz2
 simp only [List.setIfInBounds_toArray, List.set_cons_zero, List.set_cons_succ]
 refine Ks.whole rfl _ _ _ rfl b3 (stK s 0) rfl rfl hz2 (by kernel_rfl) rfl (by simp [stK, Value.oneCell']) ?_
 intro w3 HT3 H2 H3 H4
 have hbb : b2 < b3 := Nat.lt_of_lt_of_le (Array.getElem?_eq_some_iff.1 HR1.out).1 hb3
 have HR3 : Hid (w3.heap[b2]? = _) := (H3.out b2 (by omega)).trans ((hbe2.block b2 (Array.getElem?_eq_some_iff.1 HR1.out).1).trans HR1.out)
 have HB3 : Hid (Below w.heap.size w w3) := (HB1.out.trans (hbe2.mono HB1.out.size)).trans ((H2.out (fun _ => False) w.heap.size (Or.inr (by omega))).below (Nat.le_refl _) (fun _ _ h => h))
 clear H2 H3 H4 hz2 hbe2 HR1 HB1 HG1 hb3
 simp only [Act.put]
 refine Ks.done ?_
 refine wp_seq ?_
 refine wp_seq ?_
 refine Ks.reg ?_
 refine Ks.v (.int .i64 0) ?_
 simp only [Act.put, zA, zB, zC]
 refine Ks.done ?_
 refine wp_block ?_
 have start : ∀ a0 : Act, a0 = lFrame g b2 b3 0 (fun j => a0.tmps.getD j undef) → ∃ (k : Nat) (f : Nat → Value), a0 = lFrame g b2 b3 k f ∧ k ≤ s.l.length ∧ s.l.length = s.l.length - k ∧ w3.heap[b3]? = some (.cells (stK s k) 129 (0, 0)) ∧ w3.heap[b2]? = some (.cells #[.int .i64 0, .int .i64 0, .int .i64 0, .int .i64 0] 129 (0, 0)) ∧ Below w.heap.size w w3 := fun a0 h => ⟨0, _, h, Nat.zero_le _, rfl, HT3.out, HR3.out, HB3.out⟩
 refine Ks.loop (fun m a wr => ∃ (k : Nat) (f : Nat → Value), a = lFrame g b2 b3 k f ∧ k ≤ s.l.length ∧ m = s.l.length - k ∧ wr.heap[b3]? = some (.cells (stK s k) 129 (0, 0)) ∧ wr.heap[b2]? = some (.cells #[.int .i64 0, .int .i64 0, .int .i64 0, .int .i64 0] 129 (0, 0)) ∧ Below w.heap.size w wr) s.l.length (start _ rfl) ?_
 clear start HT3 HR3 HB3
 rintro m a wr ⟨k, f, rfl, hk, rfl, hT, hR, hB⟩
 have fin : ∀ (a' : Act) (w' : World) k', a' = lFrame g b2 b3 k' (fun j => a'.tmps.getD j undef) → k < k' → k' ≤ s.l.length → w'.heap[b3]? = some (.cells (stK s k') 129 (0, 0)) → w'.heap[b2]? = some (.cells #[.int .i64 0, .int .i64 0, .int .i64 0, .int .i64 0] 129 (0, 0)) → Below w.heap.size w w' → ∃ m, m < s.l.length - k ∧ ∃ (k : Nat) (f : Nat → Value), a' = lFrame g b2 b3 k f ∧ k ≤ s.l.length ∧ m = s.l.length - k ∧ w'.heap[b3]? = some (.cells (stK s k) 129 (0, 0)) ∧ w'.heap[b2]? = some (.cells #[.int .i64 0, .int .i64 0, .int .i64 0, .int .i64 0] 129 (0, 0)) ∧ Below w.heap.size w w' :=
  fun a' w' k' h1 h2 h3 h4 h5 h6 => ⟨s.l.length - k', by omega, k', _, h1, h3, rfl, h4, h5, h6⟩
 have Hfin : Hid _ := fin
 clear fin
 have HT : Hid _ := hT
 have HR : Hid _ := hR
 have HBel : Hid (Below w.heap.size w wr) := hB
 have HG : Hid (wr.heap[g]? = some (.cells (cellsR s lv kn) 225 (0, 0))) := (hB.block g hgl).trans HG0.out
 clear hT hR hB
 unfold lFrame
 refine wp_seq ?_
 refine wp_seq ?_
 refine Ks.reg ?_
 refine Ks.v (.int .i64 (k : Int)) ?_
 simp only [Act.put, zA, zB, zC]
 refine Ks.v (.pointer (some ⟨g, 0, none⟩)) ?_
 simp only [Act.put, zA, zB, zC]
 refine Ks.v (.pointer (some ⟨g, 0, none⟩)) ?_
 simp only [Act.put, zA, zB, zC]
 refine Ks.v (.pointer (some ⟨g, 5, none⟩)) ?_
 simp only [Act.put, zA, zB, zC]
 refine Ks.cell rfl _ _ rfl Tryz.underlying64 rfl g 5 lv rfl (row_at HG.out 5 rfl) ?_
 simp only [Act.put, zA, zB, zC]
 refine Ks.val rfl (.int .i64 (s.l.length : Int)) (by
  rcases HL0.out.cases with ⟨rfl, h0, _⟩ | ⟨gb, cap, cur, rfl, _⟩
  ·rw [h0]
   kernel_rfl
  ·kernel_rfl) ?_
 simp only [Act.put, zA, zB, zC]
 refine Ks.v (.bool (decide ((k : Int) < s.l.length))) ?_
 simp only [Act.put, zA, zB, zC]
 refine Ks.done ?_
 refine wp_cond_split rfl ?_ ?_
 ·intro hlt
  have hlt : k < s.l.length := by have := of_decide_eq_true hlt; omega
  obtain ⟨y, hy⟩ : ∃ y, s.l[k]? = some y := ⟨_, List.getElem?_eq_getElem hlt⟩
  have hhk := held_take hy
  obtain ⟨gb, cap, cur, rfl, hgb, hcur, _, _, _, htk⟩ : ∃ gb cap cur, lv = .slice (some ⟨gb, 0, none⟩) s.l.length cap ∧ S gb ∧ w.heap[gb]? = some (.cells cur 73 (0, 0)) ∧ s.l.length ≤ cap ∧ cap ≤ maxLen ∧ cur.size = cap * 5 ∧ cur.toList.take (s.l.length * 5) = itL s.l := by
   rcases HL0.out.cases with ⟨_, h0, _⟩ | h
   ·omega
   ·exact h
  have HRg0 : Hid (w.rangeAt gb (k * 5) (itC y)) := Row.range itC_len hcur htk hy
  have hgbl := (Array.getElem?_eq_some_iff.1 hcur).1
  clear hcur htk
  refine wp_skip ?_
  refine Ks.norm ?_
  refine wp_seq ?_
  refine wp_block ?_
  refine wp_seq ?_
  refine Ks.reg ?_
  refine Ks.v (.pointer (some ⟨g, 0, none⟩)) ?_
  simp only [Act.put, zA, zB, zC]
  refine Ks.v (.pointer (some ⟨g, 0, none⟩)) ?_
  simp only [Act.put, zA, zB, zC]
  refine Ks.v (.pointer (some ⟨g, 5, none⟩)) ?_
  simp only [Act.put, zA, zB, zC]
  refine Ks.cell rfl _ _ rfl Tryz.underlying64 rfl g 5 _ rfl (row_at HG.out 5 rfl) ?_
  simp only [Act.put, zA, zB, zC]
  refine Ks.v (.int .i64 (k : Int)) ?_
  simp only [Act.put, zA, zB, zC]
  refine Ks.idx (by kernel_rfl) _ _ _ rfl 73 5 Tryz.underlying64 (by kernel_rfl) (by kernel_rfl) gb _ cap k rfl rfl hlt ?_
  simp only [Act.put, zA, zB, zC]
  refine Ks.v (.pointer (some ⟨gb, k * 5 + 4, none⟩)) ?_
  simp only [Act.put, zA, zB, zC]
  refine Ks.cell rfl _ _ rfl Tryz.underlying4 rfl gb (k * 5 + 4) (.bool y.gone) rfl (range_below HRg0.out HBel.out hgbl 4 _ rfl) ?_
  simp only [Act.put, zA, zB, zC]
  have h5 : ∀ (n : Nat), n ≤ 100000 → IntKind.i64.wrap ((n : Int) + 1) = ((n + 1 : Nat) : Int) := fun n h => by
   rw [IntWalk.i64_in _ ⟨by omega, by omega⟩]
   omega
  have hle : (held (s.l.take k)).length ≤ 100000 := by
   have h1 : (held (s.l.take k)).length ≤ (s.l.take k).length := List.length_filter_le _ _
   rw [List.length_take] at h1
   omega
  cases hgy : y.gone with
  | true =>
   rw [hgy, if_pos rfl] at hhk
   refine Ks.v (.bool false) ?_
   simp only [Act.put, zA, zB, zC]
   refine Ks.done ?_
   refine wp_cond_false rfl ?_
   refine wp_skip ?_
   refine Ks.inb ?_
   refine Ks.reg ?_
   refine Ks.v (.int .i64 (k : Int)) ?_
   simp only [Act.put, zA, zB, zC]
   refine Ks.val rfl (.int .i64 ((k + 1 : Nat) : Int)) (by
    simp [execOp, go_sem]
    rw [IntWalk.i64_in _ ⟨by omega, by omega⟩]) ?_
   simp only [Act.put, zA, zB, zC]
   refine Ks.v (.int .i64 ((k + 1 : Nat) : Int)) ?_
   simp only [Act.put, zA, zB, zC]
   refine Ks.done ?_
   have e : stK s (k + 1) = stK s k := by
    unfold stK
    rw [hhk, Nat.add_zero]
   exact Hfin.out _ _ (k + 1) rfl (by omega) hlt (by rw [e]; exact HT.out) HR.out HBel.out
  | false =>
   rw [hgy, if_neg (by decide)] at hhk
   refine Ks.v (.bool true) ?_
   simp only [Act.put, zA, zB, zC]
   refine Ks.done ?_
   refine wp_cond_true rfl ?_
   refine Ks.reg ?_
   refine Ks.v (.pointer (some ⟨b3, 3, none⟩)) ?_
   simp only [Act.put, zA, zB, zC]
   refine Ks.cell rfl _ _ rfl Tryz.underlying3 rfl b3 3 _ rfl (row_at HT.out 3 rfl) ?_
   simp only [Act.put, zA, zB, zC]
   refine Ks.val rfl (.int .i64 (((held (s.l.take (k + 1))).length : Nat) : Int)) (by
    rw [hhk, ← h5 _ hle]
    simp [execOp, go_sem]
    rfl) ?_
   simp only [Act.put, zA, zB, zC]
   refine Ks.v (.pointer (some ⟨b3, 3, none⟩)) ?_
   simp only [Act.put, zA, zB, zC]
   refine Ks.store rfl _ _ _ rfl b3 3 _ rfl rfl HT.out (by show 3 < 4; omega) (by kernel_rfl) rfl (stK s (k + 1)) rfl ?_
   intro w4 HT4 H2 H3 H4
   have HR4 : Hid (w4.heap[b2]? = _) := (H3.out b2 (by omega)).trans HR.out
   have HB4 : Hid (Below w.heap.size w w4) := HBel.out.trans ((H2.out (fun _ => False) w.heap.size (Or.inr (by omega))).below (Nat.le_refl _) (fun _ _ h => h))
   simp only [Act.put]
   refine Ks.fin ?_
   refine Ks.inb ?_
   refine Ks.reg ?_
   refine Ks.v (.int .i64 (k : Int)) ?_
   simp only [Act.put, zA, zB, zC]
   refine Ks.val rfl (.int .i64 ((k + 1 : Nat) : Int)) (by
    simp [execOp, go_sem]
    rw [IntWalk.i64_in _ ⟨by omega, by omega⟩]) ?_
   simp only [Act.put, zA, zB, zC]
   refine Ks.v (.int .i64 ((k + 1 : Nat) : Int)) ?_
   simp only [Act.put, zA, zB, zC]
   refine Ks.done ?_
   exact Hfin.out _ _ (k + 1) rfl (by omega) hlt HT4.out HR4.out HB4.out
 ·intro hlt
  obtain rfl : k = s.l.length := by have := of_decide_eq_false hlt; omega
  refine wp_exit ?_
  refine Ks.exit2 ?_
  refine Ks.norm ?_
  have e : stK s s.l.length = stC s := by
   unfold stK stC
   rw [List.take_of_length_le (Nat.le_refl _)]
  rw [e] at HT
  refine wp_seq ?_
  refine Ks.reg ?_
  refine Ks.row rfl _ _ rfl b3 rfl HT.out Tryz.underlying129 rfl (by kernel_rfl) ?_
  simp only [Act.put, zA, zB, zC]
  refine Ks.whole rfl _ _ _ rfl b2 (stC s) rfl rfl HR.out (by kernel_rfl) rfl (by simp [stC, Value.oneCell']) ?_
  intro w5 HR5 H2 H3 H4
  simp only [Act.put]
  refine Ks.done ?_
  refine wp_ret ?_
  exact Own.ret_row Tryz.results67 rfl b2 _ (stC s) _ _ rfl HR5.out Tryz.underlying129 rfl (by kernel_rfl) ⟨rfl, HBel.out.trans ((H2.out (fun _ => False) w.heap.size (Or.inr hb2)).below (Nat.le_refl _) (fun _ _ h => h))⟩
end Gt
end Go.Proofs.YtbojijefenfbgaaGreatDoor
namespace Go.Proofs.YtbojijefenfbgaaGreatDoor
open Go Go.RowKit
namespace Gt
open Mp Bk Tk
section
variable {ops : Array Oper} {rest : List Oper} {o : Oper} {a : Act} {w : World} {Q : Exit → Act → World → Prop}
theorem cut_lh (l : List UInt8) (i j : Nat) (hij : i ≤ j) (hj : j ≤ l.length) (w : World) : (Instr.slice 9 (.string ⟨l.toArray⟩) (some (.int .i64 (i : Int))) (some (.int .i64 (j : Int))) none).run Tryz.prog w = .ok (.string ⟨((l.drop i).take (j - i)).toArray⟩) w := by
 rw [run_slice_string w 9 ⟨l.toArray⟩ .i64 .i64 (i : Int) (j : Int) Tryz.underlying9 (by omega) (by omega) (by show (j : Int) ≤ (l.length : Int); omega), Int.toNat_natCast, Int.toNat_natCast, Sw.ext_str]
theorem k_byte (hw : Region.wanted o (yielded ops a.tmps) = true) (x ix : Operand) (ho : o.op = .index 9 x ix) (l : List UInt8) (k : Nat) (hk : k < l.length) (hx : a.eval x = .string ⟨l.toArray⟩) (hi : a.eval ix = .int .i64 (k : Int))
  (h : wpList Tryz.prog ops Q rest (a.put o.dst (.int .u8 ((l[k]).toNat : Int))) w) : wpList Tryz.prog ops Q (o :: rest) a w := by
 refine Ks.valg hw _ ?_ h
 have h1 := Dc.run_index_str w ⟨l.toArray⟩ k (by exact hk) k rfl
 unfold execOp
 simp only [ho, hx, hi, h1, Sem.run_bind, Result.andThen_ok, Sem.run_pure]
 rfl
theorem k_cutlh (hw : Region.wanted o (yielded ops a.tmps) = true) (x y z : Operand) (ho : o.op = .slice 9 x (some y) (some z) none) (l : List UInt8) (i j : Nat) (hij : i ≤ j) (hj : j ≤ l.length) (hx : a.eval x = .string ⟨l.toArray⟩) (hy : a.eval y = .int .i64 (i : Int)) (hz : a.eval z = .int .i64 (j : Int))
  (h : wpList Tryz.prog ops Q rest (a.put o.dst (.string ⟨((l.drop i).take (j - i)).toArray⟩)) w) : wpList Tryz.prog ops Q (o :: rest) a w := by
 refine Ks.valg hw _ ?_ h
 unfold execOp
 have hu := run_underlying (P := Tryz.prog) Tryz.underlying9 w
 simp only [ho, hx, hy, hz, Instr.sliceAt, hu, Option.map_some, Option.map_none, cut_lh l i j hij hj w, Sem.run_bind, Result.andThen_ok, Sem.run_pure]
end
theorem RGate.cut {S : Nat → Prop} {w : World} {g kn : Nat} {s : St} (h : RGate S w g s kn) {B : Nat} (hB : w.heap.size ≤ B) : RGate (fun k => S k ∧ k < B) w g s kn := by
 have hlt := h.lt
 obtain ⟨hS, lv, hg, hr⟩ := h
 exact ⟨⟨hS, by omega⟩, lv, hg, hr.1, fun b hb => ⟨hr.2 b hb, Nat.lt_of_lt_of_le (hr.lt b hb) hB⟩⟩
theorem KAt.cut {R : List UInt8 → List UInt8 → List UInt8 → Bool} {S : Nat → Prop} {w : World} {kn : Nat} {ks : List Asked} (h : KAt R S w kn ks) {B : Nat} (hB : w.heap.size ≤ B) : KAt R (fun k => S k ∧ k < B) w kn ks := by
 have hlt := h.lt
 obtain ⟨hS, h0, lv, yv, hg, h1, h2⟩ := h
 exact ⟨⟨hS, by omega⟩, h0, lv, yv, hg, ⟨h1.1, fun b hb => ⟨h1.2 b hb, Nat.lt_of_lt_of_le (h1.lt b hb) hB⟩⟩, ⟨h2.1, fun b hb => ⟨h2.2 b hb, Nat.lt_of_lt_of_le (h2.lt b hb) hB⟩⟩⟩
theorem RGate.mono {S T : Nat → Prop} {w : World} {g kn : Nat} {s : St} (h : RGate S w g s kn) (hS : ∀ k, S k → T k) : RGate T w g s kn := h.congr hS fun _ _ _ => rfl
theorem KAt.mono {R : List UInt8 → List UInt8 → List UInt8 → Bool} {S T : Nat → Prop} {w : World} {kn : Nat} {ks : List Asked} (h : KAt R S w kn ks) (hS : ∀ k, S k → T k) : KAt R T w kn ks := h.congr hS fun _ _ _ => rfl
def Left (S SK : Nat → Prop) (w w' : World) (g kn : Nat) (s' : St) (n : Nat) : Prop :=
 ∃ S' SK' ks', (∀ j, S' j → S j ∨ w.heap.size ≤ j) ∧ (∀ j, SK' j → SK j ∨ w.heap.size ≤ j) ∧ (∀ j, S' j → ¬ SK' j) ∧ ks'.length ≤ n + 1 ∧ RGate S' w' g s' kn ∧ KAt Gw.rightE SK' w' kn ks' ∧ Fr (fun j => S j ∨ SK j) w.heap.size w w'
def aFrame (g : Nat) (l : List UInt8) (i : Nat) (f : Nat → Value) : Act := { tmps := #[.pointer (some ⟨g, 0, none⟩), .string ⟨l.toArray⟩, f 2, f 3, .int .i64 0, f 5, .int .i64 (epochOf l), .int .i64 (serialOf l), .int .i64 (i : Int), f 9, f 10, f 11, f 12, f 13, f 14, f 15, f 16, f 17, f 18, f 19, f 20, f 21, f 22, f 23, f 24, f 25, f 26, f 27, f 28, f 29, f 30, f 31, f 32, f 33, f 34, f 35, f 36, f 37, f 38, f 39, f 40, f 41, f 42, f 43, f 44, f 45, f 46, f 47, f 48, f 49, f 50, f 51, f 52, f 53, f 54, f 55, f 56, f 57, f 58, f 59, f 60, f 61, f 62, f 63, f 64, f 65, f 66, f 67, f 68, f 69, f 70, f 71, f 72, f 73, f 74, f 75, f 76, f 77, f 78, f 79, f 80, f 81, f 82, f 83, f 84, f 85, f 86, f 87, f 88, f 89, f 90, f 91, f 92, f 93, f 94, f 95, f 96, f 97, f 98, f 99, f 100, f 101, f 102, f 103, f 104, f 105, f 106, f 107, f 108, f 109, f 110], defers := [] }
def None (l : List It) (p : Int × Int) (k : Nat) : Prop := ∀ y ∈ held (l.take k), y.pass ≠ p
theorem none_step {l : List It} {p : Int × Int} {k : Nat} {y : It} (h : None l p k) (hy : l[k]? = some y) (hn : ¬ (y.gone = false ∧ y.pass = p)) : None l p (k + 1) := by
 obtain ⟨hk, hy⟩ := List.getElem?_eq_some_iff.1 hy
 intro z hz
 unfold held at hz
 rw [List.take_succ_eq_append_getElem hk, hy, List.filter_append, List.mem_append] at hz
 rcases hz with hz | hz
 ·exact h z hz
 ·obtain ⟨h1, h2⟩ := List.mem_filter.1 hz
  simp at h1
  subst h1
  exact fun e => hn ⟨by simpa using h2, e⟩
set_option maxRecDepth 10000 in
theorem admR_no (g : Nat) (l : List UInt8) (hl : l.length ≠ 72 ∨ l.head? ≠ some 84) (w : World) : Calls Tryz.prog 131 #[.pointer (some ⟨g, 0, none⟩), .string ⟨l.toArray⟩] w fun e w' => e = .returned (.int .i64 4) ∧ Below w.heap.size w w' := by
 go_enter Tryz.func131, Tryz.ntmps131
 refine wp_seq ?_
 refine Ks.reg ?_
 refine Ks.v (.int .i64 0) ?_
 simp only [Act.put, zA, zB, zC]
 refine Ks.done ?_
 refine wp_seq ?_
 refine wp_seq ?_
 refine Ks.reg ?_
 refine Ks.v (.string ⟨l.toArray⟩) ?_
 simp only [Act.put, zA, zB, zC]
 refine Ks.v (.int .i64 (l.length : Int)) ?_
 simp only [Act.put, zA, zB, zC]
 by_cases h7 : l.length = 72
 ·have hh := hl.resolve_left (fun x => x h7)
  have hne : l[0]'(by omega) ≠ 84 := fun e => hh (by rw [List.head?_eq_getElem?, List.getElem?_eq_getElem (by omega), e])
  refine Ks.val rfl (.bool false) (by simp [execOp, go_sem, h7]) ?_
  simp only [Act.put, zA, zB, zC]
  refine Ks.v (.bool false) ?_
  simp only [Act.put, zA, zB, zC]
  refine Ks.valg (by kernel_rfl) (.string ⟨l.toArray⟩) (by kernel_rfl) ?_
  simp only [Act.put, zA, zB, zC]
  refine k_byte (by kernel_rfl) _ _ rfl l 0 (by omega) rfl rfl ?_
  simp only [Act.put, zA, zB, zC]
  refine Ks.valg (by kernel_rfl) (.bool true) (by
   have : (l[0]'(by omega)).toNat ≠ 84 := fun e => hne (UInt8.toNat_inj.1 e)
   simp [execOp, go_sem]
   omega) ?_
  simp only [Act.put, zA, zB, zC]
  refine Ks.v (.bool true) ?_
  simp only [Act.put, zA, zB, zC]
  refine Ks.done ?_
  refine wp_cond_true rfl ?_
  refine wp_seq ?_
  refine Ks.reg ?_
  refine Ks.v (.int .i64 4) ?_
  simp only [Act.put, zA, zB, zC]
  refine Ks.done ?_
  refine wp_ret ?_
  repeat (refine Ks.ret ?_)
  refine bodyPost_ret (v := .int .i64 4) (by simp [results, Tryz.results131]) rfl ?_
  exact ⟨rfl, Below.refl _ _⟩
 ·refine Ks.val rfl (.bool true) (by simp [execOp, go_sem]; omega) ?_
  simp only [Act.put, zA, zB, zC]
  refine Ks.v (.bool true) ?_
  simp only [Act.put, zA, zB, zC]
  with_reducible refine Ks.off (by kernel_rfl) ?_
  simp only [Act.put, zA, zB, zC]
  with_reducible refine Ks.off (by kernel_rfl) ?_
  simp only [Act.put, zA, zB, zC]
  with_reducible refine Ks.off (by kernel_rfl) ?_
  simp only [Act.put, zA, zB, zC]
  refine Ks.v (.bool true) ?_
  simp only [Act.put, zA, zB, zC]
  refine Ks.done ?_
  refine wp_cond_true rfl ?_
  refine wp_seq ?_
  refine Ks.reg ?_
  refine Ks.v (.int .i64 4) ?_
  simp only [Act.put, zA, zB, zC]
  refine Ks.done ?_
  refine wp_ret ?_
  repeat (refine Ks.ret ?_)
  refine bodyPost_ret (v := .int .i64 4) (by simp [results, Tryz.results131]) rfl ?_
  exact ⟨rfl, Below.refl _ _⟩
set_option maxRecDepth 10000 in
set_option maxHeartbeats 2000000 in
theorem admR_yes {S SK : Nat → Prop} {w : World} {g kn : Nat} {s : St} {ks : List Asked} (h : RGate S w g s kn) (hK : KAt Gw.rightE SK w kn ks) (hd : ∀ j, S j → ¬ SK j) (hI : Inv s) (hn : ks.length ≤ 20000000000) (l : List UInt8) (hl : l.length = 72) (hh : l.head? = some 84) : Calls Tryz.prog 131 #[.pointer (some ⟨g, 0, none⟩), .string ⟨l.toArray⟩] w fun e w' => e = .returned (.int .i64 (admE s l).1) ∧ Left S SK w w' g kn (admE s l).2 ks.length := by
 have HR : Hid (RGate (fun k => S k ∧ k < w.heap.size) w g s kn) := h.cut (Nat.le_refl _)
 have HK : Hid (KAt Gw.rightE (fun k => SK k ∧ k < w.heap.size) w kn ks) := hK.cut (Nat.le_refl _)
 have Hadm : Hid (admE s l = _) := show adm Gw.rightE s l = _ by
  unfold adm
  rw [if_neg (by simp [hl, hh])]
 have hfew := hI.few
 clear h hK
 have heq : (l[0]'(by omega)).toNat = 84 := by
  rw [List.head?_eq_getElem?, List.getElem?_eq_getElem (by omega)] at hh
  injection hh with hh
  rw [hh]
  rfl
 go_enter Tryz.func131, Tryz.ntmps131
 refine wp_seq ?_
 refine Ks.reg ?_
 refine Ks.v (.int .i64 0) ?_
 simp only [Act.put, zA, zB, zC]
 refine Ks.done ?_
 refine wp_seq ?_
 refine wp_seq ?_
 refine Ks.reg ?_
 refine Ks.v (.string ⟨l.toArray⟩) ?_
 simp only [Act.put, zA, zB, zC]
 refine Ks.v (.int .i64 (l.length : Int)) ?_
 simp only [Act.put, zA, zB, zC]
 refine Ks.val rfl (.bool false) (by simp [execOp, go_sem, hl]) ?_
 simp only [Act.put, zA, zB, zC]
 refine Ks.v (.bool false) ?_
 simp only [Act.put, zA, zB, zC]
 refine Ks.valg (by kernel_rfl) (.string ⟨l.toArray⟩) (by kernel_rfl) ?_
 simp only [Act.put, zA, zB, zC]
 refine k_byte (by kernel_rfl) _ _ rfl l 0 (by omega) rfl rfl ?_
 rw [heq]
 simp only [Act.put, zA, zB, zC]
 refine Ks.valg (by kernel_rfl) (.bool false) (by kernel_rfl) ?_
 simp only [Act.put, zA, zB, zC]
 refine Ks.v (.bool false) ?_
 simp only [Act.put, zA, zB, zC]
 refine Ks.done ?_
 refine wp_cond_false rfl ?_
 refine wp_skip ?_
 refine Ks.norm ?_
 refine wp_seq ?_
 clear heq
 have HGc : Hid _ := HR.out
 obtain ⟨_, lv, hg, hrow⟩ := HR.out
 have HG0 : Hid (w.heap[g]? = some (.cells (cellsR s lv kn) 225 (0, 0))) := hg
 clear hg hrow HGc
 have hgl := (Array.getElem?_eq_some_iff.1 HG0.out).1
 refine Qt.wp_tail 12 (by kernel_rfl) (by kernel_rfl) ?_
 simp only [List.take_succ_cons, List.take_zero]
 refine Qt.y_val rfl (.pointer (some ⟨g, 0, none⟩)) (fun _ _ => by kernel_rfl) ?_
 refine Qt.y_val rfl (.pointer (some ⟨g, 0, none⟩)) (fun _ _ => by kernel_rfl) ?_
 refine Qt.y_val rfl (.pointer (some ⟨g, 6, none⟩)) (fun _ _ => by kernel_rfl) ?_
 simp only [Act.put, zA, zB, zC]
 refine y_cell rfl _ _ rfl Tryz.underlying118 rfl g 6 (.pointer (some ⟨kn, 0, none⟩)) rfl hgl (row_at HG0.out 6 rfl) ?_
 simp only [Act.put, zA, zB, zC]
 refine Qt.y_val rfl (.pointer (some ⟨g, 0, none⟩)) (fun _ _ => by kernel_rfl) ?_
 refine Qt.y_val rfl (.pointer (some ⟨g, 0, none⟩)) (fun _ _ => by kernel_rfl) ?_
 refine Qt.y_val rfl (.pointer (some ⟨g, 3, none⟩)) (fun _ _ => by kernel_rfl) ?_
 simp only [Act.put, zA, zB, zC]
 refine y_cell rfl _ _ rfl Tryz.underlying9 rfl g 3 (str s.key) rfl hgl (row_at HG0.out 3 rfl) ?_
 simp only [Act.put, zA, zB, zC]
 refine Qt.y_val rfl (.string ⟨l.toArray⟩) (fun _ _ => by kernel_rfl) ?_
 simp only [Act.put, zA, zB, zC]
 refine y_cuth rfl _ _ rfl l 8 (by omega) rfl rfl ?_
 simp only [Act.put, zA, zB, zC]
 refine Qt.y_val rfl (.string ⟨l.toArray⟩) (fun _ _ => by kernel_rfl) ?_
 simp only [Act.put, zA, zB, zC]
 refine y_cutl rfl _ _ rfl l 8 (by omega) rfl rfl ?_
 simp only [Act.put, zA, zB, zC]
 refine Qt.y_nil ?_
 simp only [List.drop_succ_cons, List.drop_zero]
 intro w1 hb1
 obtain ⟨R, hR⟩ : ∃ R, R = Gw.rightE s.key (l.take 8) (l.drop 8) := ⟨_, rfl⟩
 rw [← hR] at Hadm
 refine Ks.call rfl 203 #[.pointer (some ⟨kn, 0, none⟩), str s.key, str (l.take 8), str (l.drop 8)] (by kernel_rfl) (R := fun v w' => v = .bool R ∧ (∃ ks', ks'.length ≤ ks.length + 1 ∧ KAt Gw.rightE (fun j => (SK j ∧ j < w.heap.size) ∨ w1.heap.size ≤ j) w' kn ks') ∧ Fr (fun j => SK j ∧ j < w.heap.size) w1.heap.size w1 w') (by rw [hR]; exact known_r (HK.out.below hb1) s.key (l.take 8) (l.drop 8) (by rw [List.length_take]; omega) hn) ?_
 rintro v w2 ⟨rfl, ⟨ks', hks', hK2⟩, hf2⟩
 have HF2 : Hid (Fr (fun j => S j ∨ SK j) w.heap.size w w2) := (Fr.of_below hb1 (Nat.le_refl _)).trans (hf2.mono hb1.size fun j _ h => Or.inr h.1)
 have HR2 : Hid (RGate (fun k => S k ∧ k < w.heap.size) w2 g s kn) := HR.out.congr (fun _ h => h) fun k hk hlt => (hf2.block k (Nat.lt_of_lt_of_le hlt hb1.size) (fun h => hd k hk.1 h.1)).trans (hb1.block k hlt)
 have HK2 : Hid (KAt Gw.rightE (fun j => (SK j ∨ w.heap.size ≤ j) ∧ j < w2.heap.size) w2 kn ks') := (hK2.mono fun j hj => hj.elim (fun h => Or.inl h.1) fun h => Or.inr (Nat.le_trans hb1.size h)).cut (Nat.le_refl _)
 have hsz2 : w.heap.size ≤ w2.heap.size := HF2.out.size
 clear hb1 hK2 hf2 HK HR HG0 hR lv hgl
 simp only [Act.put, zA, zB, zC]
 refine Ks.v (.bool R) ?_
 simp only [Act.put, zA, zB, zC]
 refine Ks.done ?_
 have out : ∀ w', Below w2.heap.size w2 w' → Left S SK w w' g kn s ks.length := fun w' hb => ⟨_, _, ks', fun j hj => Or.inl hj.1, fun j hj => hj.1, fun j hj hk => hk.1.elim (fun h => hd j hj.1 h) (fun h => by have := hj.2; omega), hks', HR2.out.below hb, HK2.out.below hb, HF2.out.calls hb hsz2⟩
 have Hout : Hid _ := out
 clear out
 refine wp_seq ?_
 refine Ks.reg ?_
 refine Ks.v (.string ⟨l.toArray⟩) ?_
 simp only [Act.put, zA, zB, zC]
 refine k_cutlh (by kernel_rfl) _ _ _ rfl l 1 3 (by omega) (by omega) rfl rfl rfl ?_
 simp only [Act.put, zA, zB, zC]
 refine Ks.pure (by kernel_rfl) 204 #[.string ⟨((l.drop 1).take 2).toArray⟩] (by kernel_rfl) (v := .int .i64 (epochOf l)) (high_r ((l.drop 1).take 2) (by rw [List.length_take]; omega) w2) ?_
 intro w3 hb3
 simp only [Act.put, zA, zB, zC]
 refine Ks.v (.int .i64 (epochOf l)) ?_
 simp only [Act.put, zA, zB, zC]
 refine Ks.done ?_
 refine wp_seq ?_
 refine Ks.reg ?_
 refine Ks.v (.string ⟨l.toArray⟩) ?_
 simp only [Act.put, zA, zB, zC]
 refine k_cutlh (by kernel_rfl) _ _ _ rfl l 3 7 (by omega) (by omega) rfl rfl rfl ?_
 simp only [Act.put, zA, zB, zC]
 refine Ks.pure (by kernel_rfl) 204 #[.string ⟨((l.drop 3).take 4).toArray⟩] (by kernel_rfl) (v := .int .i64 (serialOf l)) (high_r ((l.drop 3).take 4) (by rw [List.length_take]; omega) w3) ?_
 intro w4 hb4
 have HB4 : Hid (Below w2.heap.size w2 w4) := hb3.trans (hb4.mono hb3.size)
 have HR4 : Hid (RGate (fun k => S k ∧ k < w.heap.size) w4 g s kn) := HR2.out.below HB4.out
 clear hb3 hb4
 simp only [Act.put, zA, zB, zC]
 refine Ks.v (.int .i64 (serialOf l)) ?_
 simp only [Act.put, zA, zB, zC]
 refine Ks.done ?_
 refine wp_seq ?_
 refine wp_seq ?_
 refine Ks.reg ?_
 refine Ks.v (.bool R) ?_
 simp only [Act.put, zA, zB, zC]
 cases R with
 | false =>
  refine Ks.v (.bool true) ?_
  simp only [Act.put, zA, zB, zC]
  refine Ks.done ?_
  refine wp_cond_true rfl ?_
  refine wp_seq ?_
  refine Ks.reg ?_
  refine Ks.v (.int .i64 5) ?_
  simp only [Act.put, zA, zB, zC]
  refine Ks.done ?_
  refine wp_ret ?_
  repeat (refine Ks.ret ?_)
  refine bodyPost_ret (v := .int .i64 5) (by simp [results, Tryz.results131]) rfl ?_
  rw [Hadm.out, if_pos rfl]
  exact ⟨rfl, Hout.out w4 HB4.out⟩
 | true =>
  rw [if_neg (by decide)] at Hadm
  obtain ⟨hSg, lv, hg4, hrow4⟩ := HR4.out
  have HG : Hid (w4.heap[g]? = some (.cells (cellsR s lv kn) 225 (0, 0))) := hg4
  have HL : Hid (Row (fun k => S k ∧ k < w.heap.size) w4 73 5 lv s.l.length (itL s.l)) := hrow4
  clear hg4 hrow4
  refine Ks.v (.bool false) ?_
  simp only [Act.put, zA, zB, zC]
  refine Ks.done ?_
  refine wp_cond_false rfl ?_
  refine wp_skip ?_
  refine Ks.norm ?_
  refine wp_seq ?_
  refine wp_seq ?_
  refine Ks.reg ?_
  refine Ks.v (.int .i64 (epochOf l)) ?_
  simp only [Act.put, zA, zB, zC]
  refine Ks.v (.pointer (some ⟨g, 0, none⟩)) ?_
  simp only [Act.put, zA, zB, zC]
  refine Ks.v (.pointer (some ⟨g, 0, none⟩)) ?_
  simp only [Act.put, zA, zB, zC]
  refine Ks.v (.pointer (some ⟨g, 1, none⟩)) ?_
  simp only [Act.put, zA, zB, zC]
  refine Ks.cell rfl _ _ rfl Tryz.underlying3 rfl g 1 (.int .i64 s.floor) rfl (row_at HG.out 1 rfl) ?_
  simp only [Act.put, zA, zB, zC]
  refine Ks.v (.bool (decide (epochOf l < s.floor))) ?_
  simp only [Act.put, zA, zB, zC]
  refine Ks.done ?_
  refine wp_cond_split rfl ?_ ?_
  ·intro hfl
   have hfl := of_decide_eq_true hfl
   refine wp_seq ?_
   refine Ks.reg ?_
   refine Ks.v (.int .i64 6) ?_
   simp only [Act.put, zA, zB, zC]
   refine Ks.done ?_
   refine wp_ret ?_
   repeat (refine Ks.ret ?_)
   refine bodyPost_ret (v := .int .i64 6) (by simp [results, Tryz.results131]) rfl ?_
   rw [Hadm.out, if_pos hfl]
   exact ⟨rfl, Hout.out w4 HB4.out⟩
  ·intro hfl
   have hfl := of_decide_eq_false hfl
   rw [if_neg hfl] at Hadm
   refine wp_skip ?_
   refine Ks.norm ?_
   refine wp_seq ?_
   refine wp_seq ?_
   refine Ks.reg ?_
   refine Ks.v (.int .i64 0) ?_
   simp only [Act.put, zA, zB, zC]
   refine Ks.done ?_
   refine wp_block ?_
   have start : ∀ a0 : Act, a0 = aFrame g l 0 (fun j => a0.tmps.getD j undef) → w4 = w4 ∧ ∃ (i : Nat) (f : Nat → Value), a0 = aFrame g l i f ∧ i ≤ s.l.length ∧ s.l.length = s.l.length - i ∧ None s.l (epochOf l, serialOf l) i := fun a0 h => ⟨rfl, 0, _, h, Nat.zero_le _, rfl, fun y hy => by simp [held] at hy⟩
   refine Ks.loop (fun m a wr => wr = w4 ∧ ∃ (i : Nat) (f : Nat → Value), a = aFrame g l i f ∧ i ≤ s.l.length ∧ m = s.l.length - i ∧ None s.l (epochOf l, serialOf l) i) s.l.length (start _ rfl) ?_
   clear start
   rintro m a wr ⟨rfl, i, f, rfl, hi, rfl, hnone⟩
   have fin : ∀ (a' : Act) i', a' = aFrame g l i' (fun j => a'.tmps.getD j undef) → i < i' → i' ≤ s.l.length → None s.l (epochOf l, serialOf l) i' → ∃ m, m < s.l.length - i ∧ wr = wr ∧ ∃ (i : Nat) (f : Nat → Value), a' = aFrame g l i f ∧ i ≤ s.l.length ∧ m = s.l.length - i ∧ None s.l (epochOf l, serialOf l) i :=
    fun a' i' h1 h2 h3 h4 => ⟨s.l.length - i', by omega, rfl, i', _, h1, h3, rfl, h4⟩
   have Hfin : Hid _ := fin
   clear fin
   unfold aFrame
   refine wp_seq ?_
   refine wp_seq ?_
   refine Ks.reg ?_
   refine Ks.v (.int .i64 (i : Int)) ?_
   simp only [Act.put, zA, zB, zC]
   refine Ks.v (.pointer (some ⟨g, 0, none⟩)) ?_
   simp only [Act.put, zA, zB, zC]
   refine Ks.v (.pointer (some ⟨g, 0, none⟩)) ?_
   simp only [Act.put, zA, zB, zC]
   refine Ks.v (.pointer (some ⟨g, 5, none⟩)) ?_
   simp only [Act.put, zA, zB, zC]
   refine Ks.cell rfl _ _ rfl Tryz.underlying64 rfl g 5 lv rfl (row_at HG.out 5 rfl) ?_
   simp only [Act.put, zA, zB, zC]
   refine Ks.val rfl (.int .i64 (s.l.length : Int)) (by
    rcases HL.out.cases with ⟨rfl, h0, _⟩ | ⟨gb, cap, cur, rfl, _⟩
    ·rw [h0]
     kernel_rfl
    ·kernel_rfl) ?_
   simp only [Act.put, zA, zB, zC]
   refine Ks.v (.bool (decide ((i : Int) < s.l.length))) ?_
   simp only [Act.put, zA, zB, zC]
   refine Ks.done ?_
   refine wp_cond_split rfl ?_ ?_
   ·intro hlt
    have hlt : i < s.l.length := by have := of_decide_eq_true hlt; omega
    obtain ⟨y, hy⟩ : ∃ y, s.l[i]? = some y := ⟨_, List.getElem?_eq_getElem hlt⟩
    obtain ⟨gb, cap, cur, rfl, hgb, hcur, _, _, _, htk⟩ : ∃ gb cap cur, lv = .slice (some ⟨gb, 0, none⟩) s.l.length cap ∧ (S gb ∧ gb < w.heap.size) ∧ wr.heap[gb]? = some (.cells cur 73 (0, 0)) ∧ s.l.length ≤ cap ∧ cap ≤ maxLen ∧ cur.size = cap * 5 ∧ cur.toList.take (s.l.length * 5) = itL s.l := by
     rcases HL.out.cases with ⟨_, h0, _⟩ | h
     ·omega
     ·exact h
    have HRg : Hid (wr.rangeAt gb (i * 5) (itC y)) := Row.range itC_len hcur htk hy
    clear hcur htk
    refine wp_skip ?_
    refine Ks.norm ?_
    refine wp_seq ?_
    refine wp_block ?_
    refine wp_seq ?_
    refine Ks.reg ?_
    refine Ks.v (.pointer (some ⟨g, 0, none⟩)) ?_
    simp only [Act.put, zA, zB, zC]
    refine Ks.v (.pointer (some ⟨g, 0, none⟩)) ?_
    simp only [Act.put, zA, zB, zC]
    refine Ks.v (.pointer (some ⟨g, 5, none⟩)) ?_
    simp only [Act.put, zA, zB, zC]
    refine Ks.cell rfl _ _ rfl Tryz.underlying64 rfl g 5 _ rfl (row_at HG.out 5 rfl) ?_
    simp only [Act.put, zA, zB, zC]
    refine Ks.v (.int .i64 (i : Int)) ?_
    simp only [Act.put, zA, zB, zC]
    refine Ks.idx (by kernel_rfl) _ _ _ rfl 73 5 Tryz.underlying64 (by kernel_rfl) (by kernel_rfl) gb _ cap i rfl rfl hlt ?_
    simp only [Act.put, zA, zB, zC]
    refine Ks.v (.pointer (some ⟨gb, i * 5 + 4, none⟩)) ?_
    simp only [Act.put, zA, zB, zC]
    refine Ks.cell rfl _ _ rfl Tryz.underlying4 rfl gb (i * 5 + 4) (.bool y.gone) rfl (HRg.out 4 _ rfl) ?_
    simp only [Act.put, zA, zB, zC]
    cases hgy : y.gone with
    | true =>
     have hyn : ¬ (y.gone = false ∧ y.pass = (epochOf l, serialOf l)) := fun h => by
      rw [hgy] at h
      cases h.1
     refine Ks.v (.bool false) ?_
     simp only [Act.put, zA, zB, zC]
     refine Ks.v (.bool false) ?_
     simp only [Act.put, zA, zB, zC]
     with_reducible refine Ks.off (by kernel_rfl) ?_
     simp only [Act.put, zA, zB, zC]
     with_reducible refine Ks.off (by kernel_rfl) ?_
     simp only [Act.put, zA, zB, zC]
     with_reducible refine Ks.off (by kernel_rfl) ?_
     simp only [Act.put, zA, zB, zC]
     with_reducible refine Ks.off (by kernel_rfl) ?_
     simp only [Act.put, zA, zB, zC]
     with_reducible refine Ks.off (by kernel_rfl) ?_
     simp only [Act.put, zA, zB, zC]
     with_reducible refine Ks.off (by kernel_rfl) ?_
     simp only [Act.put, zA, zB, zC]
     with_reducible refine Ks.off (by kernel_rfl) ?_
     simp only [Act.put, zA, zB, zC]
     with_reducible refine Ks.off (by kernel_rfl) ?_
     simp only [Act.put, zA, zB, zC]
     with_reducible refine Ks.off (by kernel_rfl) ?_
     simp only [Act.put, zA, zB, zC]
     with_reducible refine Ks.off (by kernel_rfl) ?_
     simp only [Act.put, zA, zB, zC]
     refine Ks.v (.bool false) ?_
     simp only [Act.put, zA, zB, zC]
     refine Ks.v (.bool false) ?_
     simp only [Act.put, zA, zB, zC]
     with_reducible refine Ks.off (by kernel_rfl) ?_
     simp only [Act.put, zA, zB, zC]
     with_reducible refine Ks.off (by kernel_rfl) ?_
     simp only [Act.put, zA, zB, zC]
     with_reducible refine Ks.off (by kernel_rfl) ?_
     simp only [Act.put, zA, zB, zC]
     with_reducible refine Ks.off (by kernel_rfl) ?_
     simp only [Act.put, zA, zB, zC]
     with_reducible refine Ks.off (by kernel_rfl) ?_
     simp only [Act.put, zA, zB, zC]
     with_reducible refine Ks.off (by kernel_rfl) ?_
     simp only [Act.put, zA, zB, zC]
     with_reducible refine Ks.off (by kernel_rfl) ?_
     simp only [Act.put, zA, zB, zC]
     with_reducible refine Ks.off (by kernel_rfl) ?_
     simp only [Act.put, zA, zB, zC]
     with_reducible refine Ks.off (by kernel_rfl) ?_
     simp only [Act.put, zA, zB, zC]
     with_reducible refine Ks.off (by kernel_rfl) ?_
     simp only [Act.put, zA, zB, zC]
     refine Ks.v (.bool false) ?_
     simp only [Act.put, zA, zB, zC]
     refine Ks.done ?_
     refine wp_cond_false rfl ?_
     refine wp_skip ?_
     refine Ks.inb ?_
     refine Ks.reg ?_
     refine Ks.v (.int .i64 (i : Int)) ?_
     simp only [Act.put, zA, zB, zC]
     refine Ks.val rfl (.int .i64 ((i + 1 : Nat) : Int)) (by
      simp [execOp, go_sem]
      rw [IntWalk.i64_in _ ⟨by omega, by omega⟩]) ?_
     simp only [Act.put, zA, zB, zC]
     refine Ks.v (.int .i64 ((i + 1 : Nat) : Int)) ?_
     simp only [Act.put, zA, zB, zC]
     refine Ks.done ?_
     exact Hfin.out _ (i + 1) rfl (by omega) hlt (none_step hnone hy hyn)
    | false =>
     refine Ks.v (.bool true) ?_
     simp only [Act.put, zA, zB, zC]
     refine Ks.v (.bool true) ?_
     simp only [Act.put, zA, zB, zC]
     refine Ks.valg (by kernel_rfl) (.pointer (some ⟨g, 0, none⟩)) (by kernel_rfl) ?_
     simp only [Act.put, zA, zB, zC]
     refine Ks.valg (by kernel_rfl) (.pointer (some ⟨g, 0, none⟩)) (by kernel_rfl) ?_
     simp only [Act.put, zA, zB, zC]
     refine Ks.valg (by kernel_rfl) (.pointer (some ⟨g, 5, none⟩)) (by kernel_rfl) ?_
     simp only [Act.put, zA, zB, zC]
     refine Ks.cellg (by kernel_rfl) _ _ rfl Tryz.underlying64 rfl g 5 _ rfl (row_at HG.out 5 rfl) ?_
     simp only [Act.put, zA, zB, zC]
     refine Ks.valg (by kernel_rfl) (.int .i64 (i : Int)) (by kernel_rfl) ?_
     simp only [Act.put, zA, zB, zC]
     refine Ks.idx (by kernel_rfl) _ _ _ rfl 73 5 Tryz.underlying64 (by kernel_rfl) (by kernel_rfl) gb _ cap i rfl rfl hlt ?_
     simp only [Act.put, zA, zB, zC]
     refine Ks.valg (by kernel_rfl) (.pointer (some ⟨gb, i * 5 + 2, none⟩)) (by kernel_rfl) ?_
     simp only [Act.put, zA, zB, zC]
     refine Ks.cellg (by kernel_rfl) _ _ rfl Tryz.underlying3 rfl gb (i * 5 + 2) (.int .i64 y.epoch) rfl (HRg.out 2 _ rfl) ?_
     simp only [Act.put, zA, zB, zC]
     refine Ks.valg (by kernel_rfl) (.int .i64 (epochOf l)) (by kernel_rfl) ?_
     simp only [Act.put, zA, zB, zC]
     by_cases he : y.epoch = epochOf l
     ·refine Ks.valg (by kernel_rfl) (.bool true) (by simp [execOp, go_sem, he]) ?_
      simp only [Act.put, zA, zB, zC]
      refine Ks.v (.bool true) ?_
      simp only [Act.put, zA, zB, zC]
      refine Ks.v (.bool true) ?_
      simp only [Act.put, zA, zB, zC]
      refine Ks.valg (by kernel_rfl) (.pointer (some ⟨g, 0, none⟩)) (by kernel_rfl) ?_
      simp only [Act.put, zA, zB, zC]
      refine Ks.valg (by kernel_rfl) (.pointer (some ⟨g, 0, none⟩)) (by kernel_rfl) ?_
      simp only [Act.put, zA, zB, zC]
      refine Ks.valg (by kernel_rfl) (.pointer (some ⟨g, 5, none⟩)) (by kernel_rfl) ?_
      simp only [Act.put, zA, zB, zC]
      refine Ks.cellg (by kernel_rfl) _ _ rfl Tryz.underlying64 rfl g 5 _ rfl (row_at HG.out 5 rfl) ?_
      simp only [Act.put, zA, zB, zC]
      refine Ks.valg (by kernel_rfl) (.int .i64 (i : Int)) (by kernel_rfl) ?_
      simp only [Act.put, zA, zB, zC]
      refine Ks.idx (by kernel_rfl) _ _ _ rfl 73 5 Tryz.underlying64 (by kernel_rfl) (by kernel_rfl) gb _ cap i rfl rfl hlt ?_
      simp only [Act.put, zA, zB, zC]
      refine Ks.valg (by kernel_rfl) (.pointer (some ⟨gb, i * 5 + 3, none⟩)) (by kernel_rfl) ?_
      simp only [Act.put, zA, zB, zC]
      refine Ks.cellg (by kernel_rfl) _ _ rfl Tryz.underlying3 rfl gb (i * 5 + 3) (.int .i64 y.serial) rfl (HRg.out 3 _ rfl) ?_
      simp only [Act.put, zA, zB, zC]
      refine Ks.valg (by kernel_rfl) (.int .i64 (serialOf l)) (by kernel_rfl) ?_
      simp only [Act.put, zA, zB, zC]
      by_cases hs : y.serial = serialOf l
      ·refine Ks.valg (by kernel_rfl) (.bool true) (by simp [execOp, go_sem, hs]) ?_
       simp only [Act.put, zA, zB, zC]
       refine Ks.v (.bool true) ?_
       simp only [Act.put, zA, zB, zC]
       refine Ks.done ?_
       refine wp_cond_true rfl ?_
       refine wp_seq ?_
       refine Ks.reg ?_
       refine Ks.v (.int .i64 7) ?_
       simp only [Act.put, zA, zB, zC]
       refine Ks.done ?_
       refine wp_ret ?_
       repeat (first | refine Ks.ret ?_ | refine Ks.retb ?_)
       refine bodyPost_ret (v := .int .i64 7) (by simp [results, Tryz.results131]) rfl ?_
       have hex : ∃ x ∈ held s.l, x.pass = (epochOf l, serialOf l) := ⟨y, List.mem_filter.2 ⟨List.mem_of_getElem? hy, by simp [hgy]⟩, Prod.ext he hs⟩
       rw [Hadm.out, if_pos hex]
       exact ⟨rfl, Hout.out wr HB4.out⟩
      ·have hyn : ¬ (y.gone = false ∧ y.pass = (epochOf l, serialOf l)) := fun h => hs (congrArg Prod.snd h.2)
       refine Ks.valg (by kernel_rfl) (.bool false) (by simp [execOp, go_sem, hs]) ?_
       simp only [Act.put, zA, zB, zC]
       refine Ks.v (.bool false) ?_
       simp only [Act.put, zA, zB, zC]
       refine Ks.done ?_
       refine wp_cond_false rfl ?_
       refine wp_skip ?_
       refine Ks.inb ?_
       refine Ks.reg ?_
       refine Ks.v (.int .i64 (i : Int)) ?_
       simp only [Act.put, zA, zB, zC]
       refine Ks.val rfl (.int .i64 ((i + 1 : Nat) : Int)) (by
        simp [execOp, go_sem]
        rw [IntWalk.i64_in _ ⟨by omega, by omega⟩]) ?_
       simp only [Act.put, zA, zB, zC]
       refine Ks.v (.int .i64 ((i + 1 : Nat) : Int)) ?_
       simp only [Act.put, zA, zB, zC]
       refine Ks.done ?_
       exact Hfin.out _ (i + 1) rfl (by omega) hlt (none_step hnone hy hyn)
     ·have hyn : ¬ (y.gone = false ∧ y.pass = (epochOf l, serialOf l)) := fun h => he (congrArg Prod.fst h.2)
      refine Ks.valg (by kernel_rfl) (.bool false) (by simp [execOp, go_sem, he]) ?_
      simp only [Act.put, zA, zB, zC]
      refine Ks.v (.bool false) ?_
      simp only [Act.put, zA, zB, zC]
      refine Ks.v (.bool false) ?_
      simp only [Act.put, zA, zB, zC]
      with_reducible refine Ks.off (by kernel_rfl) ?_
      simp only [Act.put, zA, zB, zC]
      with_reducible refine Ks.off (by kernel_rfl) ?_
      simp only [Act.put, zA, zB, zC]
      with_reducible refine Ks.off (by kernel_rfl) ?_
      simp only [Act.put, zA, zB, zC]
      with_reducible refine Ks.off (by kernel_rfl) ?_
      simp only [Act.put, zA, zB, zC]
      with_reducible refine Ks.off (by kernel_rfl) ?_
      simp only [Act.put, zA, zB, zC]
      with_reducible refine Ks.off (by kernel_rfl) ?_
      simp only [Act.put, zA, zB, zC]
      with_reducible refine Ks.off (by kernel_rfl) ?_
      simp only [Act.put, zA, zB, zC]
      with_reducible refine Ks.off (by kernel_rfl) ?_
      simp only [Act.put, zA, zB, zC]
      with_reducible refine Ks.off (by kernel_rfl) ?_
      simp only [Act.put, zA, zB, zC]
      with_reducible refine Ks.off (by kernel_rfl) ?_
      simp only [Act.put, zA, zB, zC]
      refine Ks.v (.bool false) ?_
      simp only [Act.put, zA, zB, zC]
      refine Ks.done ?_
      refine wp_cond_false rfl ?_
      refine wp_skip ?_
      refine Ks.inb ?_
      refine Ks.reg ?_
      refine Ks.v (.int .i64 (i : Int)) ?_
      simp only [Act.put, zA, zB, zC]
      refine Ks.val rfl (.int .i64 ((i + 1 : Nat) : Int)) (by
       simp [execOp, go_sem]
       rw [IntWalk.i64_in _ ⟨by omega, by omega⟩]) ?_
      simp only [Act.put, zA, zB, zC]
      refine Ks.v (.int .i64 ((i + 1 : Nat) : Int)) ?_
      simp only [Act.put, zA, zB, zC]
      refine Ks.done ?_
      exact Hfin.out _ (i + 1) rfl (by omega) hlt (none_step hnone hy hyn)
   ·intro hlt
    obtain rfl : i = s.l.length := by have := of_decide_eq_false hlt; omega
    have hnot : ¬ ∃ x ∈ held s.l, x.pass = (epochOf l, serialOf l) := fun ⟨x, hx, e⟩ => hnone x (by rw [List.take_of_length_le (Nat.le_refl _)]; exact hx) e
    rw [if_neg hnot] at Hadm
    refine wp_exit ?_
    refine Ks.exit2 ?_
    refine Ks.norm ?_
    refine wp_seq ?_
    refine wp_seq ?_
    refine Ks.reg ?_
    refine Ks.v (.pointer (some ⟨g, 0, none⟩)) ?_
    simp only [Act.put, zA, zB, zC]
    refine Ks.v (.pointer (some ⟨g, 0, none⟩)) ?_
    simp only [Act.put, zA, zB, zC]
    refine Ks.v (.pointer (some ⟨g, 2, none⟩)) ?_
    simp only [Act.put, zA, zB, zC]
    refine Ks.cell rfl _ _ rfl Tryz.underlying3 rfl g 2 (.int .i64 s.own) rfl (row_at HG.out 2 rfl) ?_
    simp only [Act.put, zA, zB, zC]
    refine Ks.v (.bool (decide ((1000 : Int) ≤ s.own))) ?_
    simp only [Act.put, zA, zB, zC]
    refine Ks.done ?_
    refine wp_cond_split rfl ?_ ?_
    ·intro ho
     have ho := of_decide_eq_true ho
     refine wp_seq ?_
     refine Ks.reg ?_
     refine Ks.v (.int .i64 8) ?_
     simp only [Act.put, zA, zB, zC]
     refine Ks.done ?_
     refine wp_ret ?_
     repeat (refine Ks.ret ?_)
     refine bodyPost_ret (v := .int .i64 8) (by simp [results, Tryz.results131]) rfl ?_
     rw [Hadm.out, if_pos ho]
     exact ⟨rfl, Hout.out wr HB4.out⟩
    ·intro ho
     have ho := of_decide_eq_false ho
     rw [if_neg ho] at Hadm
     refine wp_skip ?_
     refine Ks.norm ?_
     refine wp_seq ?_
     refine Ks.reg ?_
     refine Ks.v (.pointer (some ⟨g, 0, none⟩)) ?_
     simp only [Act.put, zA, zB, zC]
     refine Ks.v (.pointer (some ⟨g, 0, none⟩)) ?_
     simp only [Act.put, zA, zB, zC]
     refine Ks.v (.pointer (some ⟨g, 2, none⟩)) ?_
     simp only [Act.put, zA, zB, zC]
     refine Ks.cell rfl _ _ rfl Tryz.underlying3 rfl g 2 (.int .i64 s.own) rfl (row_at HG.out 2 rfl) ?_
     simp only [Act.put, zA, zB, zC]
     refine Ks.val rfl (.int .i64 (s.own + 1)) (by
      have h1 := hI.own
      simp [execOp, go_sem]
      exact IntWalk.i64_in _ ⟨by omega, by omega⟩) ?_
     simp only [Act.put, zA, zB, zC]
     refine Ks.v (.pointer (some ⟨g, 0, none⟩)) ?_
     simp only [Act.put, zA, zB, zC]
     refine Ks.v (.pointer (some ⟨g, 2, none⟩)) ?_
     simp only [Act.put, zA, zB, zC]
     refine Ks.store rfl _ _ _ rfl g 2 _ rfl rfl HG.out (by show 2 < 7; omega) (by kernel_rfl) rfl (cellsR { s with own := s.own + 1 } lv kn) rfl ?_
     intro w9 HG9 H2 H3 H4
     have HR9 : Hid (RGate (fun k => S k ∧ k < w.heap.size) w9 g { s with own := s.own + 1 } kn) := ⟨hSg, lv, HG9.out, HL.out.congr fun b hb => H3.out b (fun e => row_not HL.out HG.out (by decide) (by rw [hb, e]))⟩
     have HK9 : Hid (KAt Gw.rightE (fun j => (SK j ∨ w.heap.size ≤ j) ∧ j < w2.heap.size) w9 kn ks') := (HK2.out.below HB4.out).congr (fun _ h => h) fun j hj _ => H3.out j (fun e => by
      subst e
      exact hj.1.elim (fun h => hd _ hSg.1 h) (fun h => by have := hSg.2; omega))
     have HF9 : Hid (Fr (fun j => S j ∨ SK j) w.heap.size w w9) := (HF2.out.calls HB4.out hsz2).trans (H2.out _ _ (Or.inl (Or.inl hSg.1)))
     have hsz9 : w2.heap.size ≤ w9.heap.size := by
      rw [H4.out]
      exact HB4.out.size
     clear H2 H3 H4 HG9 HG HL Hout HR4 HR2 HK2 HF2 HB4
     simp only [Act.put]
     refine Ks.done ?_
     refine wp_seq ?_
     obtain ⟨hSg9, lv9, hg9, hrow9⟩ := HR9.out
     have HG : Hid (w9.heap[g]? = some (.cells (cellsR { s with own := s.own + 1 } lv9 kn) 225 (0, 0))) := hg9
     have hgl9 := (Array.getElem?_eq_some_iff.1 hg9).1
     clear hg9 hrow9
     refine Qt.wp_tail 12 (by kernel_rfl) (by kernel_rfl) ?_
     simp only [List.take_succ_cons, List.take_zero]
     refine Qt.y_val rfl (.pointer (some ⟨g, 0, none⟩)) (fun _ _ => by kernel_rfl) ?_
     refine Qt.y_val rfl (.pointer (some ⟨g, 0, none⟩)) (fun _ _ => by kernel_rfl) ?_
     refine Qt.y_val rfl (.pointer (some ⟨g, 0, none⟩)) (fun _ _ => by kernel_rfl) ?_
     refine Qt.y_val rfl (.pointer (some ⟨g, 0, none⟩)) (fun _ _ => by kernel_rfl) ?_
     simp only [Act.put, zA, zB, zC]
     refine y_cell rfl _ _ rfl Tryz.underlying3 rfl g 0 (.int .i64 s.number) rfl hgl9 (row_at HG.out 0 rfl) ?_
     simp only [Act.put, zA, zB, zC]
     refine Qt.y_val rfl (.pointer (some ⟨g, 0, none⟩)) (fun _ _ => by kernel_rfl) ?_
     refine Qt.y_val rfl (.pointer (some ⟨g, 0, none⟩)) (fun _ _ => by kernel_rfl) ?_
     refine Qt.y_val rfl (.pointer (some ⟨g, 2, none⟩)) (fun _ _ => by kernel_rfl) ?_
     simp only [Act.put, zA, zB, zC]
     refine y_cell rfl _ _ rfl Tryz.underlying3 rfl g 2 (.int .i64 (s.own + 1)) rfl hgl9 (row_at HG.out 2 rfl) ?_
     simp only [Act.put, zA, zB, zC]
     refine Qt.y_val rfl (.int .i64 (epochOf l)) (fun _ _ => by kernel_rfl) ?_
     refine Qt.y_val rfl (.int .i64 (serialOf l)) (fun _ _ => by kernel_rfl) ?_
     simp only [Act.put, zA, zB, zC]
     refine Qt.y_val rfl (itA (s.fresh l)) (fun _ _ => by kernel_rfl) ?_
     simp only [Act.put, zA, zB, zC]
     refine Qt.y_nil ?_
     simp only [List.drop_succ_cons, List.drop_zero]
     intro w10 hb10
     have HR10 : Hid (RGate (fun k => S k ∧ k < w.heap.size) w10 g { s with own := s.own + 1 } kn) := HR9.out.below hb10
     have HK10 : Hid (KAt Gw.rightE (fun j => (SK j ∨ w.heap.size ≤ j) ∧ j < w2.heap.size) w10 kn ks') := HK9.out.below hb10
     have hsz10 : w2.heap.size ≤ w10.heap.size := Nat.le_trans hsz9 hb10.size
     have HF10 : Hid (Fr (fun j => S j ∨ SK j) w.heap.size w w10) := HF9.out.calls hb10 HF9.out.size
     clear hb10 HR9 HK9 HF9 HG hsz9 hgl9
     refine Ks.call rfl 205 #[.pointer (some ⟨g, 0, none⟩), itA (s.fresh l)] (by kernel_rfl) (R := fun v w' => v = .tuple #[] ∧ RGate (fun k => (S k ∧ k < w.heap.size) ∨ w10.heap.size ≤ k) w' g { s with own := s.own + 1, l := ins (s.fresh l) s.l } kn ∧ Fr (fun k => S k ∧ k < w.heap.size) w10.heap.size w10 w') ((put_r HR10.out (s.fresh l) (by show s.l.length ≤ _; omega)).mono fun e w' h => ⟨_, h.1, rfl, h.2.1, h.2.2⟩) ?_
     rintro v w11 ⟨rfl, hr11, hf11⟩
     have HK11 : Hid (KAt Gw.rightE (fun j => (SK j ∨ w.heap.size ≤ j) ∧ j < w2.heap.size) w11 kn ks') := HK10.out.congr (fun _ h => h) fun j hj hlt => hf11.block j hlt (fun h => hj.1.elim (fun h' => hd j h.1 h') (fun h' => by have := h.2; omega))
     simp only [Act.put, zA, zB, zC]
     refine Ks.done ?_
     refine wp_seq ?_
     refine Ks.reg ?_
     refine Ks.v (.int .i64 0) ?_
     simp only [Act.put, zA, zB, zC]
     refine Ks.done ?_
     refine wp_ret ?_
     repeat (refine Ks.ret ?_)
     refine bodyPost_ret (v := .int .i64 0) (by simp [results, Tryz.results131]) rfl ?_
     rw [Hadm.out]
     refine ⟨rfl, _, _, ks', fun j hj => hj.imp (fun h => h.1) (fun h => Nat.le_trans (Nat.le_trans hsz2 hsz10) h), fun j hj => hj.1, fun j hj hk => ?_, hks', hr11, HK11.out, HF10.out.trans (hf11.mono HF10.out.size fun j _ h => Or.inl h.1)⟩
     rcases hj with h | h
     ·exact hk.1.elim (fun h' => hd j h.1 h') (fun h' => by have := h.2; omega)
     ·have := hk.2
      omega
theorem admit_r {S SK : Nat → Prop} {w : World} {g kn : Nat} {s : St} {ks : List Asked} (h : RGate S w g s kn) (hK : KAt Gw.rightE SK w kn ks) (hd : ∀ j, S j → ¬ SK j) (hI : Inv s) (hn : ks.length ≤ 20000000000) (l : List UInt8) : Calls Tryz.prog 131 #[.pointer (some ⟨g, 0, none⟩), .string ⟨l.toArray⟩] w fun e w' => e = .returned (.int .i64 (admE s l).1) ∧ Left S SK w w' g kn (admE s l).2 ks.length := by
 by_cases hl : l.length ≠ 72 ∨ l.head? ≠ some 84
 ·refine (admR_no g l hl w).mono ?_
  rintro e w' ⟨rfl, hb⟩
  have e1 : admE s l = (4, s) := if_pos hl
  rw [e1]
  exact ⟨rfl, S, SK, ks, fun j hj => Or.inl hj, fun j hj => Or.inl hj, hd, Nat.le_succ _, h.below hb, hK.below hb, Fr.of_below hb (Nat.le_refl _)⟩
 ·have h1 : l.length = 72 := by
   apply Classical.byContradiction
   exact fun x => hl (Or.inl x)
  have h2 : l.head? = some 84 := by
   apply Classical.byContradiction
   exact fun x => hl (Or.inr x)
  exact admR_yes h hK hd hI hn l h1 h2
end Gt
end Go.Proofs.YtbojijefenfbgaaGreatDoor

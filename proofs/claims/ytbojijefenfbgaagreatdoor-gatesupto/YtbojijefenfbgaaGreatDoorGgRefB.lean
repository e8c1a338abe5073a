/- Walk of the document's gate: put. As QRel, over any order of worlds: an operation may write what the order lets it. -/
import Derived.Test.YtbojijefenfbgaaGreatDoorGgShort
import Derived.Test.YtbojijefenfbgaaGreatDoorGgDocY
import Derived.Test.YtbojijefenfbgaaGreatDoorGgQRel
import Derived.Test.YtbojijefenfbgaaGreatDoorGgFrames
namespace Go.Proofs.YtbojijefenfbgaaGreatDoor
open Go Go.RowKit
namespace Gt
open Mp Bk Tk
theorem itInfo : (Tryz.prog.info? 73).map (fun i => (i.zero, i.size, i.bytes)) = some (some (.agg #[.int .i64 0, .int .i64 0, .int .i64 0, .int .i64 0, .bool false]), 5, 40) := by kernel_rfl
theorem it_one {x : It} {c : Value} (h : c ∈ itC x) : c.oneCell' = true := by
 simp [itC] at h
 rcases h with rfl | rfl | rfl | rfl | rfl <;> rfl
theorem itC_len (x : It) : (itC x).length = 5 := rfl
theorem range_below {w w' : World} {b o B : Nat} {cs : List Value} (h : w.rangeAt b o cs) (hb : Below B w w') (hlt : b < B) : w'.rangeAt b o cs := fun j v hv => by
 rw [hb.cell (by exact hlt)]
 exact h j v hv
theorem row_one {S : Nat → Prop} {w : World} {e : TypeId} {sz : Nat} {v : Value} {n : Nat} {xs : List Value} (h : Row S w e sz v n xs) : v.oneCell' = true := by
 rcases h.cases with ⟨rfl, _⟩ | ⟨_, _, _, rfl, _⟩ <;> rfl
def Puts (x : It) (l out : List It) (d : Bool) (k : Nat) : Prop := if d then out ++ l.drop k = ins x l else out = l.take k ∧ l.take k ++ ins x (l.drop k) = ins x l
theorem Puts.start (x : It) (l : List It) : Puts x l [] false 0 := ⟨rfl, rfl⟩
theorem Puts.ahead {x y : It} {l out : List It} {k : Nat} (h : Puts x l out false k) (hy : l[k]? = some y) (ha : Ahead x y) : Puts x l (out ++ [x] ++ [y]) true (k + 1) := by
 obtain ⟨h1, h2⟩ := h
 obtain ⟨hk, hy⟩ := List.getElem?_eq_some_iff.1 hy
 show out ++ [x] ++ [y] ++ l.drop (k + 1) = ins x l
 rw [← h2, List.drop_eq_getElem_cons hk, hy, ins, if_pos ha, h1]
 simp
theorem Puts.behind {x y : It} {l out : List It} {k : Nat} (h : Puts x l out false k) (hy : l[k]? = some y) (ha : ¬ Ahead x y) : Puts x l (out ++ [y]) false (k + 1) := by
 obtain ⟨h1, h2⟩ := h
 obtain ⟨hk, hy⟩ := List.getElem?_eq_some_iff.1 hy
 have e : l.take (k + 1) = l.take k ++ [y] := by rw [List.take_succ_eq_append_getElem hk, hy]
 refine ⟨by rw [e, h1], ?_⟩
 rw [← h2, List.drop_eq_getElem_cons hk, hy, ins, if_neg ha, e]
 simp
theorem Puts.more {x y : It} {l out : List It} {k : Nat} (h : Puts x l out true k) (hy : l[k]? = some y) : Puts x l (out ++ [y]) true (k + 1) := by
 have h : out ++ l.drop k = ins x l := h
 obtain ⟨hk, hy⟩ := List.getElem?_eq_some_iff.1 hy
 show out ++ [y] ++ l.drop (k + 1) = ins x l
 rw [← h, List.drop_eq_getElem_cons hk, hy]
 simp
theorem Puts.len {x : It} {l out : List It} {d : Bool} {k : Nat} (h : Puts x l out d k) : out.length ≤ l.length + 1 := by
 cases d with
 | false =>
  rw [h.1, List.length_take]
  omega
 | true =>
  have h : out ++ l.drop k = ins x l := h
  have := congrArg List.length h
  rw [List.length_append, ins_length] at this
  omega
def uFrame (g bx : Nat) (X v : Value) (d : Bool) (k : Nat) (f : Nat → Value) : Act := { tmps := #[.pointer (some ⟨g, 0, none⟩), X, f 2, .pointer (some ⟨bx, 0, none⟩), v, .bool d, .int .i64 (k : Int), f 7, f 8, f 9, f 10, f 11, f 12, f 13, f 14, f 15, f 16, f 17, f 18, f 19, f 20, f 21, f 22, f 23, f 24, f 25, f 26, f 27, f 28, f 29, f 30, f 31, f 32, f 33, f 34, f 35, f 36, f 37, f 38, f 39, f 40, f 41, f 42, f 43, f 44, f 45, f 46, f 47, f 48, f 49, f 50, f 51, f 52, f 53, f 54], defers := [] }
set_option maxRecDepth 10000 in
set_option maxHeartbeats 1000000 in
theorem put_r {S : Nat → Prop} {w : World} {g kn : Nat} {s : St} (h : RGate S w g s kn) (x : It) (hn : s.l.length ≤ 100000) : Calls Tryz.prog 205 #[.pointer (some ⟨g, 0, none⟩), itA x] w fun e w' => e = .returned (.tuple #[]) ∧ RGate (fun k => S k ∨ w.heap.size ≤ k) w' g { s with l := ins x s.l } kn ∧ Fr S w.heap.size w w' := by
 obtain ⟨hS, lv, hg, hrow⟩ := h
 have HG0 : Hid (w.heap[g]? = some (.cells (cellsR s lv kn) 225 (0, 0))) := hg
 have HL0 : Hid (Row S w 73 5 lv s.l.length (itL s.l)) := hrow
 have hgl := (Array.getElem?_eq_some_iff.1 hg).1
 clear hg hrow
 obtain ⟨X, hX⟩ : ∃ X, X = itA x := ⟨_, rfl⟩
 rw [← hX]
 go_enter Tryz.func205, Tryz.ntmps205
 refine wp_seq ?_
 refine Ks.reg ?_
 refine Ks.box rfl _ _ rfl (itC x).toArray (by rw [hX]; rfl) ?_
 intro w1 bx Hbx HX1 HB1 HS1
 have hbx : w.heap.size ≤ bx := Nat.le_of_eq Hbx.out.symm
 clear HS1 Hbx
 simp only [Act.put, zA, zB, zC]
 refine Ks.done ?_
 refine wp_seq ?_
 refine Ks.reg ?_
 refine Ks.v (.slice none 0 0) ?_
 simp only [Act.put, zA, zB, zC]
 refine Ks.done ?_
 refine wp_seq ?_
 refine Ks.reg ?_
 refine Ks.v (.bool false) ?_
 simp only [Act.put, zA, zB, zC]
 refine Ks.done ?_
 refine wp_seq ?_
 refine wp_seq ?_
 refine Ks.reg ?_
 refine Ks.v (.int .i64 0) ?_
 simp only [Act.put, zA, zB, zC]
 refine Ks.done ?_
 refine wp_block ?_
 refine Ks.loop (fun m a wr => ∃ (k : Nat) (d : Bool) (v : Value) (out : List It) (f : Nat → Value), a = uFrame g bx X v d k f ∧ k ≤ s.l.length ∧ m = s.l.length - k ∧ Puts x s.l out d k ∧ Row (fun j => w.heap.size ≤ j ∧ j ≠ bx) wr 73 5 v out.length (itL out) ∧ Below w.heap.size w wr ∧ wr.heap[bx]? = some (.cells (itC x).toArray 73 (0, 0))) s.l.length ⟨0, false, _, [], fun _ => undef, rfl, Nat.zero_le _, rfl, Puts.start x s.l, Row.nil _ _ _ _, HB1.out, HX1.out⟩ ?_
 clear HX1 HB1 w1
 rintro m a wr ⟨k, d, v, out, f, rfl, hk, rfl, hP, hR, hB, hx⟩
 have fin : ∀ (a' : Act) (w' : World) k' d' v' out', a' = uFrame g bx X v' d' k' (fun j => a'.tmps.getD j undef) → k < k' → k' ≤ s.l.length → Puts x s.l out' d' k' → Row (fun j => w.heap.size ≤ j ∧ j ≠ bx) w' 73 5 v' out'.length (itL out') → Below w.heap.size w w' → w'.heap[bx]? = some (.cells (itC x).toArray 73 (0, 0)) → ∃ m, m < s.l.length - k ∧ ∃ (k : Nat) (d : Bool) (v : Value) (out : List It) (f : Nat → Value), a' = uFrame g bx X v d k f ∧ k ≤ s.l.length ∧ m = s.l.length - k ∧ Puts x s.l out d k ∧ Row (fun j => w.heap.size ≤ j ∧ j ≠ bx) w' 73 5 v out.length (itL out) ∧ Below w.heap.size w w' ∧ w'.heap[bx]? = some (.cells (itC x).toArray 73 (0, 0)) :=
  fun a' w' k' d' v' out' h1 h2 h3 h4 h5 h6 h7 => ⟨s.l.length - k', by omega, k', d', v', out', _, h1, h3, rfl, h4, h5, h6, h7⟩
 have Hfin : Hid _ := fin
 clear fin
 have HP : Hid (Puts x s.l out d k) := hP
 have hol := hP.len
 have HRow : Hid (Row (fun j => w.heap.size ≤ j ∧ j ≠ bx) wr 73 5 v out.length (itL out)) := hR
 have HBel : Hid (Below w.heap.size w wr) := hB
 have HX : Hid _ := hx
 have HG : Hid (wr.heap[g]? = some (.cells (cellsR s lv kn) 225 (0, 0))) := (hB.block g hgl).trans HG0.out
 have HL : Hid (Row S wr 73 5 lv s.l.length (itL s.l)) := HL0.out.below hB (Nat.le_refl _)
 clear hP hR hB hx
 unfold uFrame
 refine wp_seq ?_
 refine wp_seq ?_
 refine Ks.reg ?_
 refine Ks.v (.int .i64 (k : Int)) ?_
 simp only [Act.put, zA, zB, zC]
 refine Ks.v (.pointer (some ⟨g, 0, none⟩)) ?_
 simp only [Act.put, zA, zB, zC]
 refine Ks.v (.pointer (some ⟨g, 0, none⟩)) ?_
 simp only [Act.put, zA, zB, zC]
 refine Ks.v (.pointer (some ⟨g, 5, none⟩)) ?_
 simp only [Act.put, zA, zB, zC]
 refine Ks.cell rfl _ _ rfl Tryz.underlying64 rfl g 5 lv rfl (row_at HG.out 5 rfl) ?_
 simp only [Act.put, zA, zB, zC]
 refine Ks.val rfl (.int .i64 (s.l.length : Int)) (by
  rcases HL.out.cases with ⟨rfl, h0, _⟩ | ⟨gb, cap, cur, rfl, _⟩
  ·rw [h0]
   kernel_rfl
  ·kernel_rfl) ?_
 simp only [Act.put, zA, zB, zC]
 refine Ks.v (.bool (decide ((k : Int) < s.l.length))) ?_
 simp only [Act.put, zA, zB, zC]
 refine Ks.done ?_
 refine wp_cond_split rfl ?_ ?_
 ·intro hlt
  have hlt : k < s.l.length := by have := of_decide_eq_true hlt; omega
  obtain ⟨y, hy⟩ : ∃ y, s.l[k]? = some y := ⟨_, List.getElem?_eq_getElem hlt⟩
  obtain ⟨gb, cap, cur, rfl, hgb, hcur, _, _, _, htk⟩ : ∃ gb cap cur, lv = .slice (some ⟨gb, 0, none⟩) s.l.length cap ∧ S gb ∧ w.heap[gb]? = some (.cells cur 73 (0, 0)) ∧ s.l.length ≤ cap ∧ cap ≤ maxLen ∧ cur.size = cap * 5 ∧ cur.toList.take (s.l.length * 5) = itL s.l := by
   rcases HL0.out.cases with ⟨_, h0, _⟩ | h
   ·omega
   ·exact h
  have HRg0 : Hid (w.rangeAt gb (k * 5) (itC y)) := Row.range itC_len hcur htk hy
  have hgbl := (Array.getElem?_eq_some_iff.1 hcur).1
  clear hcur htk HL
  refine wp_skip ?_
  refine Ks.norm ?_
  refine wp_seq ?_
  refine wp_block ?_
  refine wp_seq ?_
  refine Qt.wp_all (by kernel_rfl) (by kernel_rfl) ?_
  refine Qt.y_row rfl _ _ rfl _ rfl _ _ _ _ HX.out Tryz.underlying73 rfl (by kernel_rfl) ?_
  simp only [Act.put, zA, zB, zC]
  refine Qt.y_val rfl (.pointer (some ⟨g, 0, none⟩)) (fun _ _ => by kernel_rfl) ?_
  refine Qt.y_val rfl (.pointer (some ⟨g, 0, none⟩)) (fun _ _ => by kernel_rfl) ?_
  refine Qt.y_val rfl (.pointer (some ⟨g, 5, none⟩)) (fun _ _ => by kernel_rfl) ?_
  simp only [Act.put, zA, zB, zC]
  refine y_cell rfl _ _ rfl Tryz.underlying64 rfl g 5 _ rfl (Array.getElem?_eq_some_iff.1 HG.out).1 (row_at HG.out 5 rfl) ?_
  simp only [Act.put, zA, zB, zC]
  refine Qt.y_val rfl (.int .i64 (k : Int)) (fun _ _ => by kernel_rfl) ?_
  simp only [Act.put, zA, zB, zC]
  refine Ks.y_idx rfl _ _ _ rfl 73 5 Tryz.underlying64 (by kernel_rfl) (by kernel_rfl) gb _ cap k rfl rfl hlt ?_
  simp only [Act.put, zA, zB, zC]
  refine Qt.y_mid rfl _ _ rfl gb (k * 5) rfl (itC y) _ (Nat.lt_of_lt_of_le hgbl HBel.out.size) (range_below HRg0.out HBel.out hgbl) Tryz.underlying73 rfl (by kernel_rfl) ?_
  simp only [Act.put, zA, zB, zC]
  refine Qt.y_call rfl 251 #[itA x, itA y] (.bool (decide (Ahead x y))) (fun _ => by kernel_rfl) (fun w' _ => ahead_r x y w') ?_
  simp only [Act.put, zA, zB, zC]
  refine Qt.y_val rfl (.bool (decide (Ahead x y))) (fun _ _ => by kernel_rfl) ?_
  simp only [Act.put, zA, zB, zC]
  refine Qt.y_nil ?_
  intro w2 hb2
  refine Ks.norm ?_
  have HRow : Hid (Row (fun j => w.heap.size ≤ j ∧ j ≠ bx) w2 73 5 v out.length (itL out)) := HRow.out.below hb2 (Nat.le_refl _)
  have HX : Hid (w2.heap[bx]? = _) := (hb2.block bx (Array.getElem?_eq_some_iff.1 HX.out).1).trans HX.out
  have HBel : Hid (Below w.heap.size w w2) := HBel.out.trans (hb2.mono HBel.out.size)
  have HG : Hid (w2.heap[g]? = some (.cells (cellsR s (.slice (some ⟨gb, 0, none⟩) s.l.length cap) kn) 225 (0, 0))) := (HBel.out.block g hgl).trans HG0.out
  clear hb2
  refine wp_seq ?_
  refine wp_seq ?_
  refine Ks.reg ?_
  refine Ks.v (.bool (decide (Ahead x y))) ?_
  simp only [Act.put, zA, zB, zC]
  refine Ks.v (.bool (decide (Ahead x y))) ?_
  simp only [Act.put, zA, zB, zC]
  by_cases ha : Ahead x y
  ·rw [decide_eq_true ha]
   refine Ks.valg (by kernel_rfl) (.bool d) (by kernel_rfl) ?_
   simp only [Act.put, zA, zB, zC]
   cases d with
   | false =>
    refine Ks.valg (by kernel_rfl) (.bool true) (by kernel_rfl) ?_
    simp only [Act.put, zA, zB, zC]
    refine Ks.v (.bool true) ?_
    simp only [Act.put, zA, zB, zC]
    refine Ks.done ?_
    refine wp_cond_true rfl ?_
    refine wp_seq ?_
    refine Ks.reg ?_
    refine Ks.v (v) ?_
    simp only [Act.put, zA, zB, zC]
    refine Ks.row rfl _ _ rfl bx rfl HX.out Tryz.underlying73 rfl (by kernel_rfl) ?_
    simp only [Act.put, zA, zB, zC]
    refine Ks.single rfl 64 73 _ rfl (itA x) (.agg #[.int .i64 0, .int .i64 0, .int .i64 0, .int .i64 0, .bool false]) rfl (itC x).toArray 5 40 Tryz.underlying64 itInfo (by decide) (by decide) (by kernel_rfl) ?_
    intro w3a bw3 Hb HO HB
    have HRa : Hid (Row (fun j => w.heap.size ≤ j ∧ j ≠ bx) w3a 73 5 v (out).length (itL (out))) := HRow.out.below HB.out (Nat.le_refl _)
    have HBa : Hid (Below w.heap.size w w3a) := HBel.out.trans (HB.out.mono HBel.out.size)
    have HXa : Hid (w3a.heap[bx]? = _) := (HB.out.block bx (Array.getElem?_eq_some_iff.1 HX.out).1).trans HX.out
    clear HRow HBel HX Hb
    simp only [Act.put, zA, zB, zC]
    refine app_row rfl _ _ _ rfl 73 (.agg #[.int .i64 0, .int .i64 0, .int .i64 0, .int .i64 0, .bool false]) 5 40 Tryz.underlying64 itInfo rfl (by decide) (by decide) _ _ (out).length (itL (out)) rfl HRa.out 1 bw3 1 (itC x) rfl (fun j c hc => (cell_of_row w3a bw3 j _ _ _ HO.out).trans (by simpa using hc)) rfl (fun c hc => it_one hc) (by (try simp only [List.length_append, List.length_cons, List.length_nil]); omega) ?_
    intro v1 w3 hrow hgr
    have HRow : Hid (Row (fun j => w.heap.size ≤ j ∧ j ≠ bx) w3 73 5 v1 (out ++ [x]).length (itL (out ++ [x]))) := by
     show Row _ _ _ _ _ _ _
     rw [itL_snoc, List.length_append]
     exact hrow.mono fun j hj => hj.elim id fun e => by rw [e]; exact ⟨HBa.out.size, by have := (Array.getElem?_eq_some_iff.1 HXa.out).1; omega⟩
    have HBel : Hid (Below w.heap.size w w3) := HBa.out.grown hgr HBa.out.size fun j hj => (HRa.out.2 j hj).1
    have HX : Hid (w3.heap[bx]? = _) := (hgr.block bx (Array.getElem?_eq_some_iff.1 HXa.out).1 (fun e => (HRa.out.2 bx e.symm).2 rfl)).trans HXa.out
    have HG : Hid (w3.heap[g]? = some (.cells (cellsR s (.slice (some ⟨gb, 0, none⟩) s.l.length cap) kn) 225 (0, 0))) := (HBel.out.block g hgl).trans HG0.out
    clear hrow hgr HRa HBa HXa HO HB
    simp only [Act.put, zA, zB, zC]
    refine Ks.v (v1) ?_
    simp only [Act.put, zA, zB, zC]
    refine Ks.done ?_
    refine Ks.reg ?_
    refine Ks.v (.bool true) ?_
    simp only [Act.put, zA, zB, zC]
    refine Ks.done ?_
    refine Ks.reg ?_
    refine Ks.v (v1) ?_
    simp only [Act.put, zA, zB, zC]
    refine Ks.v (.pointer (some ⟨g, 0, none⟩)) ?_
    simp only [Act.put, zA, zB, zC]
    refine Ks.v (.pointer (some ⟨g, 0, none⟩)) ?_
    simp only [Act.put, zA, zB, zC]
    refine Ks.v (.pointer (some ⟨g, 5, none⟩)) ?_
    simp only [Act.put, zA, zB, zC]
    refine Ks.cell rfl _ _ rfl Tryz.underlying64 rfl g 5 _ rfl (row_at HG.out 5 rfl) ?_
    simp only [Act.put, zA, zB, zC]
    refine Ks.v (.int .i64 (k : Int)) ?_
    simp only [Act.put, zA, zB, zC]
    refine Ks.idx (by kernel_rfl) _ _ _ rfl 73 5 Tryz.underlying64 (by kernel_rfl) (by kernel_rfl) gb _ cap k rfl rfl hlt ?_
    simp only [Act.put, zA, zB, zC]
    refine Ks.mid rfl _ _ rfl gb (k * 5) rfl (itC y) (range_below HRg0.out HBel.out hgbl) Tryz.underlying73 rfl (by kernel_rfl) ?_
    simp only [Act.put, zA, zB, zC]
    refine Ks.single rfl 64 73 _ rfl (itA y) (.agg #[.int .i64 0, .int .i64 0, .int .i64 0, .int .i64 0, .bool false]) rfl (itC y).toArray 5 40 Tryz.underlying64 itInfo (by decide) (by decide) (by kernel_rfl) ?_
    intro w4a bw4 Hb HO HB
    have HRa : Hid (Row (fun j => w.heap.size ≤ j ∧ j ≠ bx) w4a 73 5 v1 (out ++ [x]).length (itL (out ++ [x]))) := HRow.out.below HB.out (Nat.le_refl _)
    have HBa : Hid (Below w.heap.size w w4a) := HBel.out.trans (HB.out.mono HBel.out.size)
    have HXa : Hid (w4a.heap[bx]? = _) := (HB.out.block bx (Array.getElem?_eq_some_iff.1 HX.out).1).trans HX.out
    clear HRow HBel HX Hb
    simp only [Act.put, zA, zB, zC]
    refine app_row rfl _ _ _ rfl 73 (.agg #[.int .i64 0, .int .i64 0, .int .i64 0, .int .i64 0, .bool false]) 5 40 Tryz.underlying64 itInfo rfl (by decide) (by decide) _ _ (out ++ [x]).length (itL (out ++ [x])) rfl HRa.out 1 bw4 1 (itC y) rfl (fun j c hc => (cell_of_row w4a bw4 j _ _ _ HO.out).trans (by simpa using hc)) rfl (fun c hc => it_one hc) (by (try simp only [List.length_append, List.length_cons, List.length_nil]); omega) ?_
    intro v2 w4 hrow hgr
    have HRow : Hid (Row (fun j => w.heap.size ≤ j ∧ j ≠ bx) w4 73 5 v2 (out ++ [x] ++ [y]).length (itL (out ++ [x] ++ [y]))) := by
     show Row _ _ _ _ _ _ _
     rw [itL_snoc, List.length_append]
     exact hrow.mono fun j hj => hj.elim id fun e => by rw [e]; exact ⟨HBa.out.size, by have := (Array.getElem?_eq_some_iff.1 HXa.out).1; omega⟩
    have HBel : Hid (Below w.heap.size w w4) := HBa.out.grown hgr HBa.out.size fun j hj => (HRa.out.2 j hj).1
    have HX : Hid (w4.heap[bx]? = _) := (hgr.block bx (Array.getElem?_eq_some_iff.1 HXa.out).1 (fun e => (HRa.out.2 bx e.symm).2 rfl)).trans HXa.out
    have HG : Hid (w4.heap[g]? = some (.cells (cellsR s (.slice (some ⟨gb, 0, none⟩) s.l.length cap) kn) 225 (0, 0))) := (HBel.out.block g hgl).trans HG0.out
    clear hrow hgr HRa HBa HXa HO HB
    simp only [Act.put, zA, zB, zC]
    refine Ks.v (v2) ?_
    simp only [Act.put, zA, zB, zC]
    refine Ks.fin ?_
    refine Ks.inb ?_
    refine Ks.reg ?_
    refine Ks.v (.int .i64 (k : Int)) ?_
    simp only [Act.put, zA, zB, zC]
    refine Ks.val rfl (.int .i64 ((k + 1 : Nat) : Int)) (by
     simp [execOp, go_sem]
     rw [IntWalk.i64_in _ ⟨by omega, by omega⟩]) ?_
    simp only [Act.put, zA, zB, zC]
    refine Ks.v (.int .i64 ((k + 1 : Nat) : Int)) ?_
    simp only [Act.put, zA, zB, zC]
    refine Ks.done ?_
    exact Hfin.out _ _ (k + 1) _ _ _ rfl (by omega) hlt (HP.out.ahead hy ha) HRow.out HBel.out HX.out
   | true =>
    refine Ks.valg (by kernel_rfl) (.bool false) (by kernel_rfl) ?_
    simp only [Act.put, zA, zB, zC]
    refine Ks.v (.bool false) ?_
    simp only [Act.put, zA, zB, zC]
    refine Ks.done ?_
    refine wp_cond_false rfl ?_
    refine wp_skip ?_
    refine Ks.norm ?_
    refine Ks.reg ?_
    refine Ks.v (v) ?_
    simp only [Act.put, zA, zB, zC]
    refine Ks.v (.pointer (some ⟨g, 0, none⟩)) ?_
    simp only [Act.put, zA, zB, zC]
    refine Ks.v (.pointer (some ⟨g, 0, none⟩)) ?_
    simp only [Act.put, zA, zB, zC]
    refine Ks.v (.pointer (some ⟨g, 5, none⟩)) ?_
    simp only [Act.put, zA, zB, zC]
    refine Ks.cell rfl _ _ rfl Tryz.underlying64 rfl g 5 _ rfl (row_at HG.out 5 rfl) ?_
    simp only [Act.put, zA, zB, zC]
    refine Ks.v (.int .i64 (k : Int)) ?_
    simp only [Act.put, zA, zB, zC]
    refine Ks.idx (by kernel_rfl) _ _ _ rfl 73 5 Tryz.underlying64 (by kernel_rfl) (by kernel_rfl) gb _ cap k rfl rfl hlt ?_
    simp only [Act.put, zA, zB, zC]
    refine Ks.mid rfl _ _ rfl gb (k * 5) rfl (itC y) (range_below HRg0.out HBel.out hgbl) Tryz.underlying73 rfl (by kernel_rfl) ?_
    simp only [Act.put, zA, zB, zC]
    refine Ks.single rfl 64 73 _ rfl (itA y) (.agg #[.int .i64 0, .int .i64 0, .int .i64 0, .int .i64 0, .bool false]) rfl (itC y).toArray 5 40 Tryz.underlying64 itInfo (by decide) (by decide) (by kernel_rfl) ?_
    intro w4a bw4 Hb HO HB
    have HRa : Hid (Row (fun j => w.heap.size ≤ j ∧ j ≠ bx) w4a 73 5 v (out).length (itL (out))) := HRow.out.below HB.out (Nat.le_refl _)
    have HBa : Hid (Below w.heap.size w w4a) := HBel.out.trans (HB.out.mono HBel.out.size)
    have HXa : Hid (w4a.heap[bx]? = _) := (HB.out.block bx (Array.getElem?_eq_some_iff.1 HX.out).1).trans HX.out
    clear HRow HBel HX Hb
    simp only [Act.put, zA, zB, zC]
    refine app_row rfl _ _ _ rfl 73 (.agg #[.int .i64 0, .int .i64 0, .int .i64 0, .int .i64 0, .bool false]) 5 40 Tryz.underlying64 itInfo rfl (by decide) (by decide) _ _ (out).length (itL (out)) rfl HRa.out 1 bw4 1 (itC y) rfl (fun j c hc => (cell_of_row w4a bw4 j _ _ _ HO.out).trans (by simpa using hc)) rfl (fun c hc => it_one hc) (by (try simp only [List.length_append, List.length_cons, List.length_nil]); omega) ?_
    intro v2 w4 hrow hgr
    have HRow : Hid (Row (fun j => w.heap.size ≤ j ∧ j ≠ bx) w4 73 5 v2 (out ++ [y]).length (itL (out ++ [y]))) := by
     show Row _ _ _ _ _ _ _
     rw [itL_snoc, List.length_append]
     exact hrow.mono fun j hj => hj.elim id fun e => by rw [e]; exact ⟨HBa.out.size, by have := (Array.getElem?_eq_some_iff.1 HXa.out).1; omega⟩
    have HBel : Hid (Below w.heap.size w w4) := HBa.out.grown hgr HBa.out.size fun j hj => (HRa.out.2 j hj).1
    have HX : Hid (w4.heap[bx]? = _) := (hgr.block bx (Array.getElem?_eq_some_iff.1 HXa.out).1 (fun e => (HRa.out.2 bx e.symm).2 rfl)).trans HXa.out
    have HG : Hid (w4.heap[g]? = some (.cells (cellsR s (.slice (some ⟨gb, 0, none⟩) s.l.length cap) kn) 225 (0, 0))) := (HBel.out.block g hgl).trans HG0.out
    clear hrow hgr HRa HBa HXa HO HB
    simp only [Act.put, zA, zB, zC]
    refine Ks.v (v2) ?_
    simp only [Act.put, zA, zB, zC]
    refine Ks.fin ?_
    refine Ks.inb ?_
    refine Ks.reg ?_
    refine Ks.v (.int .i64 (k : Int)) ?_
    simp only [Act.put, zA, zB, zC]
    refine Ks.val rfl (.int .i64 ((k + 1 : Nat) : Int)) (by
     simp [execOp, go_sem]
     rw [IntWalk.i64_in _ ⟨by omega, by omega⟩]) ?_
    simp only [Act.put, zA, zB, zC]
    refine Ks.v (.int .i64 ((k + 1 : Nat) : Int)) ?_
    simp only [Act.put, zA, zB, zC]
    refine Ks.done ?_
    exact Hfin.out _ _ (k + 1) _ _ _ rfl (by omega) hlt (HP.out.more hy) HRow.out HBel.out HX.out
  ·rw [decide_eq_false ha]
   with_reducible refine Ks.off (by kernel_rfl) ?_
   simp only [Act.put, zA, zB, zC]
   with_reducible refine Ks.off (by kernel_rfl) ?_
   simp only [Act.put, zA, zB, zC]
   refine Ks.v (.bool false) ?_
   simp only [Act.put, zA, zB, zC]
   refine Ks.done ?_
   refine wp_cond_false rfl ?_
   refine wp_skip ?_
   refine Ks.norm ?_
   cases d with
   | false =>
    refine Ks.reg ?_
    refine Ks.v (v) ?_
    simp only [Act.put, zA, zB, zC]
    refine Ks.v (.pointer (some ⟨g, 0, none⟩)) ?_
    simp only [Act.put, zA, zB, zC]
    refine Ks.v (.pointer (some ⟨g, 0, none⟩)) ?_
    simp only [Act.put, zA, zB, zC]
    refine Ks.v (.pointer (some ⟨g, 5, none⟩)) ?_
    simp only [Act.put, zA, zB, zC]
    refine Ks.cell rfl _ _ rfl Tryz.underlying64 rfl g 5 _ rfl (row_at HG.out 5 rfl) ?_
    simp only [Act.put, zA, zB, zC]
    refine Ks.v (.int .i64 (k : Int)) ?_
    simp only [Act.put, zA, zB, zC]
    refine Ks.idx (by kernel_rfl) _ _ _ rfl 73 5 Tryz.underlying64 (by kernel_rfl) (by kernel_rfl) gb _ cap k rfl rfl hlt ?_
    simp only [Act.put, zA, zB, zC]
    refine Ks.mid rfl _ _ rfl gb (k * 5) rfl (itC y) (range_below HRg0.out HBel.out hgbl) Tryz.underlying73 rfl (by kernel_rfl) ?_
    simp only [Act.put, zA, zB, zC]
    refine Ks.single rfl 64 73 _ rfl (itA y) (.agg #[.int .i64 0, .int .i64 0, .int .i64 0, .int .i64 0, .bool false]) rfl (itC y).toArray 5 40 Tryz.underlying64 itInfo (by decide) (by decide) (by kernel_rfl) ?_
    intro w4a bw4 Hb HO HB
    have HRa : Hid (Row (fun j => w.heap.size ≤ j ∧ j ≠ bx) w4a 73 5 v (out).length (itL (out))) := HRow.out.below HB.out (Nat.le_refl _)
    have HBa : Hid (Below w.heap.size w w4a) := HBel.out.trans (HB.out.mono HBel.out.size)
    have HXa : Hid (w4a.heap[bx]? = _) := (HB.out.block bx (Array.getElem?_eq_some_iff.1 HX.out).1).trans HX.out
    clear HRow HBel HX Hb
    simp only [Act.put, zA, zB, zC]
    refine app_row rfl _ _ _ rfl 73 (.agg #[.int .i64 0, .int .i64 0, .int .i64 0, .int .i64 0, .bool false]) 5 40 Tryz.underlying64 itInfo rfl (by decide) (by decide) _ _ (out).length (itL (out)) rfl HRa.out 1 bw4 1 (itC y) rfl (fun j c hc => (cell_of_row w4a bw4 j _ _ _ HO.out).trans (by simpa using hc)) rfl (fun c hc => it_one hc) (by (try simp only [List.length_append, List.length_cons, List.length_nil]); omega) ?_
    intro v2 w4 hrow hgr
    have HRow : Hid (Row (fun j => w.heap.size ≤ j ∧ j ≠ bx) w4 73 5 v2 (out ++ [y]).length (itL (out ++ [y]))) := by
     show Row _ _ _ _ _ _ _
     rw [itL_snoc, List.length_append]
     exact hrow.mono fun j hj => hj.elim id fun e => by rw [e]; exact ⟨HBa.out.size, by have := (Array.getElem?_eq_some_iff.1 HXa.out).1; omega⟩
    have HBel : Hid (Below w.heap.size w w4) := HBa.out.grown hgr HBa.out.size fun j hj => (HRa.out.2 j hj).1
    have HX : Hid (w4.heap[bx]? = _) := (hgr.block bx (Array.getElem?_eq_some_iff.1 HXa.out).1 (fun e => (HRa.out.2 bx e.symm).2 rfl)).trans HXa.out
    have HG : Hid (w4.heap[g]? = some (.cells (cellsR s (.slice (some ⟨gb, 0, none⟩) s.l.length cap) kn) 225 (0, 0))) := (HBel.out.block g hgl).trans HG0.out
    clear hrow hgr HRa HBa HXa HO HB
    simp only [Act.put, zA, zB, zC]
    refine Ks.v (v2) ?_
    simp only [Act.put, zA, zB, zC]
    refine Ks.fin ?_
    refine Ks.inb ?_
    refine Ks.reg ?_
    refine Ks.v (.int .i64 (k : Int)) ?_
    simp only [Act.put, zA, zB, zC]
    refine Ks.val rfl (.int .i64 ((k + 1 : Nat) : Int)) (by
     simp [execOp, go_sem]
     rw [IntWalk.i64_in _ ⟨by omega, by omega⟩]) ?_
    simp only [Act.put, zA, zB, zC]
    refine Ks.v (.int .i64 ((k + 1 : Nat) : Int)) ?_
    simp only [Act.put, zA, zB, zC]
    refine Ks.done ?_
    exact Hfin.out _ _ (k + 1) _ _ _ rfl (by omega) hlt (HP.out.behind hy ha) HRow.out HBel.out HX.out
   | true =>
    refine Ks.reg ?_
    refine Ks.v (v) ?_
    simp only [Act.put, zA, zB, zC]
    refine Ks.v (.pointer (some ⟨g, 0, none⟩)) ?_
    simp only [Act.put, zA, zB, zC]
    refine Ks.v (.pointer (some ⟨g, 0, none⟩)) ?_
    simp only [Act.put, zA, zB, zC]
    refine Ks.v (.pointer (some ⟨g, 5, none⟩)) ?_
    simp only [Act.put, zA, zB, zC]
    refine Ks.cell rfl _ _ rfl Tryz.underlying64 rfl g 5 _ rfl (row_at HG.out 5 rfl) ?_
    simp only [Act.put, zA, zB, zC]
    refine Ks.v (.int .i64 (k : Int)) ?_
    simp only [Act.put, zA, zB, zC]
    refine Ks.idx (by kernel_rfl) _ _ _ rfl 73 5 Tryz.underlying64 (by kernel_rfl) (by kernel_rfl) gb _ cap k rfl rfl hlt ?_
    simp only [Act.put, zA, zB, zC]
    refine Ks.mid rfl _ _ rfl gb (k * 5) rfl (itC y) (range_below HRg0.out HBel.out hgbl) Tryz.underlying73 rfl (by kernel_rfl) ?_
    simp only [Act.put, zA, zB, zC]
    refine Ks.single rfl 64 73 _ rfl (itA y) (.agg #[.int .i64 0, .int .i64 0, .int .i64 0, .int .i64 0, .bool false]) rfl (itC y).toArray 5 40 Tryz.underlying64 itInfo (by decide) (by decide) (by kernel_rfl) ?_
    intro w4a bw4 Hb HO HB
    have HRa : Hid (Row (fun j => w.heap.size ≤ j ∧ j ≠ bx) w4a 73 5 v (out).length (itL (out))) := HRow.out.below HB.out (Nat.le_refl _)
    have HBa : Hid (Below w.heap.size w w4a) := HBel.out.trans (HB.out.mono HBel.out.size)
    have HXa : Hid (w4a.heap[bx]? = _) := (HB.out.block bx (Array.getElem?_eq_some_iff.1 HX.out).1).trans HX.out
    clear HRow HBel HX Hb
    simp only [Act.put, zA, zB, zC]
    refine app_row rfl _ _ _ rfl 73 (.agg #[.int .i64 0, .int .i64 0, .int .i64 0, .int .i64 0, .bool false]) 5 40 Tryz.underlying64 itInfo rfl (by decide) (by decide) _ _ (out).length (itL (out)) rfl HRa.out 1 bw4 1 (itC y) rfl (fun j c hc => (cell_of_row w4a bw4 j _ _ _ HO.out).trans (by simpa using hc)) rfl (fun c hc => it_one hc) (by (try simp only [List.length_append, List.length_cons, List.length_nil]); omega) ?_
    intro v2 w4 hrow hgr
    have HRow : Hid (Row (fun j => w.heap.size ≤ j ∧ j ≠ bx) w4 73 5 v2 (out ++ [y]).length (itL (out ++ [y]))) := by
     show Row _ _ _ _ _ _ _
     rw [itL_snoc, List.length_append]
     exact hrow.mono fun j hj => hj.elim id fun e => by rw [e]; exact ⟨HBa.out.size, by have := (Array.getElem?_eq_some_iff.1 HXa.out).1; omega⟩
    have HBel : Hid (Below w.heap.size w w4) := HBa.out.grown hgr HBa.out.size fun j hj => (HRa.out.2 j hj).1
    have HX : Hid (w4.heap[bx]? = _) := (hgr.block bx (Array.getElem?_eq_some_iff.1 HXa.out).1 (fun e => (HRa.out.2 bx e.symm).2 rfl)).trans HXa.out
    have HG : Hid (w4.heap[g]? = some (.cells (cellsR s (.slice (some ⟨gb, 0, none⟩) s.l.length cap) kn) 225 (0, 0))) := (HBel.out.block g hgl).trans HG0.out
    clear hrow hgr HRa HBa HXa HO HB
    simp only [Act.put, zA, zB, zC]
    refine Ks.v (v2) ?_
    simp only [Act.put, zA, zB, zC]
    refine Ks.fin ?_
    refine Ks.inb ?_
    refine Ks.reg ?_
    refine Ks.v (.int .i64 (k : Int)) ?_
    simp only [Act.put, zA, zB, zC]
    refine Ks.val rfl (.int .i64 ((k + 1 : Nat) : Int)) (by
     simp [execOp, go_sem]
     rw [IntWalk.i64_in _ ⟨by omega, by omega⟩]) ?_
    simp only [Act.put, zA, zB, zC]
    refine Ks.v (.int .i64 ((k + 1 : Nat) : Int)) ?_
    simp only [Act.put, zA, zB, zC]
    refine Ks.done ?_
    exact Hfin.out _ _ (k + 1) _ _ _ rfl (by omega) hlt (HP.out.more hy) HRow.out HBel.out HX.out
 ·intro hlt
  obtain rfl : k = s.l.length := by have := of_decide_eq_false hlt; omega
  refine wp_exit ?_
  refine Ks.exit2 ?_
  refine Ks.norm ?_
  refine wp_seq ?_
  refine wp_seq ?_
  refine Ks.reg ?_
  refine Ks.v (.bool d) ?_
  simp only [Act.put, zA, zB, zC]
  cases d with
  | false =>
   have hall : out ++ [x] = ins x s.l := by
    obtain ⟨h1, h2⟩ := HP.out
    rw [← h2, h1]
    simp [ins]
   refine Ks.v (.bool true) ?_
   simp only [Act.put, zA, zB, zC]
   refine Ks.done ?_
   refine wp_cond_true rfl ?_
   refine Ks.reg ?_
   refine Ks.v (v) ?_
   simp only [Act.put, zA, zB, zC]
   refine Ks.row rfl _ _ rfl bx rfl HX.out Tryz.underlying73 rfl (by kernel_rfl) ?_
   simp only [Act.put, zA, zB, zC]
   refine Ks.single rfl 64 73 _ rfl (itA x) (.agg #[.int .i64 0, .int .i64 0, .int .i64 0, .int .i64 0, .bool false]) rfl (itC x).toArray 5 40 Tryz.underlying64 itInfo (by decide) (by decide) (by kernel_rfl) ?_
   intro w3a bw3 Hb HO HB
   have HRa : Hid (Row (fun j => w.heap.size ≤ j ∧ j ≠ bx) w3a 73 5 v (out).length (itL (out))) := HRow.out.below HB.out (Nat.le_refl _)
   have HBa : Hid (Below w.heap.size w w3a) := HBel.out.trans (HB.out.mono HBel.out.size)
   have HXa : Hid (w3a.heap[bx]? = _) := (HB.out.block bx (Array.getElem?_eq_some_iff.1 HX.out).1).trans HX.out
   clear HRow HBel HX Hb
   simp only [Act.put, zA, zB, zC]
   refine app_row rfl _ _ _ rfl 73 (.agg #[.int .i64 0, .int .i64 0, .int .i64 0, .int .i64 0, .bool false]) 5 40 Tryz.underlying64 itInfo rfl (by decide) (by decide) _ _ (out).length (itL (out)) rfl HRa.out 1 bw3 1 (itC x) rfl (fun j c hc => (cell_of_row w3a bw3 j _ _ _ HO.out).trans (by simpa using hc)) rfl (fun c hc => it_one hc) (by (try simp only [List.length_append, List.length_cons, List.length_nil]); omega) ?_
   intro v1 w3 hrow hgr
   have HRow : Hid (Row (fun j => w.heap.size ≤ j ∧ j ≠ bx) w3 73 5 v1 (out ++ [x]).length (itL (out ++ [x]))) := by
    show Row _ _ _ _ _ _ _
    rw [itL_snoc, List.length_append]
    exact hrow.mono fun j hj => hj.elim id fun e => by rw [e]; exact ⟨HBa.out.size, by have := (Array.getElem?_eq_some_iff.1 HXa.out).1; omega⟩
   have HBel : Hid (Below w.heap.size w w3) := HBa.out.grown hgr HBa.out.size fun j hj => (HRa.out.2 j hj).1
   have HX : Hid (w3.heap[bx]? = _) := (hgr.block bx (Array.getElem?_eq_some_iff.1 HXa.out).1 (fun e => (HRa.out.2 bx e.symm).2 rfl)).trans HXa.out
   have HG : Hid (w3.heap[g]? = some (.cells (cellsR s lv kn) 225 (0, 0))) := (HBel.out.block g hgl).trans HG0.out
   clear hrow hgr HRa HBa HXa HO HB
   simp only [Act.put, zA, zB, zC]
   refine Ks.v (v1) ?_
   simp only [Act.put, zA, zB, zC]
   refine Ks.done ?_
   refine Ks.reg ?_
   refine Ks.v (.pointer (some ⟨g, 0, none⟩)) ?_
   simp only [Act.put, zA, zB, zC]
   refine Ks.v (v1) ?_
   simp only [Act.put, zA, zB, zC]
   refine Ks.v (.pointer (some ⟨g, 0, none⟩)) ?_
   simp only [Act.put, zA, zB, zC]
   refine Ks.v (.pointer (some ⟨g, 5, none⟩)) ?_
   simp only [Act.put, zA, zB, zC]
   refine Ks.store rfl _ _ _ rfl g 5 _ rfl rfl HG.out (by show 5 < 7; omega) (by kernel_rfl) (row_one HRow.out) (cellsR { s with l := ins x s.l } v1 kn) rfl ?_
   intro w9 HG9 H2 H3 H4
   simp only [Act.put]
   refine Ks.fin ?_
   go_end0
   have hne : v1.ownBlock ≠ some g := fun e => by
    have := (HRow.out.2 g e).1
    omega
   refine ⟨rfl, ⟨Or.inl hS, v1, HG9.out, ?_⟩, (Fr.of_below HBel.out (Nat.le_refl _)).trans (H2.out _ _ (Or.inl hS))⟩
   show Row _ _ _ _ _ (ins x s.l).length (itL (ins x s.l))
   rw [← hall]
   exact (HRow.out.congr fun b hb => H3.out b (fun e => hne (by rw [hb, e]))).mono fun j hj => Or.inr hj.1
  | true =>
   have hall : out = ins x s.l := by
    have h : out ++ s.l.drop s.l.length = ins x s.l := HP.out
    rw [← h]
    simp
   refine Ks.v (.bool false) ?_
   simp only [Act.put, zA, zB, zC]
   refine Ks.done ?_
   refine wp_cond_false rfl ?_
   refine wp_skip ?_
   refine Ks.norm ?_
   refine Ks.reg ?_
   refine Ks.v (.pointer (some ⟨g, 0, none⟩)) ?_
   simp only [Act.put, zA, zB, zC]
   refine Ks.v (v) ?_
   simp only [Act.put, zA, zB, zC]
   refine Ks.v (.pointer (some ⟨g, 0, none⟩)) ?_
   simp only [Act.put, zA, zB, zC]
   refine Ks.v (.pointer (some ⟨g, 5, none⟩)) ?_
   simp only [Act.put, zA, zB, zC]
   refine Ks.store rfl _ _ _ rfl g 5 _ rfl rfl HG.out (by show 5 < 7; omega) (by kernel_rfl) (row_one HRow.out) (cellsR { s with l := ins x s.l } v kn) rfl ?_
   intro w9 HG9 H2 H3 H4
   simp only [Act.put]
   refine Ks.fin ?_
   go_end0
   have hne : v.ownBlock ≠ some g := fun e => by
    have := (HRow.out.2 g e).1
    omega
   refine ⟨rfl, ⟨Or.inl hS, v, HG9.out, ?_⟩, (Fr.of_below HBel.out (Nat.le_refl _)).trans (H2.out _ _ (Or.inl hS))⟩
   show Row _ _ _ _ _ (ins x s.l).length (itL (ins x s.l))
   rw [← hall]
   exact (HRow.out.congr fun b hb => H3.out b (fun e => hne (by rw [hb, e]))).mono fun j hj => Or.inr hj.1
end Gt
end Go.Proofs.YtbojijefenfbgaaGreatDoor
namespace Go.Proofs.YtbojijefenfbgaaGreatDoor
open Go Go.RowKit
namespace Qt
structure Ord (T : World → World → Prop) : Prop where
 trans : ∀ {u v w}, T u v → T v w → T u w
 drawn : ∀ w : World, T w { w with drawn := w.drawn + 1 }
def UponT (P : Program) (T : World → World → Prop) (w : World) (R : Value → World → Prop) : Result Next → Prop
 | .ok (.value u) w1 => R u w1 ∧ T w w1
 | .ok (.enter f args) w1 => Calls P f args w1 (fun e w'' => ∃ u, e = .returned u ∧ R u w'' ∧ T w w'')
 | _ => False
theorem UponT.wp {P : Program} {T : World → World → Prop} {w : World} {o : Oper} {R : Value → World → Prop} {a : Act} {Q : Exit → Act → World → Prop} {K : Act → World → Prop} (h : UponT P T w R ((execOp a.eval o).run P w)) (hK : ∀ u w', R u w' → T w w' → K (a.put o.dst u) w') : o.wp P a w K Q := by
 unfold Oper.wp
 generalize (execOp a.eval o).run P w = r at h
 cases r with
 | halt x w' => cases h
 | ok x w' =>
  cases x with
  | value u => exact hK _ _ h.1 h.2
  | enter f args => exact Calls.mono h fun e w'' ⟨u, he, hr, hb⟩ => by subst he; exact hK _ _ hr hb
  | _ => cases h
theorem UponR.toT {P : Program} {T : World → World → Prop} {w : World} {R : Value → World → Prop} {r : Result Next} (h : UponR P w R r) (hT : ∀ w', Below w.heap.size w w' → T w w') : UponT P T w R r := by
 cases r with
 | halt x w' => cases h
 | ok x w' =>
  cases x with
  | value u => exact ⟨h.1, hT _ h.2⟩
  | enter f args => exact Calls.mono h fun e w'' ⟨u, he, hr, hb⟩ => ⟨u, he, hr, hT _ hb⟩
  | _ => cases h
section
variable {P : Program} {T : Nat → World → World → Prop} {G : Bool → World → Prop} {m : Nat} {l : List Oper} {n : Nat} {R : Nat → Value → World → Prop} {a0 : Act} {Q : Exit → Act → World → Prop}
theorem rel_anyI (hG : ∀ i b w w', i ≠ m → G b w → T i w w' → G b w') (hGm : ∀ w w', G false w → T m w w' → G true w') (hB : relB l.toArray n = true) (hR : ∀ i j u w w', i < n → j < n → j ≠ i → Region.waitsFor .any l.toArray j i = false → ∀ b, (i = m → b = false) → G b w → R j u w → T i w w' → R j u w')
  (hstep : ∀ i o, i < n → l[i]? = some o → ∀ U w b, (i = m → b = false) → G b w → (∀ j, j < n → Region.waitsFor .any l.toArray i j = true → R j (U j) w) → UponT P (T i) w (R i) ((execOp (fullA U (l.take n) 0 a0).eval o).run P w))
  (hmn : m < n) (hend : ∀ U w, G true w → (∀ j, j < n → R j (U j) w) → wpList P l.toArray Q (l.drop n) (fullA U (l.take n) 0 a0) w) (f : Nat) :
  ∀ listed U w, left listed n = f → HeadInv .any l.toArray n listed → G (listed.getD m false) w → (∀ j, j < n → listed.getD j false = true → R j (U j) w) → wpAny P .any l.toArray Q (l.toArray.size - n + f) listed (laid U listed (l.take n) 0 a0) w := by
 simp only [relB, Bool.and_eq_true, decide_eq_true_eq] at hB
 obtain ⟨⟨⟨⟨⟨⟨hsel, hn⟩, hgd⟩, hs⟩, hc⟩, hdep⟩, hseq⟩ := hB
 have hn' : n < l.length := by simpa using hn
 have htl : (l.take n).length = n := by simp; omega
 have hdl : (l.drop n).length = l.toArray.size - n := by simp
 induction f with
 | zero =>
  intro listed U w hf inv hw hr
  have hall : ∀ j, j < n → listed.getD j false = true := fun j hj => getD_true (by rw [inv.size]; omega) (left_zero _ _ hf j hj)
  have hl : listed = Array.ofFn (n := l.toArray.size) fun i => decide (i.val < n) := by
   apply Array.ext
   ·simp [inv.size]
   ·intro i h1 h2
    simp only [Array.getElem_ofFn]
    by_cases hin : i < n
    ·have := hall i hin
     simp [Array.getD_eq_getD_getElem?, h1] at this
     rw [this]; simp [hin]
    ·have := inv.tail i (by omega) (by rw [← inv.size]; exact h1)
     simp [Array.getD_eq_getD_getElem?, h1] at this
     rw [this]; simp [hin]
  rw [laid_all _ _ _ _ _ (fun j _ hj => hall j (by rw [htl] at hj; omega))]
  have := wpAny_of_seq (md := .any) (Q' := Q) (l.drop n) n listed (fullA U (l.take n) 0 a0) w (fun j => by simp [List.getElem?_drop]) (by rw [hdl, hl]; exact hseq) (hend U w (by rw [hall m hmn] at hw; exact hw) fun j hj => hr j hj (hall j hj))
  rw [hdl] at this
  exact this
 | succ f ih =>
  intro listed U w hf inv hw hr
  have hinfo : ∀ i, i < n → ∃ oi, l[i]? = some oi ∧ l.toArray[i]? = some oi ∧ (∀ e ∈ oi.after, e.on < i) ∧ ∀ j oj, j < n → l.toArray[j]? = some oj → ∀ d, oj.dst = some d → (Region.waitsFor .any l.toArray i j = true ∨ d ∉ oi.looksAt l.toArray) ∧ (i = j ∨ oi.dst ≠ some d) := by
   intro i hi
   have h1 := List.all_eq_true.1 hdep i (List.mem_range.2 hi)
   obtain ⟨oi, hoi⟩ : ∃ oi, l[i]? = some oi := ⟨l[i], by simp [show i < l.length by omega]⟩
   have hoi' : l.toArray[i]? = some oi := by simpa using hoi
   rw [hoi'] at h1
   simp only [Bool.and_eq_true] at h1
   refine ⟨oi, hoi, hoi', fun e he => ?_, fun j oj hj hoj d hd => ?_⟩
   ·have := Array.all_eq_true_iff_forall_mem.1 h1.1 e he
    simpa using this
   ·have h2 := List.all_eq_true.1 h1.2 j (List.mem_range.2 hj)
    rw [hoj] at h2
    simp only [hd, Bool.and_eq_true, Bool.or_eq_true, beq_iff_eq, bne_iff_ne, Bool.not_eq_true'] at h2
    refine ⟨h2.1.imp id fun h => ?_, h2.2⟩
    intro hm
    rw [List.contains_iff_mem.2 hm] at h
    cases h
  obtain ⟨j0, hj0, hun0, hbelow⟩ := left_pos listed n (by omega)
  have hready : j0 ∈ Region.ready .any l.toArray listed := by
   obtain ⟨o0, _, ho0, hback, _⟩ := hinfo j0 hj0
   refine mem_ready.2 ⟨hun0, o0, ho0, fun e he _ => ?_⟩
   have := hback e he
   exact getD_true (by rw [inv.size]; omega) (hbelow _ this)
  refine ⟨fun h0 => (by rw [h0] at hready; cases hready), fun i hi => ?_⟩
  have hin : i < n := by
   rcases Nat.lt_or_ge i n with h | h
   ·exact h
   ·exact absurd hi (tail_waits hs hc hn inv _ j0 rfl hj0 hun0 i h)
  obtain ⟨hun, oi0, hoi0, hall⟩ := mem_ready.1 hi
  obtain ⟨oi, hoi, hoi', hback, hlook⟩ := hinfo i hin
  obtain rfl : oi0 = oi := Option.some.inj (hoi0.symm.trans hoi')
  have hg : oi0.guard = none := by
   have h1 := Array.all_eq_true_iff_forall_mem.1 hgd oi0 (Array.mem_of_getElem? hoi')
   simpa using h1
  have hwl : ∀ j, Region.waitsFor .any l.toArray i j = true → listed.getD j false = true := fun j hj => by
   obtain ⟨oj, hoj, e, he, hb, hon⟩ := Region.waitsFor_spec hj
   obtain rfl : oj = oi0 := Option.some.inj (hoj.symm.trans hoi')
   rw [← hon]
   exact hall e he hb
  have hexec : execOp (laid U listed (l.take n) 0 a0).eval oi0 = execOp (fullA U (l.take n) 0 a0).eval oi0 := execOp_congr oi0 (fun cs b => Region.noSelect_spec hsel i oi0 cs b hoi') fun x hx => laid_eval U listed x (l.take n) 0 a0 a0 rfl rfl fun j oj hj d hd hxd => by
   have hjn : j < n := by
    have := (List.getElem?_eq_some_iff.1 hj).1
    omega
   have hj' : l.toArray[j]? = some oj := by
    rw [List.getElem?_take_of_lt hjn] at hj
    simpa using hj
   rcases (hlook j oj hjn hj' d hd).1 with h | h
   ·rw [Nat.zero_add]; exact hwl j h
   ·exact absurd (by
     subst hxd
     exact List.mem_append_left _ (List.mem_filterMap.2 ⟨.tmp d, by simpa using hx, rfl⟩)) h
  have hst := hstep i oi0 hin hoi U w _ (fun e => by rw [← e]; exact getD_both hun) hw fun j hj hwt => hr j hj (hwl j hwt)
  rw [← hexec] at hst
  unfold wpOp
  simp only [hoi']
  rw [if_pos (by simp [Region.wanted, hg])]
  refine .inl (hst.wp fun u w' hu hb => ?_)
  have hnext : T i w w' → G ((listed.setIfInBounds i true).getD m false) w' := fun hb => by
   by_cases e : i = m
   ·subst e
    have h1 : (listed.setIfInBounds i true).getD i false = true := by
     have hlt : i < listed.size := by rw [inv.size]; omega
     simp [Array.getD_eq_getD_getElem?, hlt]
    rw [h1]
    rw [getD_both hun] at hw
    exact hGm _ _ hw hb
   ·rw [getD_set_ne false e]
    exact hG i _ _ _ e hw hb
  have hset := laid_set U listed i u oi0 hun (l.take n) 0 a0 (by omega) (by rw [Nat.sub_zero, List.getElem?_take_of_lt hin]; exact hoi) (fun j o hj hne d hd hd' => by
   have hjn : j < n := by
    have := (List.getElem?_eq_some_iff.1 hj).1
    omega
   have hj' : l.toArray[j]? = some o := by
    rw [List.getElem?_take_of_lt hjn] at hj
    simpa using hj
   rcases (hlook j o hjn hj' d hd').2 with h | h
   ·omega
   ·exact h hd)
  rw [← hset]
  refine ih _ _ _ ?_ (inv.set hi hin) (hnext hb) fun j hj hl => ?_
  ·have := left_set listed i n hun
   rw [if_pos hin] at this
   omega
  ·by_cases e : j = i
   ·simp only [e, if_true]; exact hu
   ·simp only [if_neg e]
    rw [getD_set_ne false (Ne.symm e)] at hl
    refine hR i j _ _ _ hin hj e ?_ _ (fun e => by rw [← e]; exact getD_both hun) hw (hr j hj hl) hb
    cases hwj : Region.waitsFor .any l.toArray j i with
    | false => rfl
    | true =>
     obtain ⟨oj, hoj, e1, he1, hb1, hon1⟩ := Region.waitsFor_spec hwj
     have := inv.closed j oj hoj hl e1 he1 hb1
     rw [hon1] at this
     rw [getD_both hun] at this
     cases this
end
theorem wp_relI {P : Program} {T : Nat → World → World → Prop} {G : Bool → World → Prop} {m : Nat} {id : Nat} {Q : Exit → Act → World → Prop} {a : Act} {w : World} {l : List Oper} (n : Nat) (R : Nat → Value → World → Prop) (hG0 : G false { w with drawn := w.drawn + 1 }) (hm : P.follows .mixedOrders = true) (hG : ∀ i b w w', i ≠ m → G b w → T i w w' → G b w') (hGm : ∀ w w', G false w → T m w w' → G true w') (hB : relB l.toArray n = true) (hR : ∀ i j u w w', i < n → j < n → j ≠ i → Region.waitsFor .any l.toArray j i = false → ∀ b, (i = m → b = false) → G b w → R j u w → T i w w' → R j u w')
  (hstep : ∀ i o, i < n → l[i]? = some o → ∀ U w' b, (i = m → b = false) → G b w' → (∀ j, j < n → Region.waitsFor .any l.toArray i j = true → R j (U j) w') → UponT P (T i) w' (R i) ((execOp (fullA U (l.take n) 0 a).eval o).run P w'))
  (hmn : m < n) (hend : ∀ U w', G true w' → (∀ j, j < n → R j (U j) w') → wpList P l.toArray Q (l.drop n) (fullA U (l.take n) 0 a) w') : (Code.region id l.toArray true).wp P Q a w := by
 refine wp_region_any hm ?_
 have hn : n < l.toArray.size := by
  simp only [relB, Bool.and_eq_true, decide_eq_true_eq] at hB
  exact hB.1.1.1.1.1.2
 have inv0 : HeadInv .any l.toArray n (Array.replicate l.toArray.size false) :=
  ⟨by simp, fun j oj _ hl => (by rw [getD_replicate_false] at hl; cases hl), fun t _ ht => getD_in (by simpa using ht) (getD_replicate_false _ _)⟩
 have hleft : ∀ m, m ≤ l.toArray.size → left (Array.replicate l.toArray.size false) m = m := by
  intro m
  induction m with
  | zero => intro _; rfl
  | succ m ih =>
   intro h
   unfold left
   rw [ih (by omega), getD_in (by simp at h ⊢; omega) (getD_replicate_false _ _)]
   rfl
 have hlaid : ∀ (l' : List Oper) k, laid (fun _ => undef) (Array.replicate l.toArray.size false) l' k a = a := by
  intro l'
  induction l' with
  | nil => intro k; rfl
  | cons o l' ih =>
   intro k
   unfold laid
   rw [if_neg (by rw [getD_replicate_false]; decide)]
   exact ih _
 have := rel_anyI (P := P) (G := G) (m := m) (Q := Q) (a0 := a) hG hGm hB hR hstep hmn hend n (Array.replicate l.toArray.size false) (fun _ => undef) { w with drawn := w.drawn + 1 } (hleft n (by omega)) inv0 (by rw [getD_replicate_false]; exact hG0) (fun j _ hl => (by rw [getD_replicate_false] at hl; cases hl))
 rw [hlaid, show l.toArray.size - n + n = l.toArray.size by omega] at this
 exact this
end Qt
end Go.Proofs.YtbojijefenfbgaaGreatDoor

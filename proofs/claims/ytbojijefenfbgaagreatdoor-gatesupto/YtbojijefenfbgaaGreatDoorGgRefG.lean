/- Walk of the document's gate: Close. The world of a script: its gates, which blocks are whose, and what a turned gate leaves of it. -/
import Derived.Test.YtbojijefenfbgaaGreatDoorGgShort
import Derived.Test.YtbojijefenfbgaaGreatDoorGgRefE
import Derived.Test.YtbojijefenfbgaaGreatDoorGgGateH
namespace Go.Proofs.YtbojijefenfbgaaGreatDoor
open Go Go.RowKit
namespace Gt
open Mp Bk Tk
theorem row_set {cur : Array Value} {L : List It} {n i : Nat} (hn : L.length = n) (hs : n * 5 ≤ cur.size) (ht : cur.toList.take (n * 5) = itL L) (hi : i < n) (z : It) : (Ks.setL cur (i * 5) (itC z)).toList.take (n * 5) = itL (L.set i z) := by
 have h5 : (itC z).length = 5 := rfl
 have hle : i * 5 + 5 ≤ n * 5 := by omega
 apply List.ext_getElem?
 intro j
 by_cases hj : j < n * 5
 ·rw [List.getElem?_take_of_lt hj, Array.getElem?_toList, Ks.setL_get _ _ _ _ (by rw [h5]; omega), h5]
  have hq : j / 5 < n := by omega
  have hjq : j = j / 5 * 5 + j % 5 := by omega
  have hr : j % 5 < 5 := Nat.mod_lt _ (by decide)
  have hrhs : ∀ (M : List It) (x : It), M[j / 5]? = some x → (itL M)[j]? = (itC x)[j % 5]? := fun M x hx => by
   have := flat_get itC 5 itC_len M (j / 5) (j % 5) x hx hr
   rw [← hjq] at this
   exact this
  by_cases he : i * 5 ≤ j ∧ j < i * 5 + 5
  ·rw [if_pos he]
   have hq2 : j / 5 = i := by omega
   rw [hrhs _ z (by rw [hq2, List.getElem?_set_self (by omega)])]
   congr 1
   omega
  ·rw [if_neg he]
   have hq2 : j / 5 ≠ i := by omega
   have hx : L[j / 5]? = some (L[j / 5]'(by omega)) := List.getElem?_eq_getElem (by omega)
   rw [hrhs _ _ (by rw [List.getElem?_set_ne (fun e => hq2 e.symm)]; exact hx), ← hrhs _ _ hx, ← ht, List.getElem?_take_of_lt hj, Array.getElem?_toList]
 ·rw [List.getElem?_eq_none (by rw [List.length_take]; omega), List.getElem?_eq_none (by rw [itL_len, List.length_set]; omega)]
def mixed (F : Int) (l : List It) (k : Nat) : List It := (l.take k).map (fade F) ++ l.drop k
theorem mixed_len (F : Int) (l : List It) (k : Nat) : (mixed F l k).length = l.length := by
 unfold mixed
 rw [List.length_append, List.length_map, List.length_take, List.length_drop]
 omega
theorem mixed_at {F : Int} {l : List It} {k : Nat} {y : It} (h : l[k]? = some y) : (mixed F l k)[k]? = some y := by
 obtain ⟨hk, hy⟩ := List.getElem?_eq_some_iff.1 h
 have hl : ((l.take k).map (fade F)).length = k := by rw [List.length_map, List.length_take]; omega
 unfold mixed
 rw [List.getElem?_append_right (by omega), hl, Nat.sub_self, List.getElem?_drop, Nat.add_zero]
 exact h
theorem mixed_step {F : Int} {l : List It} {k : Nat} {y : It} (h : l[k]? = some y) : (mixed F l k).set k (fade F y) = mixed F l (k + 1) := by
 obtain ⟨hk, hy⟩ := List.getElem?_eq_some_iff.1 h
 have hl : ((l.take k).map (fade F)).length = k := by rw [List.length_map, List.length_take]; omega
 unfold mixed
 rw [List.set_append_right _ _ (by omega), hl, Nat.sub_self, List.drop_eq_getElem_cons hk, List.set_cons_zero, List.take_succ_eq_append_getElem hk, List.map_append, hy]
 simp
theorem mixed_all (F : Int) (l : List It) : mixed F l l.length = l.map (fade F) := by simp [mixed]
def cFrame (g : Nat) (l : List UInt8) (i : Nat) (f : Nat → Value) : Act := { tmps := #[.pointer (some ⟨g, 0, none⟩), .string ⟨l.toArray⟩, f 2, f 3, .int .i64 0, f 5, .int .i64 (epochOf l), .int .i64 (i : Int), f 8, f 9, f 10, f 11, f 12, f 13, f 14, f 15, f 16, f 17, f 18, f 19, f 20, f 21, f 22, f 23, f 24, f 25, f 26, f 27, f 28, f 29, f 30, f 31, f 32, f 33, f 34, f 35, f 36, f 37, f 38, f 39, f 40, f 41, f 42, f 43, f 44, f 45, f 46, f 47, f 48, f 49, f 50, f 51, f 52, f 53, f 54, f 55, f 56, f 57, f 58, f 59, f 60, f 61, f 62, f 63, f 64, f 65, f 66, f 67, f 68, f 69, f 70, f 71], defers := [] }
set_option maxRecDepth 10000 in
theorem cloR_no (g : Nat) (l : List UInt8) (hl : l.length ≠ 67 ∨ l.head? ≠ some 67) (w : World) : Calls Tryz.prog 132 #[.pointer (some ⟨g, 0, none⟩), .string ⟨l.toArray⟩] w fun e w' => e = .returned (.int .i64 4) ∧ Below w.heap.size w w' := by
 go_enter Tryz.func132, Tryz.ntmps132
 refine wp_seq ?_
 refine Ks.reg ?_
 refine Ks.v (.int .i64 0) ?_
 simp only [Act.put, zA, zB, zC]
 refine Ks.done ?_
 refine wp_seq ?_
 refine wp_seq ?_
 refine Ks.reg ?_
 refine Ks.v (.string ⟨l.toArray⟩) ?_
 simp only [Act.put, zA, zB, zC]
 refine Ks.v (.int .i64 (l.length : Int)) ?_
 simp only [Act.put, zA, zB, zC]
 by_cases h7 : l.length = 67
 ·have hh := hl.resolve_left (fun x => x h7)
  have hne : l[0]'(by omega) ≠ 67 := fun e => hh (by rw [List.head?_eq_getElem?, List.getElem?_eq_getElem (by omega), e])
  refine Ks.val rfl (.bool false) (by simp [execOp, go_sem, h7]) ?_
  simp only [Act.put, zA, zB, zC]
  refine Ks.v (.bool false) ?_
  simp only [Act.put, zA, zB, zC]
  refine Ks.valg (by kernel_rfl) (.string ⟨l.toArray⟩) (by kernel_rfl) ?_
  simp only [Act.put, zA, zB, zC]
  refine k_byte (by kernel_rfl) _ _ rfl l 0 (by omega) rfl rfl ?_
  simp only [Act.put, zA, zB, zC]
  refine Ks.valg (by kernel_rfl) (.bool true) (by
   have : (l[0]'(by omega)).toNat ≠ 67 := fun e => hne (UInt8.toNat_inj.1 e)
   simp [execOp, go_sem]
   omega) ?_
  simp only [Act.put, zA, zB, zC]
  refine Ks.v (.bool true) ?_
  simp only [Act.put, zA, zB, zC]
  refine Ks.done ?_
  refine wp_cond_true rfl ?_
  refine wp_seq ?_
  refine Ks.reg ?_
  refine Ks.v (.int .i64 4) ?_
  simp only [Act.put, zA, zB, zC]
  refine Ks.done ?_
  refine wp_ret ?_
  repeat (refine Ks.ret ?_)
  refine bodyPost_ret (v := .int .i64 4) (by simp [results, Tryz.results132]) rfl ?_
  exact ⟨rfl, Below.refl _ _⟩
 ·refine Ks.val rfl (.bool true) (by simp [execOp, go_sem]; omega) ?_
  simp only [Act.put, zA, zB, zC]
  refine Ks.v (.bool true) ?_
  simp only [Act.put, zA, zB, zC]
  with_reducible refine Ks.off (by kernel_rfl) ?_
  simp only [Act.put, zA, zB, zC]
  with_reducible refine Ks.off (by kernel_rfl) ?_
  simp only [Act.put, zA, zB, zC]
  with_reducible refine Ks.off (by kernel_rfl) ?_
  simp only [Act.put, zA, zB, zC]
  refine Ks.v (.bool true) ?_
  simp only [Act.put, zA, zB, zC]
  refine Ks.done ?_
  refine wp_cond_true rfl ?_
  refine wp_seq ?_
  refine Ks.reg ?_
  refine Ks.v (.int .i64 4) ?_
  simp only [Act.put, zA, zB, zC]
  refine Ks.done ?_
  refine wp_ret ?_
  repeat (refine Ks.ret ?_)
  refine bodyPost_ret (v := .int .i64 4) (by simp [results, Tryz.results132]) rfl ?_
  exact ⟨rfl, Below.refl _ _⟩
set_option maxRecDepth 10000 in
set_option maxHeartbeats 2000000 in
theorem cloR_yes {S SK : Nat → Prop} {w : World} {g kn : Nat} {s : St} {ks : List Asked} (h : RGate S w g s kn) (hK : KAt Gw.rightE SK w kn ks) (hd : ∀ j, S j → ¬ SK j) (hI : Inv s) (hn : ks.length ≤ 20000000000) (l : List UInt8) (hl : l.length = 67) (hh : l.head? = some 67) : Calls Tryz.prog 132 #[.pointer (some ⟨g, 0, none⟩), .string ⟨l.toArray⟩] w fun e w' => e = .returned (.int .i64 (cloE s l).1) ∧ Left S SK w w' g kn (cloE s l).2 ks.length := by
 have HR : Hid (RGate (fun k => S k ∧ k < w.heap.size) w g s kn) := h.cut (Nat.le_refl _)
 have HK : Hid (KAt Gw.rightE (fun k => SK k ∧ k < w.heap.size) w kn ks) := hK.cut (Nat.le_refl _)
 have Hclo : Hid (cloE s l = _) := show clo Gw.rightE s l = _ by
  unfold clo
  rw [if_neg (by simp [hl, hh])]
 have hfew := hI.few
 clear h hK
 have heq : (l[0]'(by omega)).toNat = 67 := by
  rw [List.head?_eq_getElem?, List.getElem?_eq_getElem (by omega)] at hh
  injection hh with hh
  rw [hh]
  rfl
 go_enter Tryz.func132, Tryz.ntmps132
 refine wp_seq ?_
 refine Ks.reg ?_
 refine Ks.v (.int .i64 0) ?_
 simp only [Act.put, zA, zB, zC]
 refine Ks.done ?_
 refine wp_seq ?_
 refine wp_seq ?_
 refine Ks.reg ?_
 refine Ks.v (.string ⟨l.toArray⟩) ?_
 simp only [Act.put, zA, zB, zC]
 refine Ks.v (.int .i64 (l.length : Int)) ?_
 simp only [Act.put, zA, zB, zC]
 refine Ks.val rfl (.bool false) (by simp [execOp, go_sem, hl]) ?_
 simp only [Act.put, zA, zB, zC]
 refine Ks.v (.bool false) ?_
 simp only [Act.put, zA, zB, zC]
 refine Ks.valg (by kernel_rfl) (.string ⟨l.toArray⟩) (by kernel_rfl) ?_
 simp only [Act.put, zA, zB, zC]
 refine k_byte (by kernel_rfl) _ _ rfl l 0 (by omega) rfl rfl ?_
 rw [heq]
 simp only [Act.put, zA, zB, zC]
 refine Ks.valg (by kernel_rfl) (.bool false) (by kernel_rfl) ?_
 simp only [Act.put, zA, zB, zC]
 refine Ks.v (.bool false) ?_
 simp only [Act.put, zA, zB, zC]
 refine Ks.done ?_
 refine wp_cond_false rfl ?_
 refine wp_skip ?_
 refine Ks.norm ?_
 refine wp_seq ?_
 clear heq
 have HGc : Hid _ := HR.out
 obtain ⟨_, lv, hg, hrow⟩ := HR.out
 have HG0 : Hid (w.heap[g]? = some (.cells (cellsR s lv kn) 225 (0, 0))) := hg
 clear hg hrow HGc
 have hgl := (Array.getElem?_eq_some_iff.1 HG0.out).1
 refine Qt.wp_tail 12 (by kernel_rfl) (by kernel_rfl) ?_
 simp only [List.take_succ_cons, List.take_zero]
 refine Qt.y_val rfl (.pointer (some ⟨g, 0, none⟩)) (fun _ _ => by kernel_rfl) ?_
 refine Qt.y_val rfl (.pointer (some ⟨g, 0, none⟩)) (fun _ _ => by kernel_rfl) ?_
 refine Qt.y_val rfl (.pointer (some ⟨g, 6, none⟩)) (fun _ _ => by kernel_rfl) ?_
 simp only [Act.put, zA, zB, zC]
 refine y_cell rfl _ _ rfl Tryz.underlying118 rfl g 6 (.pointer (some ⟨kn, 0, none⟩)) rfl hgl (row_at HG0.out 6 rfl) ?_
 simp only [Act.put, zA, zB, zC]
 refine Qt.y_val rfl (.pointer (some ⟨g, 0, none⟩)) (fun _ _ => by kernel_rfl) ?_
 refine Qt.y_val rfl (.pointer (some ⟨g, 0, none⟩)) (fun _ _ => by kernel_rfl) ?_
 refine Qt.y_val rfl (.pointer (some ⟨g, 3, none⟩)) (fun _ _ => by kernel_rfl) ?_
 simp only [Act.put, zA, zB, zC]
 refine y_cell rfl _ _ rfl Tryz.underlying9 rfl g 3 (str s.key) rfl hgl (row_at HG0.out 3 rfl) ?_
 simp only [Act.put, zA, zB, zC]
 refine Qt.y_val rfl (.string ⟨l.toArray⟩) (fun _ _ => by kernel_rfl) ?_
 simp only [Act.put, zA, zB, zC]
 refine y_cuth rfl _ _ rfl l 3 (by omega) rfl rfl ?_
 simp only [Act.put, zA, zB, zC]
 refine Qt.y_val rfl (.string ⟨l.toArray⟩) (fun _ _ => by kernel_rfl) ?_
 simp only [Act.put, zA, zB, zC]
 refine y_cutl rfl _ _ rfl l 3 (by omega) rfl rfl ?_
 simp only [Act.put, zA, zB, zC]
 refine Qt.y_nil ?_
 simp only [List.drop_succ_cons, List.drop_zero]
 intro w1 hb1
 obtain ⟨R, hR⟩ : ∃ R, R = Gw.rightE s.key (l.take 3) (l.drop 3) := ⟨_, rfl⟩
 rw [← hR] at Hclo
 refine Ks.call rfl 203 #[.pointer (some ⟨kn, 0, none⟩), str s.key, str (l.take 3), str (l.drop 3)] (by kernel_rfl) (R := fun v w' => v = .bool R ∧ (∃ ks', ks'.length ≤ ks.length + 1 ∧ KAt Gw.rightE (fun j => (SK j ∧ j < w.heap.size) ∨ w1.heap.size ≤ j) w' kn ks') ∧ Fr (fun j => SK j ∧ j < w.heap.size) w1.heap.size w1 w') (by rw [hR]; exact known_r (HK.out.below hb1) s.key (l.take 3) (l.drop 3) (by rw [List.length_take]; omega) hn) ?_
 rintro v w2 ⟨rfl, ⟨ks', hks', hK2⟩, hf2⟩
 have HF2 : Hid (Fr (fun j => S j ∨ SK j) w.heap.size w w2) := (Fr.of_below hb1 (Nat.le_refl _)).trans (hf2.mono hb1.size fun j _ h => Or.inr h.1)
 have HR2 : Hid (RGate (fun k => S k ∧ k < w.heap.size) w2 g s kn) := HR.out.congr (fun _ h => h) fun k hk hlt => (hf2.block k (Nat.lt_of_lt_of_le hlt hb1.size) (fun h => hd k hk.1 h.1)).trans (hb1.block k hlt)
 have HK2 : Hid (KAt Gw.rightE (fun j => (SK j ∨ w.heap.size ≤ j) ∧ j < w2.heap.size) w2 kn ks') := (hK2.mono fun j hj => hj.elim (fun h => Or.inl h.1) fun h => Or.inr (Nat.le_trans hb1.size h)).cut (Nat.le_refl _)
 have hsz2 : w.heap.size ≤ w2.heap.size := HF2.out.size
 clear hb1 hK2 hf2 HK HR HG0 hR lv hgl
 simp only [Act.put, zA, zB, zC]
 refine Ks.v (.bool R) ?_
 simp only [Act.put, zA, zB, zC]
 refine Ks.done ?_
 have out : ∀ w', Below w2.heap.size w2 w' → Left S SK w w' g kn s ks.length := fun w' hb => ⟨_, _, ks', fun j hj => Or.inl hj.1, fun j hj => hj.1, fun j hj hk => hk.1.elim (fun h => hd j hj.1 h) (fun h => by have := hj.2; omega), hks', HR2.out.below hb, HK2.out.below hb, HF2.out.calls hb hsz2⟩
 have Hout : Hid _ := out
 clear out
 refine wp_seq ?_
 refine Ks.reg ?_
 refine Ks.v (.string ⟨l.toArray⟩) ?_
 simp only [Act.put, zA, zB, zC]
 refine k_cutlh (by kernel_rfl) _ _ _ rfl l 1 3 (by omega) (by omega) rfl rfl rfl ?_
 simp only [Act.put, zA, zB, zC]
 refine Ks.pure (by kernel_rfl) 204 #[.string ⟨((l.drop 1).take 2).toArray⟩] (by kernel_rfl) (v := .int .i64 (epochOf l)) (high_r ((l.drop 1).take 2) (by rw [List.length_take]; omega) w2) ?_
 intro w3 hb3
 simp only [Act.put, zA, zB, zC]
 refine Ks.v (.int .i64 (epochOf l)) ?_
 simp only [Act.put, zA, zB, zC]
 refine Ks.done ?_
 have HB4 : Hid (Below w2.heap.size w2 w3) := hb3
 have HR4 : Hid (RGate (fun k => S k ∧ k < w.heap.size) w3 g s kn) := HR2.out.below HB4.out
 clear hb3
 refine wp_seq ?_
 refine wp_seq ?_
 refine Ks.reg ?_
 refine Ks.v (.bool R) ?_
 simp only [Act.put, zA, zB, zC]
 cases R with
 | false =>
  refine Ks.v (.bool true) ?_
  simp only [Act.put, zA, zB, zC]
  refine Ks.done ?_
  refine wp_cond_true rfl ?_
  refine wp_seq ?_
  refine Ks.reg ?_
  refine Ks.v (.int .i64 5) ?_
  simp only [Act.put, zA, zB, zC]
  refine Ks.done ?_
  refine wp_ret ?_
  repeat (refine Ks.ret ?_)
  refine bodyPost_ret (v := .int .i64 5) (by simp [results, Tryz.results132]) rfl ?_
  rw [Hclo.out, if_pos rfl]
  exact ⟨rfl, Hout.out w3 HB4.out⟩
 | true =>
  rw [if_neg (by decide)] at Hclo
  obtain ⟨hSg, lv, hg4, hrow4⟩ := HR4.out
  have HG : Hid (w3.heap[g]? = some (.cells (cellsR s lv kn) 225 (0, 0))) := hg4
  have HL : Hid (Row (fun k => S k ∧ k < w.heap.size) w3 73 5 lv s.l.length (itL s.l)) := hrow4
  clear hg4 hrow4
  refine Ks.v (.bool false) ?_
  simp only [Act.put, zA, zB, zC]
  refine Ks.done ?_
  refine wp_cond_false rfl ?_
  refine wp_skip ?_
  refine Ks.norm ?_
  refine wp_seq ?_
  refine wp_seq ?_
  refine Ks.reg ?_
  refine Ks.v (.int .i64 (epochOf l)) ?_
  simp only [Act.put, zA, zB, zC]
  refine Ks.v (.pointer (some ⟨g, 0, none⟩)) ?_
  simp only [Act.put, zA, zB, zC]
  refine Ks.v (.pointer (some ⟨g, 0, none⟩)) ?_
  simp only [Act.put, zA, zB, zC]
  refine Ks.v (.pointer (some ⟨g, 1, none⟩)) ?_
  simp only [Act.put, zA, zB, zC]
  refine Ks.cell rfl _ _ rfl Tryz.underlying3 rfl g 1 (.int .i64 s.floor) rfl (row_at HG.out 1 rfl) ?_
  simp only [Act.put, zA, zB, zC]
  refine Ks.v (.bool (decide (epochOf l ≤ s.floor))) ?_
  simp only [Act.put, zA, zB, zC]
  refine Ks.done ?_
  refine wp_cond_split rfl ?_ ?_
  ·intro hfl
   have hfl := of_decide_eq_true hfl
   refine wp_seq ?_
   refine Ks.reg ?_
   refine Ks.v (.int .i64 6) ?_
   simp only [Act.put, zA, zB, zC]
   refine Ks.done ?_
   refine wp_ret ?_
   repeat (refine Ks.ret ?_)
   refine bodyPost_ret (v := .int .i64 6) (by simp [results, Tryz.results132]) rfl ?_
   rw [Hclo.out, if_pos hfl]
   exact ⟨rfl, Hout.out w3 HB4.out⟩
  ·intro hfl
   have hfl := of_decide_eq_false hfl
   rw [if_neg hfl] at Hclo
   refine wp_skip ?_
   refine Ks.norm ?_
   refine wp_seq ?_
   refine Ks.reg ?_
   refine Ks.v (.pointer (some ⟨g, 0, none⟩)) ?_
   simp only [Act.put, zA, zB, zC]
   refine Ks.v (.int .i64 (epochOf l)) ?_
   simp only [Act.put, zA, zB, zC]
   refine Ks.v (.pointer (some ⟨g, 0, none⟩)) ?_
   simp only [Act.put, zA, zB, zC]
   refine Ks.v (.pointer (some ⟨g, 1, none⟩)) ?_
   simp only [Act.put, zA, zB, zC]
   refine Ks.store rfl _ _ _ rfl g 1 _ rfl rfl HG.out (by show 1 < 7; omega) (by kernel_rfl) rfl (cellsR { s with floor := epochOf l } lv kn) rfl ?_
   intro w5 HG5 H2 H3 H4
   have hne : ∀ b, lv.ownBlock = some b → b ≠ g := fun b hb e => row_not HL.out HG.out (by decide) (by rw [hb, e])
   have HL5 : Hid (Row (fun k => S k ∧ k < w.heap.size) w5 73 5 lv s.l.length (itL s.l)) := HL.out.congr fun b hb => H3.out b (hne b hb)
   have HK5 : Hid (KAt Gw.rightE (fun j => (SK j ∨ w.heap.size ≤ j) ∧ j < w2.heap.size) w5 kn ks') := (HK2.out.below HB4.out).congr (fun _ h => h) fun j hj _ => H3.out j (fun e => by
    subst e
    exact hj.1.elim (fun h => hd _ hSg.1 h) (fun h => by have := hSg.2; omega))
   have HF5 : Hid (Fr (fun j => S j ∨ SK j) w.heap.size w w5) := (HF2.out.calls HB4.out hsz2).trans (H2.out _ _ (Or.inl (Or.inl hSg.1)))
   clear H2 H3 H4 HG HL Hout HR4 HR2 HK2 HF2 HB4
   simp only [Act.put]
   refine Ks.done ?_
   refine wp_seq ?_
   refine Ks.reg ?_
   refine Ks.v (.pointer (some ⟨g, 0, none⟩)) ?_
   simp only [Act.put, zA, zB, zC]
   refine Ks.v (.string ⟨l.toArray⟩) ?_
   simp only [Act.put, zA, zB, zC]
   refine Ks.v (.pointer (some ⟨g, 0, none⟩)) ?_
   simp only [Act.put, zA, zB, zC]
   refine Ks.v (.pointer (some ⟨g, 4, none⟩)) ?_
   simp only [Act.put, zA, zB, zC]
   refine Ks.store rfl _ _ _ rfl g 4 _ rfl rfl HG5.out (by show 4 < 7; omega) (by kernel_rfl) rfl (cellsR (s.raised l) lv kn) rfl ?_
   intro w6 HG6 H2 H3 H4
   have HL6 : Hid (Row (fun k => S k ∧ k < w.heap.size) w6 73 5 lv s.l.length (itL s.l)) := HL5.out.congr fun b hb => H3.out b (hne b hb)
   have HK6 : Hid (KAt Gw.rightE (fun j => (SK j ∨ w.heap.size ≤ j) ∧ j < w2.heap.size) w6 kn ks') := HK5.out.congr (fun _ h => h) fun j hj _ => H3.out j (fun e => by
    subst e
    exact hj.1.elim (fun h => hd _ hSg.1 h) (fun h => by have := hSg.2; omega))
   have HF6 : Hid (Fr (fun j => S j ∨ SK j) w.heap.size w w6) := HF5.out.trans (H2.out _ _ (Or.inl (Or.inl hSg.1)))
   clear H2 H3 H4 HG5 HL5 HK5 HF5
   simp only [Act.put]
   refine Ks.done ?_
   refine wp_seq ?_
   refine wp_seq ?_
   refine Ks.reg ?_
   refine Ks.v (.int .i64 0) ?_
   simp only [Act.put, zA, zB, zC]
   refine Ks.done ?_
   refine wp_block ?_
   have start : ∀ a0 : Act, a0 = cFrame g l 0 (fun j => a0.tmps.getD j undef) → ∃ (i : Nat) (f : Nat → Value), a0 = cFrame g l i f ∧ i ≤ s.l.length ∧ s.l.length = s.l.length - i ∧ w6.heap[g]? = some (.cells (cellsR (s.raised l) lv kn) 225 (0, 0)) ∧ Row (fun k => S k ∧ k < w.heap.size) w6 73 5 lv s.l.length (itL (mixed (epochOf l) s.l i)) ∧ KAt Gw.rightE (fun j => (SK j ∨ w.heap.size ≤ j) ∧ j < w2.heap.size) w6 kn ks' ∧ Fr (fun j => S j ∨ SK j) w.heap.size w w6 := fun a0 h => ⟨0, _, h, Nat.zero_le _, rfl, HG6.out, HL6.out, HK6.out, HF6.out⟩
   refine Ks.loop (fun m a wr => ∃ (i : Nat) (f : Nat → Value), a = cFrame g l i f ∧ i ≤ s.l.length ∧ m = s.l.length - i ∧ wr.heap[g]? = some (.cells (cellsR (s.raised l) lv kn) 225 (0, 0)) ∧ Row (fun k => S k ∧ k < w.heap.size) wr 73 5 lv s.l.length (itL (mixed (epochOf l) s.l i)) ∧ KAt Gw.rightE (fun j => (SK j ∨ w.heap.size ≤ j) ∧ j < w2.heap.size) wr kn ks' ∧ Fr (fun j => S j ∨ SK j) w.heap.size w wr) s.l.length (start _ rfl) ?_
   clear start HG6 HL6 HK6 HF6
   rintro m a wr ⟨i, f, rfl, hi, rfl, hG, hL, hK, hF⟩
   have fin : ∀ (a' : Act) (w' : World) i', a' = cFrame g l i' (fun j => a'.tmps.getD j undef) → i < i' → i' ≤ s.l.length → w'.heap[g]? = some (.cells (cellsR (s.raised l) lv kn) 225 (0, 0)) → Row (fun k => S k ∧ k < w.heap.size) w' 73 5 lv s.l.length (itL (mixed (epochOf l) s.l i')) → KAt Gw.rightE (fun j => (SK j ∨ w.heap.size ≤ j) ∧ j < w2.heap.size) w' kn ks' → Fr (fun j => S j ∨ SK j) w.heap.size w w' → ∃ m, m < s.l.length - i ∧ ∃ (i : Nat) (f : Nat → Value), a' = cFrame g l i f ∧ i ≤ s.l.length ∧ m = s.l.length - i ∧ w'.heap[g]? = some (.cells (cellsR (s.raised l) lv kn) 225 (0, 0)) ∧ Row (fun k => S k ∧ k < w.heap.size) w' 73 5 lv s.l.length (itL (mixed (epochOf l) s.l i)) ∧ KAt Gw.rightE (fun j => (SK j ∨ w.heap.size ≤ j) ∧ j < w2.heap.size) w' kn ks' ∧ Fr (fun j => S j ∨ SK j) w.heap.size w w' :=
    fun a' w' i' h1 h2 h3 h4 h5 h6 h7 => ⟨s.l.length - i', by omega, i', _, h1, h3, rfl, h4, h5, h6, h7⟩
   have Hfin : Hid _ := fin
   clear fin
   have HG : Hid (wr.heap[g]? = some (.cells (cellsR (s.raised l) lv kn) 225 (0, 0))) := hG
   have HL : Hid (Row (fun k => S k ∧ k < w.heap.size) wr 73 5 lv s.l.length (itL (mixed (epochOf l) s.l i))) := hL
   have HK : Hid (KAt Gw.rightE (fun j => (SK j ∨ w.heap.size ≤ j) ∧ j < w2.heap.size) wr kn ks') := hK
   have HF : Hid (Fr (fun j => S j ∨ SK j) w.heap.size w wr) := hF
   clear hG hL hK hF
   unfold cFrame
   refine wp_seq ?_
   refine wp_seq ?_
   refine Ks.reg ?_
   refine Ks.v (.int .i64 (i : Int)) ?_
   simp only [Act.put, zA, zB, zC]
   refine Ks.v (.pointer (some ⟨g, 0, none⟩)) ?_
   simp only [Act.put, zA, zB, zC]
   refine Ks.v (.pointer (some ⟨g, 0, none⟩)) ?_
   simp only [Act.put, zA, zB, zC]
   refine Ks.v (.pointer (some ⟨g, 5, none⟩)) ?_
   simp only [Act.put, zA, zB, zC]
   refine Ks.cell rfl _ _ rfl Tryz.underlying64 rfl g 5 lv rfl (row_at HG.out 5 rfl) ?_
   simp only [Act.put, zA, zB, zC]
   refine Ks.val rfl (.int .i64 (s.l.length : Int)) (by
    rcases Row.cases HL.out with ⟨rfl, h0, _⟩ | ⟨gb, cap, cur, rfl, _⟩
    ·rw [h0]
     kernel_rfl
    ·kernel_rfl) ?_
   simp only [Act.put, zA, zB, zC]
   refine Ks.v (.bool (decide ((i : Int) < s.l.length))) ?_
   simp only [Act.put, zA, zB, zC]
   refine Ks.done ?_
   refine wp_cond_split rfl ?_ ?_
   ·intro hlt
    have hlt : i < s.l.length := by have := of_decide_eq_true hlt; omega
    obtain ⟨y, hy⟩ : ∃ y, s.l[i]? = some y := ⟨_, List.getElem?_eq_getElem hlt⟩
    obtain ⟨gb, cap, cur, rfl, hgb, hcur, hc1, hc2, hc3, htk⟩ : ∃ gb cap cur, lv = .slice (some ⟨gb, 0, none⟩) s.l.length cap ∧ (S gb ∧ gb < w.heap.size) ∧ wr.heap[gb]? = some (.cells cur 73 (0, 0)) ∧ s.l.length ≤ cap ∧ cap ≤ maxLen ∧ cur.size = cap * 5 ∧ cur.toList.take (s.l.length * 5) = itL (mixed (epochOf l) s.l i) := by
     rcases Row.cases HL.out with ⟨_, h0, _⟩ | h
     ·omega
     ·exact h
    have HRg : Hid (wr.rangeAt gb (i * 5) (itC y)) := Row.range itC_len hcur htk (mixed_at hy)
    have hgbl := (Array.getElem?_eq_some_iff.1 hcur).1
    have hgg : gb ≠ g := hne gb rfl
    refine wp_skip ?_
    refine Ks.norm ?_
    refine wp_seq ?_
    refine wp_block ?_
    refine Qt.wp_tail 14 (by kernel_rfl) (by kernel_rfl) ?_
    simp only [List.take_succ_cons, List.take_zero]
    refine Qt.y_val rfl (.pointer (some ⟨g, 0, none⟩)) (fun _ _ => by kernel_rfl) ?_
    refine Qt.y_val rfl (.pointer (some ⟨g, 0, none⟩)) (fun _ _ => by kernel_rfl) ?_
    refine Qt.y_val rfl (.pointer (some ⟨g, 5, none⟩)) (fun _ _ => by kernel_rfl) ?_
    simp only [Act.put, zA, zB, zC]
    refine y_cell rfl _ _ rfl Tryz.underlying64 rfl g 5 _ rfl (Array.getElem?_eq_some_iff.1 HG.out).1 (row_at HG.out 5 rfl) ?_
    simp only [Act.put, zA, zB, zC]
    refine Qt.y_val rfl (.int .i64 (i : Int)) (fun _ _ => by kernel_rfl) ?_
    refine Qt.y_val rfl (.pointer (some ⟨g, 0, none⟩)) (fun _ _ => by kernel_rfl) ?_
    refine Qt.y_val rfl (.pointer (some ⟨g, 0, none⟩)) (fun _ _ => by kernel_rfl) ?_
    refine Qt.y_val rfl (.pointer (some ⟨g, 5, none⟩)) (fun _ _ => by kernel_rfl) ?_
    simp only [Act.put, zA, zB, zC]
    refine y_cell rfl _ _ rfl Tryz.underlying64 rfl g 5 _ rfl (Array.getElem?_eq_some_iff.1 HG.out).1 (row_at HG.out 5 rfl) ?_
    simp only [Act.put, zA, zB, zC]
    refine Qt.y_val rfl (.int .i64 (i : Int)) (fun _ _ => by kernel_rfl) ?_
    simp only [Act.put, zA, zB, zC]
    refine Ks.y_idx rfl _ _ _ rfl 73 5 Tryz.underlying64 (by kernel_rfl) (by kernel_rfl) gb _ cap i rfl rfl hlt ?_
    simp only [Act.put, zA, zB, zC]
    refine Qt.y_mid rfl _ _ rfl gb (i * 5) rfl (itC y) _ hgbl HRg.out Tryz.underlying73 rfl (by kernel_rfl) ?_
    simp only [Act.put, zA, zB, zC]
    refine Qt.y_val rfl (.int .i64 (epochOf l)) (fun _ _ => by kernel_rfl) ?_
    simp only [Act.put, zA, zB, zC]
    refine Qt.y_call rfl 206 #[itA y, .int .i64 (epochOf l)] (itA (fade (epochOf l) y)) (fun _ => by kernel_rfl) (fun w' _ => gone_r y (epochOf l) w') ?_
    simp only [Act.put, zA, zB, zC]
    refine Qt.y_nil ?_
    simp only [List.drop_succ_cons, List.drop_zero]
    intro w7 hb7
    refine Ks.idx (by kernel_rfl) _ _ _ rfl 73 5 Tryz.underlying64 (by kernel_rfl) (by kernel_rfl) gb _ cap i rfl rfl hlt ?_
    simp only [Act.put, zA, zB, zC]
    have hcur7 : w7.heap[gb]? = some (.cells cur 73 (0, 0)) := (hb7.block gb hgbl).trans hcur
    refine Ks.part rfl _ _ _ rfl gb (i * 5) (itC (fade (epochOf l) y)) rfl rfl hcur7 (by rw [itC_len, hc3]; omega) (by kernel_rfl) (by simp [itC, Value.oneCell']) (Ks.setL cur (i * 5) (itC (fade (epochOf l) y))) rfl ?_
    intro w8 HC8 H2 H3 H4
    simp only [Act.put]
    refine Ks.fin ?_
    refine Ks.inb ?_
    refine Ks.reg ?_
    refine Ks.v (.int .i64 (i : Int)) ?_
    simp only [Act.put, zA, zB, zC]
    refine Ks.val rfl (.int .i64 ((i + 1 : Nat) : Int)) (by
     simp [execOp, go_sem]
     rw [IntWalk.i64_in _ ⟨by omega, by omega⟩]) ?_
    simp only [Act.put, zA, zB, zC]
    refine Ks.v (.int .i64 ((i + 1 : Nat) : Int)) ?_
    simp only [Act.put, zA, zB, zC]
    refine Ks.done ?_
    have hrow8 : Row (fun k => S k ∧ k < w.heap.size) w8 73 5 (.slice (some ⟨gb, 0, none⟩) s.l.length cap) s.l.length (itL (mixed (epochOf l) s.l (i + 1))) := by
     refine ⟨⟨by rw [itL_len, mixed_len], Or.inr ⟨gb, cap, _, rfl, Nat.zero_le _, HC8.out, hc1, hc2, by rw [Ks.setL_size]; exact hc3, ?_⟩⟩, fun b hb => ?_⟩
     ·rw [← mixed_step hy]
      exact row_set (mixed_len _ _ _) (by rw [hc3]; omega) htk hlt _
     ·injection hb with hb
      subst hb
      exact hgb
    have hk8 : KAt Gw.rightE (fun j => (SK j ∨ w.heap.size ≤ j) ∧ j < w2.heap.size) w8 kn ks' := (KAt.below HK.out hb7).congr (fun _ h => h) fun j hj _ => H3.out j (fun e => by
     subst e
     exact hj.1.elim (fun h => hd _ hgb.1 h) (fun h => by have := hgb.2; omega))
    have hF8 : Fr (fun j => S j ∨ SK j) w.heap.size w w8 := (Fr.calls HF.out hb7 (Fr.size HF.out)).trans (H2.out _ _ (Or.inl (Or.inl hgb.1)))
    exact Hfin.out _ _ (i + 1) rfl (by omega) hlt ((H3.out g (fun e => hgg e.symm)).trans ((hb7.block g (Array.getElem?_eq_some_iff.1 HG.out).1).trans HG.out)) hrow8 hk8 hF8
   ·intro hlt
    obtain rfl : i = s.l.length := by have := of_decide_eq_false hlt; omega
    refine wp_exit ?_
    refine Ks.exit2 ?_
    refine Ks.norm ?_
    refine wp_seq ?_
    refine Ks.reg ?_
    refine Ks.v (.int .i64 0) ?_
    simp only [Act.put, zA, zB, zC]
    refine Ks.done ?_
    refine wp_ret ?_
    repeat (refine Ks.ret ?_)
    refine bodyPost_ret (v := .int .i64 0) (by simp [results, Tryz.results132]) rfl ?_
    rw [Hclo.out]
    rw [mixed_all] at HL
    refine ⟨rfl, fun k => S k ∧ k < w.heap.size, fun j => (SK j ∨ w.heap.size ≤ j) ∧ j < w2.heap.size, ks', fun j hj => Or.inl hj.1, fun j hj => hj.1, fun j hj hk => hk.1.elim (fun h => hd j hj.1 h) (fun h => by have := hj.2; omega), hks', ⟨hSg, lv, HG.out, ?_⟩, HK.out, HF.out⟩
    show Row _ _ _ _ _ (List.map _ s.l).length _
    rw [List.length_map]
    exact HL.out
theorem close_r {S SK : Nat → Prop} {w : World} {g kn : Nat} {s : St} {ks : List Asked} (h : RGate S w g s kn) (hK : KAt Gw.rightE SK w kn ks) (hd : ∀ j, S j → ¬ SK j) (hI : Inv s) (hn : ks.length ≤ 20000000000) (l : List UInt8) : Calls Tryz.prog 132 #[.pointer (some ⟨g, 0, none⟩), .string ⟨l.toArray⟩] w fun e w' => e = .returned (.int .i64 (cloE s l).1) ∧ Left S SK w w' g kn (cloE s l).2 ks.length := by
 by_cases hl : l.length ≠ 67 ∨ l.head? ≠ some 67
 ·refine (cloR_no g l hl w).mono ?_
  rintro e w' ⟨rfl, hb⟩
  have e1 : cloE s l = (4, s) := if_pos hl
  rw [e1]
  exact ⟨rfl, S, SK, ks, fun j hj => Or.inl hj, fun j hj => Or.inl hj, hd, Nat.le_succ _, h.below hb, hK.below hb, Fr.of_below hb (Nat.le_refl _)⟩
 ·have h1 : l.length = 67 := by
   apply Classical.byContradiction
   exact fun x => hl (Or.inl x)
  have h2 : l.head? = some 67 := by
   apply Classical.byContradiction
   exact fun x => hl (Or.inr x)
  exact cloR_yes h hK hd hI hn l h1 h2
end Gt
end Go.Proofs.YtbojijefenfbgaaGreatDoor
namespace Go.Proofs.YtbojijefenfbgaaGreatDoor
open Go Go.RowKit
namespace Gt
open Mp Bk Tk
structure Pr where
 x : Nat
 y : Nat
 s : St
 t : St
def prC (p : Pr) : List Value := [.pointer (some ⟨p.x, 0, none⟩), .pointer (some ⟨p.y, 0, none⟩)]
def prL (l : List Pr) : List Value := l.flatMap prC
theorem prL_snoc (l : List Pr) (x : Pr) : prL (l ++ [x]) = prL l ++ prC x := by simp [prL]
theorem prL_set (l : List Pr) (i : Nat) (p q : Pr) (h : l[i]? = some p) (hx : q.x = p.x) (hy : q.y = p.y) : prL (l.set i q) = prL l := by
 induction l generalizing i with
 | nil => rfl
 | cons z r ih =>
  cases i with
  | zero =>
   simp at h
   subst h
   simp [prL, prC, hx, hy]
  | succ i =>
   simp at h
   have := ih i h
   unfold prL at this ⊢
   rw [List.set_cons_succ, List.flatMap_cons, List.flatMap_cons, this]
def bookZ : Array Value := #[.slice none 0 0, .slice none 0 0, .slice none 0 0, .slice none 0 0, .slice none 0 0, .slice none 0 0, .slice none 0 0, .slice none 0 0, .slice none 0 0, .slice none 0 0, .int .i64 0]
def worldC (B K : Nat) (lv : Value) : Array Value := #[.pointer (some ⟨B, 0, none⟩), lv, .pointer (some ⟨K, 0, none⟩)]
structure WIn (O : Nat → Nat → Prop) (N : Nat) (w : World) (W B K : Nat) (ps : List Pr) (n : Nat) (lv : Value) (ks : List Asked) : Prop where
 one : ∀ b i j, O b i → O b j → i = j
 lt : ∀ b i, O b i → N ≤ b ∧ b < w.heap.size
 wN : N ≤ w.heap.size
 oW : O W 1
 oB : O B 2
 world : w.heap[W]? = some (.cells (worldC B K lv) 123 (0, 0))
 book : w.heap[B]? = some (.cells bookZ 32 (0, 0))
 row : Row (fun b => O b 3) w 132 2 lv ps.length (prL ps)
 known : KAt Gw.rightE (fun b => O b 4) w K ks
 nk : ks.length ≤ n
 np : ps.length ≤ n
 gates : ∀ i p, ps[i]? = some p → PGate (fun b => O b (5 + 2 * i)) w p.x p.s ∧ RGate (fun b => O b (6 + 2 * i)) w p.y p.t K ∧ Inv p.s ∧ Inv p.t
namespace WIn
variable {O : Nat → Nat → Prop} {N : Nat} {w w' : World} {W B K : Nat} {ps : List Pr} {n : Nat} {lv : Value} {ks : List Asked}
theorem below (h : WIn O N w W B K ps n lv ks) (hb : Below w.heap.size w w') : WIn O N w' W B K ps n lv ks := by
 have hs := hb.size
 refine ⟨h.one, fun b i hO => ⟨(h.lt b i hO).1, Nat.lt_of_lt_of_le (h.lt b i hO).2 hs⟩, Nat.le_trans h.wN hs, h.oW, h.oB, ?_, ?_, h.row.below hb (Nat.le_refl _), h.known.below hb, h.nk, h.np, fun i p hp => ?_⟩
 ·rw [hb.block W (h.lt W 1 h.oW).2]; exact h.world
 ·rw [hb.block B (h.lt B 2 h.oB).2]; exact h.book
 ·obtain ⟨h1, h2, h3, h4⟩ := h.gates i p hp
  exact ⟨h1.below hb, h2.below hb, h3, h4⟩
theorem more (h : WIn O N w W B K ps n lv ks) {m : Nat} (hm : n ≤ m) : WIn O N w W B K ps m lv ks :=
 ⟨h.one, h.lt, h.wN, h.oW, h.oB, h.world, h.book, h.row, h.known, Nat.le_trans h.nk hm, Nat.le_trans h.np hm, h.gates⟩
theorem belowN (h : WIn O N w W B K ps n lv ks) {U : Nat → Prop} (hf : Fr U w.heap.size w w') (hU : ∀ b, U b → ∃ i, O b i) : Below N w w' :=
 hf.below h.wN fun k hk hu => by
  obtain ⟨i, hi⟩ := hU k hu
  have := (h.lt k i hi).1
  omega
theorem turnP (h : WIn O N w W B K ps n lv ks) {i : Nat} {p : Pr} (hp : ps[i]? = some p) {s' : St} (hI : Inv s') (hf : Fr (fun b => O b (5 + 2 * i)) w.heap.size w w') (hg : PGate (fun b => O b (5 + 2 * i) ∨ w.heap.size ≤ b) w' p.x s') :
  ∃ O', WIn O' N w' W B K (ps.set i { p with s := s' }) n lv ks := by
 have hs := hf.size
 have hwN := h.wN
 refine ⟨fun b j => O b j ∨ (w.heap.size ≤ b ∧ b < w'.heap.size ∧ j = 5 + 2 * i), ?_⟩
 have hk : ∀ b j, O b j → j ≠ 5 + 2 * i → w'.heap[b]? = w.heap[b]? := fun b j hO hj => hf.block b (h.lt b j hO).2 fun hx => hj (h.one b j _ hO hx)
 have hlen : (ps.set i { p with s := s' }).length = ps.length := List.length_set
 refine ⟨?_, ?_, Nat.le_trans h.wN hs, Or.inl h.oW, Or.inl h.oB, ?_, ?_, ?_, ?_, h.nk, by rw [hlen]; exact h.np, ?_⟩
 ·rintro b j k (h1 | ⟨h1, h2, h3⟩) (h4 | ⟨h4, h5, h6⟩)
  ·exact h.one b j k h1 h4
  ·exact absurd (h.lt b j h1).2 (by omega)
  ·exact absurd (h.lt b k h4).2 (by omega)
  ·omega
 ·rintro b j (h1 | ⟨h1, h2, h3⟩)
  ·exact ⟨(h.lt b j h1).1, Nat.lt_of_lt_of_le (h.lt b j h1).2 hs⟩
  ·exact ⟨by omega, h2⟩
 ·rw [hk W 1 h.oW (by omega)]; exact h.world
 ·rw [hk B 2 h.oB (by omega)]; exact h.book
 ·rw [hlen, prL_set ps i p { p with s := s' } hp rfl rfl]
  exact (h.row.congr fun b hb => hk b 3 (h.row.2 b hb) (by omega)).mono fun b hb => Or.inl hb
 ·exact h.known.congr (fun b hb => Or.inl hb) fun b hb _ => hk b 4 hb (by omega)
 ·intro j q hq
  by_cases hj : j = i
  ·subst hj
   have hlt : j < ps.length := (List.getElem?_eq_some_iff.1 hp).1
   rw [List.getElem?_set_self hlt] at hq
   injection hq with hq
   subst hq
   obtain ⟨h1, h2, h3, h4⟩ := h.gates j p hp
   exact ⟨(hg.cut (Nat.le_refl _)).congr (fun b hb => hb.1.elim Or.inl fun hx => Or.inr ⟨hx, hb.2, rfl⟩) (fun _ _ _ => rfl), h2.congr (fun b hb => Or.inl hb) (fun b hb _ => hk b _ hb (by omega)), hI, h4⟩
  ·rw [List.getElem?_set_ne (fun e => hj e.symm)] at hq
   obtain ⟨h1, h2, h3, h4⟩ := h.gates j q hq
   exact ⟨h1.congr (fun b hb => Or.inl hb) (fun b hb _ => hk b _ hb (by omega)), h2.congr (fun b hb => Or.inl hb) (fun b hb _ => hk b _ hb (by omega)), h3, h4⟩
theorem turnR (h : WIn O N w W B K ps n lv ks) {i : Nat} {p : Pr} (hp : ps[i]? = some p) {t' : St} (hI : Inv t') (hL : Left (fun b => O b (6 + 2 * i)) (fun b => O b 4) w w' p.y K t' ks.length) :
  ∃ O' ks', WIn O' N w' W B K (ps.set i { p with t := t' }) (n + 1) lv ks' := by
 obtain ⟨S', SK', ks', e1, e2, e3, e4, hg, hK, hf⟩ := hL
 have hs := hf.size
 have hwN := h.wN
 refine ⟨fun b j => O b j ∨ (w.heap.size ≤ b ∧ b < w'.heap.size ∧ ((S' b ∧ j = 6 + 2 * i) ∨ (SK' b ∧ j = 4))), ks', ?_⟩
 have hk : ∀ b j, O b j → j ≠ 6 + 2 * i → j ≠ 4 → w'.heap[b]? = w.heap[b]? := fun b j hO hj hj4 => hf.block b (h.lt b j hO).2 fun hx => hx.elim (fun hx => hj (h.one b j _ hO hx)) (fun hx => hj4 (h.one b j _ hO hx))
 have hlen : (ps.set i { p with t := t' }).length = ps.length := List.length_set
 refine ⟨?_, ?_, Nat.le_trans h.wN hs, Or.inl h.oW, Or.inl h.oB, ?_, ?_, ?_, ?_, Nat.le_trans e4 (Nat.succ_le_succ h.nk), by rw [hlen]; exact Nat.le_succ_of_le h.np, ?_⟩
 ·rintro b j k (h1 | ⟨h1, h2, h3⟩) (h4 | ⟨h4, h5, h6⟩)
  ·exact h.one b j k h1 h4
  ·exact absurd (h.lt b j h1).2 (by omega)
  ·exact absurd (h.lt b k h4).2 (by omega)
  ·rcases h3 with ⟨h3, e⟩ | ⟨h3, e⟩ <;> rcases h6 with ⟨h6, f⟩ | ⟨h6, f⟩
   ·omega
   ·exact absurd h6 (e3 b h3)
   ·exact absurd h3 (e3 b h6)
   ·omega
 ·rintro b j (h1 | ⟨h1, h2, h3⟩)
  ·exact ⟨(h.lt b j h1).1, Nat.lt_of_lt_of_le (h.lt b j h1).2 hs⟩
  ·exact ⟨by omega, h2⟩
 ·rw [hk W 1 h.oW (by omega) (by omega)]; exact h.world
 ·rw [hk B 2 h.oB (by omega) (by omega)]; exact h.book
 ·rw [hlen, prL_set ps i p { p with t := t' } hp rfl rfl]
  exact (h.row.congr fun b hb => hk b 3 (h.row.2 b hb) (by omega) (by omega)).mono fun b hb => Or.inl hb
 ·refine (hK.cut (Nat.le_refl _)).congr (fun b hb => ?_) (fun _ _ _ => rfl)
  by_cases hlt : b < w.heap.size
  ·exact (e2 b hb.1).elim Or.inl fun hx => absurd hx (by omega)
  ·exact Or.inr ⟨by omega, hb.2, Or.inr ⟨hb.1, rfl⟩⟩
 ·intro j q hq
  by_cases hj : j = i
  ·subst hj
   have hlt : j < ps.length := (List.getElem?_eq_some_iff.1 hp).1
   rw [List.getElem?_set_self hlt] at hq
   injection hq with hq
   subst hq
   obtain ⟨h1, h2, h3, h4⟩ := h.gates j p hp
   refine ⟨h1.congr (fun b hb => Or.inl hb) (fun b hb _ => hk b _ hb (by omega) (by omega)), (hg.cut (Nat.le_refl _)).congr (fun b hb => ?_) (fun _ _ _ => rfl), h3, hI⟩
   by_cases hlt : b < w.heap.size
   ·exact (e1 b hb.1).elim Or.inl fun hx => absurd hx (by omega)
   ·exact Or.inr ⟨by omega, hb.2, Or.inl ⟨hb.1, rfl⟩⟩
  ·rw [List.getElem?_set_ne (fun e => hj e.symm)] at hq
   obtain ⟨h1, h2, h3, h4⟩ := h.gates j q hq
   exact ⟨h1.congr (fun b hb => Or.inl hb) (fun b hb _ => hk b _ hb (by omega) (by omega)), h2.congr (fun b hb => Or.inl hb) (fun b hb _ => hk b _ hb (by omega) (by omega)), h3, h4⟩
theorem push (h : WIn O N w W B K ps n lv ks) {p : Pr} {S1 S2 : Nat → Prop} (hx : PGate S1 w p.x p.s) (hy : RGate S2 w p.y p.t K) (hI : Inv p.s) (hJ : Inv p.t) (h1 : ∀ b, S1 b → N ≤ b ∧ b < w.heap.size ∧ ∀ i, ¬ O b i) (h2 : ∀ b, S2 b → N ≤ b ∧ b < w.heap.size ∧ ∀ i, ¬ O b i) (h12 : ∀ b, S1 b → ¬ S2 b)
  (hf : Fr (fun b => O b 1 ∨ O b 3) w.heap.size w w') {lv' : Value} (hw : w'.heap[W]? = some (.cells (worldC B K lv') 123 (0, 0))) (hr : Row (fun b => O b 3 ∨ w.heap.size ≤ b) w' 132 2 lv' (ps.length + 1) (prL ps ++ prC p)) :
  ∃ O', WIn O' N w' W B K (ps ++ [p]) (n + 1) lv' ks := by
 have hs := hf.size
 have hwN := h.wN
 refine ⟨fun b j => O b j ∨ (S1 b ∧ j = 5 + 2 * ps.length) ∨ (S2 b ∧ j = 6 + 2 * ps.length) ∨ (w.heap.size ≤ b ∧ b < w'.heap.size ∧ j = 3), ?_⟩
 have hk : ∀ b j, O b j → j ≠ 1 → j ≠ 3 → w'.heap[b]? = w.heap[b]? := fun b j hO hj hj4 => hf.block b (h.lt b j hO).2 fun hx => hx.elim (fun hx => hj (h.one b j _ hO hx)) (fun hx => hj4 (h.one b j _ hO hx))
 have hk2 : ∀ b, b < w.heap.size → (∀ i, ¬ O b i) → w'.heap[b]? = w.heap[b]? := fun b hb hO => hf.block b hb fun hx => hx.elim (hO 1) (hO 3)
 have hlen : (ps ++ [p]).length = ps.length + 1 := by simp
 refine ⟨?_, ?_, Nat.le_trans h.wN hs, Or.inl h.oW, Or.inl h.oB, hw, ?_, ?_, ?_, Nat.le_succ_of_le h.nk, by rw [hlen]; exact Nat.succ_le_succ h.np, ?_⟩
 ·rintro b j k (a | ⟨a, e⟩ | ⟨a, e⟩ | ⟨a, e, f⟩) (c | ⟨c, g⟩ | ⟨c, g⟩ | ⟨c, g, i⟩)
  ·exact h.one b j k a c
  ·exact absurd a ((h1 b c).2.2 j)
  ·exact absurd a ((h2 b c).2.2 j)
  ·exact absurd (h.lt b j a).2 (by omega)
  ·exact absurd c ((h1 b a).2.2 k)
  ·omega
  ·exact absurd c (h12 b a)
  ·exact absurd (h1 b a).2.1 (by omega)
  ·exact absurd c ((h2 b a).2.2 k)
  ·exact absurd a (h12 b c)
  ·omega
  ·exact absurd (h2 b a).2.1 (by omega)
  ·exact absurd (h.lt b k c).2 (by omega)
  ·exact absurd (h1 b c).2.1 (by omega)
  ·exact absurd (h2 b c).2.1 (by omega)
  ·omega
 ·rintro b j (a | ⟨a, e⟩ | ⟨a, e⟩ | ⟨a, e, f⟩)
  ·exact ⟨(h.lt b j a).1, Nat.lt_of_lt_of_le (h.lt b j a).2 hs⟩
  ·exact ⟨(h1 b a).1, Nat.lt_of_lt_of_le (h1 b a).2.1 hs⟩
  ·exact ⟨(h2 b a).1, Nat.lt_of_lt_of_le (h2 b a).2.1 hs⟩
  ·exact ⟨by omega, e⟩
 ·rw [hk B 2 h.oB (by omega) (by omega)]; exact h.book
 ·rw [hlen, prL_snoc]
  exact ⟨hr.1, fun b hb => (hr.2 b hb).elim Or.inl fun x => Or.inr (Or.inr (Or.inr ⟨x, hr.lt b hb, rfl⟩))⟩
 ·exact h.known.congr (fun b hb => Or.inl hb) fun b hb _ => hk b 4 hb (by omega) (by omega)
 ·intro j q hq
  by_cases hj : j = ps.length
  ·subst hj
   rw [List.getElem?_append_right (Nat.le_refl _), Nat.sub_self] at hq
   simp at hq
   subst hq
   exact ⟨hx.congr (fun b hb => Or.inr (Or.inl ⟨hb, rfl⟩)) (fun b hb _ => hk2 b (h1 b hb).2.1 (h1 b hb).2.2), hy.congr (fun b hb => Or.inr (Or.inr (Or.inl ⟨hb, rfl⟩))) (fun b hb _ => hk2 b (h2 b hb).2.1 (h2 b hb).2.2), hI, hJ⟩
  ·have hlt : j < ps.length := by
    have := (List.getElem?_eq_some_iff.1 hq).1
    rw [hlen] at this
    omega
   rw [List.getElem?_append_left hlt] at hq
   obtain ⟨h1, h2, h3, h4⟩ := h.gates j q hq
   exact ⟨h1.congr (fun b hb => Or.inl hb) (fun b hb _ => hk b _ hb (by omega) (by omega)), h2.congr (fun b hb => Or.inl hb) (fun b hb _ => hk b _ hb (by omega) (by omega)), h3, h4⟩
end WIn
end Gt
end Go.Proofs.YtbojijefenfbgaaGreatDoor

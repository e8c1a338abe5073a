/- Walk of the program's gate: unheard. Walk of the program's gate: Tell. Walks of the program's talk: what may be news. Walks of the program's talk: AreItems. Walks of the program's gate: takes, hearOrder. -/
import Derived.Test.YtbojijefenfbgaaGreatDoorTtTalkE
set_option maxRecDepth 100000
namespace Go.Proofs.YtbojijefenfbgaaGreatDoor
open Go Go.RowKit
namespace Gt
open Mp Bk Tk
def y4g (g : Nat) (dv : Value) (most b4 : Nat) (lv : Value) (p : Option Addr) (n cap k : Nat) (f : Nat → Value) : Act := { tmps := #[.pointer (some ⟨g, 0, none⟩), dv, .int .i64 (most : Int), f 3, .pointer (some ⟨b4, 0, none⟩), f 5, .slice none 0 0, lv, f 8, f 9, f 10, f 11, f 12, f 13, f 14, .slice p n cap, .int .i64 (n : Int), .int .i64 (k : Int), f 18, f 19, f 20, f 21, f 22, f 23, f 24, f 25, f 26, f 27, f 28, f 29, f 30, f 31, f 32, f 33, f 34, f 35, f 36, f 37, f 38, f 39, f 40, f 41, f 42, f 43, f 44, f 45], defers := [] }
structure k2f {S T : Nat → Prop} (w w3 : World) (g : Nat) (s : St) (F : Int) (sv : Value) (l : List (Sn × Value)) (b4 : Nat) (out : List It) (lv : Value) (wr : World) : Prop where
 gate : z0h S wr g s
 dig : z1e T wr sv l
 box : wr.heap[b4]? = some (.cells #[.int .i64 F, sv] 71 (0, 0))
 row : Row (fun k => w3.heap.size ≤ k) wr 73 5 lv out.length (itL out)
 low : w.heap.size ≤ w3.heap.size
 b4 : b4 < w3.heap.size
 below3 : Below w3.heap.size w3 wr
 below : Below w.heap.size w wr
theorem k2f.later {S T : Nat → Prop} {w w3 : World} {g : Nat} {s : St} {F : Int} {sv : Value} {l : List (Sn × Value)} {b4 : Nat} {out : List It} {lv : Value} {wr w' : World} (h : k2f (S := S) (T := T) w w3 g s F sv l b4 out lv wr) (hb : Below wr.heap.size wr w') : k2f (S := S) (T := T) w w3 g s F sv l b4 out lv w' :=
 ⟨h.gate.below hb, h.dig.below hb, (hb.block b4 (aL h.box)).trans h.box, h.row.below hb (Nat.le_refl _), h.low, h.b4, h.below3.trans (hb.mono h.below3.size), h.below.trans (hb.mono h.below.size)⟩
theorem q9b : (Tryz.prog.info? 73).map (fun i => (i.zero, i.size, i.bytes)) = some (some (.agg #[.int .i64 0, .int .i64 0, .int .i64 0, .int .i64 0, .bool false]), 5, 40) := by kernel_rfl
theorem x9x {S T : Nat → Prop} {w : World} {g : Nat} {s : St} (h : z0h S w g s) (hI : Inv s) (F : Int) (sv : Value) (l : List (Sn × Value)) (most : Nat) (hd : z1e T w sv l) (hl : l.length ≤ 1000000000) (hm : ∀ p ∈ l, p.1.more.length ≤ 1000000000 ∧ p.1.more.Pairwise (· < ·)) :
  Calls Tryz.prog 74 #[.pointer (some ⟨g, 0, none⟩), .agg #[.int .i64 F, sv], .int .i64 (most : Int)] w fun e w' => ∃ v, e = .returned v ∧ Row (fun k => w.heap.size ≤ k) w' 73 5 v (z7f s.l (l.map Prod.fst) most).length (itL (z7f s.l (l.map Prod.fst) most)) ∧ Below w.heap.size w w' := by
 have hfew := hI.few
 obtain ⟨D, hD⟩ : ∃ D, D = l.map Prod.fst := ⟨_, rfl⟩
 rw [← hD]
 have hsv : (Value.agg #[.int .i64 F, sv]).cells = #[.int .i64 F, sv] := by
  rcases hd.row.1.2 with ⟨rfl, _⟩ | ⟨g, cap, cur, rfl, _⟩ <;> rfl
 go_enter Tryz.func74, Tryz.ntmps74
 refine wp_seq ?_
 refine Ks.reg ?_
 refine Ks.box rfl _ _ rfl #[.int .i64 F, sv] hsv ?_
 intro w1 b4 Hb4 HX1 HB1 HS1
 simp only [zD]
 refine Ks.v (.slice none 0 0) ?_
 simp only [zD]
 refine Ks.done ?_
 refine wp_seq ?_
 refine Ks.reg ?_
 refine Ks.v (.slice none 0 0) ?_
 simp only [zD]
 refine Ks.done ?_
 refine wp_seq ?_
 refine wp_seq ?_
 refine Ks.reg ?_
 refine Ks.v (.pointer (some ⟨g, 0, none⟩)) ?_
 simp only [zD]
 refine Ks.v (.pointer (some ⟨g, 0, none⟩)) ?_
 simp only [zD]
 refine Ks.v (.pointer (some ⟨g, 3, none⟩)) ?_
 simp only [zD]
 refine Ks.call rfl 88 #[.pointer (some ⟨g, 3, none⟩)] (by kernel_rfl) (z9c (h.below HB1.out) hI) ?_
 rintro v w2 ⟨hrow, hb2⟩
 simp only [zD]
 obtain ⟨p, cap, rfl, z3s⟩ := Row.form hrow
 refine Ks.v (.int .i64 (s.l.length : Int)) ?_
 simp only [zD]
 refine Ks.v (.int .i64 0) ?_
 simp only [zD]
 refine Ks.done ?_
 have hB2 : Below w.heap.size w w2 := HB1.out.trans (hb2.mono HB1.out.size)
 have hb4l : b4 < w2.heap.size := Nat.lt_of_lt_of_le (aL HX1.out) hb2.size
 refine wp_block ?_
 refine Ks.loop (fun m a wr => ∃ (k : Nat) (lv : Value) (f : Nat → Value), k ≤ s.l.length ∧ m = s.l.length - k ∧ ((s.l.take k).filter fun x => !has D x.key).length ≤ most ∧ k2f (S := S) (T := T) w w2 g s F sv l b4 ((s.l.take k).filter fun x => !has D x.key) lv wr ∧ a = y4g g (.agg #[.int .i64 F, sv]) most b4 lv p s.l.length cap k f) s.l.length ?_ ?_
 ·refine ⟨0, .slice none 0 0, fun j => Array.getD #[undef, undef, undef, undef, undef, undef, undef, undef, undef, undef, undef, undef, .pointer (some ⟨g, 0, none⟩), .pointer (some ⟨g, 0, none⟩), .pointer (some ⟨g, 3, none⟩)] j undef, Nat.zero_le _, rfl, by simp, ⟨(h.below HB1.out).below hb2, (hd.below HB1.out).below hb2, (hb2.block b4 (aL HX1.out)).trans HX1.out, Row.nil _ _ _ _, hB2.size, hb4l, Below.refl _ _, hB2⟩, rfl⟩
 clear HX1 HB1 HS1 Hb4 hsv
 rintro m a wr ⟨k, lv, f, hk, rfl, hlen, hU, rfl⟩
 have fin : ∀ (a' : Act) (w' : World) (k' : Nat) (lv : Value), k < k' → k' ≤ s.l.length → ((s.l.take k').filter fun x => !has D x.key).length ≤ most → k2f (S := S) (T := T) w w2 g s F sv l b4 ((s.l.take k').filter fun x => !has D x.key) lv w' → a' = y4g g (.agg #[.int .i64 F, sv]) most b4 lv p s.l.length cap k' (fun j => a'.tmps.getD j undef) → ∃ m, m < s.l.length - k ∧ ∃ (k : Nat) (lv : Value) (f : Nat → Value), k ≤ s.l.length ∧ m = s.l.length - k ∧ ((s.l.take k).filter fun x => !has D x.key).length ≤ most ∧ k2f (S := S) (T := T) w w2 g s F sv l b4 ((s.l.take k).filter fun x => !has D x.key) lv w' ∧ a' = y4g g (.agg #[.int .i64 F, sv]) most b4 lv p s.l.length cap k f := fun a' w' k' lv q1 q2 q3 q4 q5 => ⟨s.l.length - k', by omega, k', lv, _, q2, rfl, q3, q4, q5⟩
 have hretp : z7f s.l D most = (s.l.take k).filter (fun x => !has D x.key) → Row (fun k => w.heap.size ≤ k) wr 73 5 lv (z7f s.l D most).length (itL (z7f s.l D most)) := fun e => by rw [e]; exact hU.row.mono fun j hj => Nat.le_trans hU.low hj
 unfold y4g
 refine wp_seq ?_
 refine Ks.reg ?_
 refine Ks.v (.bool (decide ((k : Int) < s.l.length))) ?_
 simp only [zD]
 refine Ks.done ?_
 refine wp_seq ?_
 refine wp_cond_split rfl ?_ ?_
 ·intro hlt
  have hlt : k < s.l.length := by have := of_decide_eq_true hlt; omega
  obtain ⟨gh, cur, rfl, hgh, htk⟩ := z3s k hlt
  have hghl := (aL hgh)
  obtain ⟨x, hx⟩ : ∃ x, s.l[k] = x := ⟨_, rfl⟩
  have hxk : s.l[k]? = some x := by rw [List.getElem?_eq_getElem hlt, hx]
  have hin : x ∈ s.l := List.mem_of_getElem? hxk
  have hrg : wr.rangeAt gh (k * 2) (kC x.key) := z1v (Row.range y6p hgh htk (by rw [List.getElem?_map, hxk]; rfl)) hU.below3 hghl
  refine wp_skip ?_
  refine Ks.norm ?_
  refine wp_seq ?_
  refine wp_block ?_
  refine wp_seq ?_
  refine Ks.reg ?_
  refine Ks.idx (by kernel_rfl) _ _ _ rfl 154 2 Tryz.underlying167 (by kernel_rfl) (by kernel_rfl) gh s.l.length cap k rfl rfl hlt ?_
  simp only [zD]
  refine Ks.mid rfl _ _ rfl gh (k * 2) rfl (kC x.key) hrg Tryz.underlying154 rfl (by kernel_rfl) ?_
  simp only [zD]
  refine Ks.decl rfl _ rfl (.agg #[.int .i64 0, .int .i64 0]) (by kernel_rfl) rfl _ _ rfl #[.int .i64 x.gate, .int .i64 x.adm] (fun _ => rfl) (fun _ => rfl) (by kernel_rfl) rfl (by kernel_rfl) ?_
  intro wa b9 Hb9 HA HBa
  replace hU := hU.later HBa.out
  simp only [zD]
  refine Ks.done ?_
  obtain ⟨q, cq, rfl, hq⟩ := Row.form hU.row
  refine wp_seq ?_
  refine wp_seq ?_
  refine Ks.reg ?_
  refine Ks.v (.slice q ((s.l.take k).filter fun x => !has D x.key).length cq) ?_
  simp only [zD]
  refine Ks.v (.int .i64 (((s.l.take k).filter fun x => !has D x.key).length : Int)) ?_
  simp only [zD]
  refine Ks.v (.int .i64 (most : Int)) ?_
  simp only [zD]
  refine Ks.v (.bool (decide ((((s.l.take k).filter fun x => !has D x.key).length : Int) = (most : Int)))) ?_
  simp only [zD]
  refine Ks.done ?_
  refine wp_cond_split rfl ?_ ?_
  ·intro he
   have he : ((s.l.take k).filter fun x => !has D x.key).length = most := by have := of_decide_eq_true he; omega
   have htell := x4v he
   refine wp_exit ?_
   refine Ks.k8u (by decide) ?_
   refine Ks.norm ?_
   refine wp_seq ?_
   refine Ks.reg ?_
   refine Ks.v (.slice q ((s.l.take k).filter fun x => !has D x.key).length cq) ?_
   simp only [zD]
   refine Ks.v (.slice q ((s.l.take k).filter fun x => !has D x.key).length cq) ?_
   simp only [zD]
   refine Ks.done ?_
   refine wp_ret ?_
   repeat (refine Ks.ret ?_)
   refine bodyPost_ret (v := .slice q ((s.l.take k).filter fun x => !has D x.key).length cq) (by simp [results, Tryz.results74]) rfl ?_
   exact ⟨_, rfl, by rw [htell]; exact hU.row.mono fun j hj => Nat.le_trans hU.low hj, hU.below⟩
  ·intro he
   have he : ((s.l.take k).filter fun x => !has D x.key).length ≠ most := fun e => by have := of_decide_eq_false he; omega
   have hfl : ((s.l.take k).filter fun x => !has D x.key).length ≤ 16000 := Nat.le_trans (List.length_filter_le _ _) (by rw [List.length_take]; omega)
   have htk1 : ((s.l.take (k + 1)).filter fun x => !has D x.key) = ((s.l.take k).filter fun x => !has D x.key) ++ if has D x.key then [] else [x] := by
    rw [z3a hxk, List.filter_append]
    cases hh : has D x.key <;> simp [hh]
   generalize ((s.l.take k).filter fun x => !has D x.key) = out at *
   refine wp_skip ?_
   refine Ks.norm ?_
   refine wp_seq ?_
   refine Ks.reg ?_
   refine Ks.row rfl _ _ rfl b4 rfl hU.box Tryz.underlying71 rfl (by kernel_rfl) ?_
   simp only [zD]
   refine Ks.row rfl _ _ rfl b9 rfl HA.out Tryz.underlying154 rfl (by kernel_rfl) ?_
   simp only [zD]
   refine Ks.pure (by kernel_rfl) 146 #[.agg #[.int .i64 F, sv], .agg #[.int .i64 x.gate, .int .i64 x.adm]] (by kernel_rfl) (k9a wa F sv l x.gate x.adm hU.dig hl hm) ?_
   intro wb hbb
   rw [← hD]
   replace hU := hU.later hbb
   have HA2 : wb.heap[b9]? = some (.cells #[.int .i64 x.gate, .int .i64 x.adm] 154 (0, 0)) := (hbb.block b9 (aL HA.out)).trans HA.out
   have hxe : has D (x.gate, x.adm) = has D x.key := rfl
   rw [hxe]
   simp only [zD]
   refine Ks.v (.bool (!has D x.key)) ?_
   simp only [zD]
   refine Ks.done ?_
   cases hh : has D x.key with
   | true =>
    rw [hh] at htk1
    refine wp_cond_false rfl ?_
    refine wp_skip ?_
    refine Ks.inb ?_
    refine Ks.reg ?_
    refine Ks.val rfl (.int .i64 ((k + 1 : Nat) : Int)) (by
     simp [execOp, go_sem]
     rw [IntWalk.i64_in _ ⟨by omega, by omega⟩]) ?_
    simp only [zD]
    refine Ks.v (.int .i64 ((k + 1 : Nat) : Int)) ?_
    simp only [zD]
    refine Ks.done ?_
    have e1 : ((s.l.take (k + 1)).filter fun x => !has D x.key) = out := by rw [htk1]; simp
    exact fin _ wb (k + 1) _ (by omega) hlt (by rw [e1]; exact hlen) (by rw [e1]; exact hU) rfl
   | false =>
    rw [hh] at htk1
    refine wp_cond_true rfl ?_
    refine wp_seq ?_
    have hb9l := (aL HA2)
    refine Qt.z9a 8 (by kernel_rfl) (by kernel_rfl) _ _ rfl rfl 150 rfl #[.int .i64 0, .int .i64 0] (by kernel_rfl) _ _ rfl #[.int .i64 (z5s x).1, .int .i64 (z5s x).2] (by kernel_rfl) rfl (by kernel_rfl) ?_
    simp only [List.take_succ_cons, List.take_zero]
    refine Qt.z0b rfl (.pointer (some ⟨g, 0, none⟩)) (fun _ _ => by kernel_rfl) ?_
    simp only [zD]
    refine Qt.z0b rfl (.pointer (some ⟨g, 0, none⟩)) (fun _ _ => by kernel_rfl) ?_
    simp only [zD]
    refine Qt.z0b rfl (.pointer (some ⟨g, 3, none⟩)) (fun _ _ => by kernel_rfl) ?_
    simp only [zD]
    refine Qt.z7g rfl _ _ rfl _ rfl _ _ _ _ HA2 Tryz.underlying154 rfl (by kernel_rfl) ?_
    simp only [zD]
    refine Qt.z0e rfl 147 #[.pointer (some ⟨g, 3, none⟩), two x.key] (.tuple #[two (z5s x), .bool (!x.gone)]) (fun _ => by kernel_rfl) (fun w' hb => k5z (hU.gate.below hb) hI.rises x hin) ?_
    simp only [zD]
    refine Qt.z0b rfl (.tuple #[two (z5s x), .bool (!x.gone)]) (fun _ _ => by kernel_rfl) ?_
    simp only [zD]
    refine Qt.z0b rfl (two (z5s x)) (fun _ _ => by kernel_rfl) ?_
    simp only [zD]
    refine Qt.z0b rfl (.bool (!x.gone)) (fun _ _ => by kernel_rfl) ?_
    simp only [zD]
    refine Qt.z1a ⟨fun _ => rfl, fun _ => rfl, ?_⟩
    intro b10 wc hb10 HP hbc
    replace hU := hU.later hbc
    have HA3 : wc.heap[b9]? = some (.cells #[.int .i64 x.gate, .int .i64 x.adm] 154 (0, 0)) := (hbc.block b9 hb9l).trans HA2
    simp only [List.setIfInBounds_toArray, List.set_cons_zero, List.set_cons_succ]
    refine Ks.v (.bool (!x.gone)) ?_
    simp only [zD]
    refine Ks.done ?_
    refine Ks.reg ?_
    refine Ks.v (.slice q out.length cq) ?_
    simp only [zD]
    refine Ks.row rfl _ _ rfl b9 rfl HA3 Tryz.underlying154 rfl (by kernel_rfl) ?_
    simp only [zD]
    refine Ks.row rfl _ _ rfl b10 rfl HP Tryz.underlying150 rfl (by kernel_rfl) ?_
    simp only [zD]
    refine Ks.v (.bool (!x.gone)) ?_
    simp only [zD]
    refine Ks.pure (by kernel_rfl) 148 #[two x.key, two (z5s x), .bool (!x.gone)] (by kernel_rfl) (k4x x.key (z5s x) (!x.gone) wc) ?_
    intro wd hbd
    rw [k4w hI hin]
    replace hU := hU.later hbd
    simp only [zD]
    refine Ks.push rfl rfl 64 73 _ _ _ rfl rfl (itV x) (.agg #[.int .i64 0, .int .i64 0, .int .i64 0, .int .i64 0, .bool false]) rfl (itC x).toArray 5 40 Tryz.underlying64 q9b (by decide) (by decide) (by kernel_rfl) rfl (by decide) _ _ out.length (itL out) (fun _ => rfl) (fun _ => rfl) hU.row rfl (by simp [itC, Value.oneCell']) (by omega) ?_
    intro u lv' we hr hf
    have hbe : Below w2.heap.size w2 we := hU.below3.trans (hf.below hU.below3.size fun j hj e => by have := hU.row.2 j e; omega)
    simp only [zD]
    refine Ks.v (lv') ?_
    simp only [zD]
    refine Ks.fin ?_
    refine Ks.inb ?_
    refine Ks.reg ?_
    refine Ks.val rfl (.int .i64 ((k + 1 : Nat) : Int)) (by
     simp [execOp, go_sem]
     rw [IntWalk.i64_in _ ⟨by omega, by omega⟩]) ?_
    simp only [zD]
    refine Ks.v (.int .i64 ((k + 1 : Nat) : Int)) ?_
    simp only [zD]
    refine Ks.done ?_
    have e1 : ((s.l.take (k + 1)).filter fun x => !has D x.key) = out ++ [x] := by rw [htk1]; simp
    refine fin _ we (k + 1) lv' (by omega) hlt (by rw [e1]; simp; omega) ?_ rfl
    rw [e1]
    have hBw : Below w.heap.size w we := hB2.trans (hbe.mono hB2.size)
    refine ⟨h.below hBw, hd.below hBw, (hbe.block b4 hU.b4).trans ((hU.below3.block b4 hU.b4).symm.trans hU.box), ?_, hU.low, hU.b4, hbe, hBw⟩
    rw [q2o, List.length_append]
    exact hr.mono fun j hj => hj.elim id fun h => Nat.le_trans hU.below3.size h
 ·intro hlt
  obtain rfl : k = s.l.length := by have := of_decide_eq_false hlt; omega
  rw [List.take_of_length_le (Nat.le_refl _)] at hlen hretp
  have htell := x9s hlen
  refine wp_exit ?_
  refine Ks.z3r ?_
  refine Ks.norm ?_
  refine wp_seq ?_
  refine Ks.reg ?_
  refine Ks.v (lv) ?_
  simp only [zD]
  refine Ks.v (lv) ?_
  simp only [zD]
  refine Ks.done ?_
  refine wp_ret ?_
  repeat (refine Ks.ret ?_)
  refine bodyPost_ret (v := lv) (by simp [results, Tryz.results74]) rfl ?_
  exact ⟨_, rfl, hretp htell, hU.below⟩
end Gt
open Go Go.RowKit
namespace Gt
open Mp Bk Tk
theorem q1l {F : Int} {D : List Sn} (h : z8t F D = true) : ∀ s ∈ D, s.more.Pairwise (· < ·) := by
 unfold z8t at h
 rw [Bool.and_eq_true] at h
 intro s hs
 have h2 := ((z9j h.2).2 s hs).2.2
 unfold x1s at h2
 simp only [Bool.and_eq_true] at h2
 exact (z9i h2.2).1
def x2q (b6 b8 : Nat) (f : Nat → Value) : Act := { tmps := #[f 0, f 1, f 2, f 3, f 4, f 5, .pointer (some ⟨b6, 0, none⟩), f 7, .pointer (some ⟨b8, 0, none⟩), f 9, f 10, f 11, f 12, f 13, f 14, f 15, f 16, f 17, f 18, f 19, f 20, f 21, f 22, f 23, f 24, f 25, f 26, f 27, f 28, f 29, f 30, f 31, f 32, f 33, f 34, f 35, f 36, f 37], defers := [] }
theorem z0h.q3i {S : Nat → Prop} {w : World} {g : Nat} {s : St} (h : z0h S w g s) : w.cell? ⟨g, 7, none⟩ = some (str s.order) := by
 obtain ⟨_, vh, vd, vu, hg, _⟩ := h
 exact z0c hg 7 rfl
theorem y4x {S T : Nat → Prop} {w : World} {g : Nat} {s : St} (h : z0h S w g s) (hI : Inv s) (F : Int) (sv : Value) (l : List (Sn × Value)) (most : Nat) (hd : z1e T w sv l) (hl : l.length ≤ 1000000000) (hm : ∀ p ∈ l, p.1.more.length ≤ 1000000000) (hyes : z8t F (l.map Prod.fst) = true) :
  Calls Tryz.prog 28 #[.pointer (some ⟨g, 0, none⟩), .agg #[.int .i64 F, sv], .int .i64 (most : Int)] w fun e w' => ∃ u, e = .returned u ∧ (∃ hv, u = .tuple #[.agg #[str (if F < s.floor then s.order else []), hv], .int .i64 0] ∧ Row (fun k => w.heap.size ≤ k) w' 73 5 hv (z7f s.l (l.map Prod.fst) most).length (itL (z7f s.l (l.map Prod.fst) most))) ∧ Below w.heap.size w w' := by
 have hmr := q1l hyes
 obtain ⟨tl, htl⟩ : ∃ tl, tl = z7f s.l (l.map Prod.fst) most := ⟨_, rfl⟩
 obtain ⟨od, hod⟩ : ∃ od, od = if F < s.floor then s.order else [] := ⟨_, rfl⟩
 rw [← htl, ← hod]
 have hm2 : ∀ p ∈ l, p.1.more.length ≤ 1000000000 ∧ p.1.more.Pairwise (· < ·) := fun p hp => ⟨hm p hp, hmr p.1 (List.mem_map.2 ⟨p, hp, rfl⟩)⟩
 have hsv : (Value.agg #[.int .i64 F, sv]).cells = #[.int .i64 F, sv] := by
  rcases hd.row.1.2 with ⟨rfl, _⟩ | ⟨g, cap, cur, rfl, _⟩ <;> rfl
 have HI : Hid (∀ w', Below w.heap.size w w' → Calls Tryz.prog 73 #[.agg #[.int .i64 F, sv]] w' fun e w'' => e = .returned (.bool true) ∧ Below w'.heap.size w' w'') := fun w' hb => by rw [← hyes]; exact x3v w' F sv l (hd.below hb) hl hm
 go_enter Tryz.func28, Tryz.ntmps28
 refine wp_seq ?_
 refine Ks.reg ?_
 refine Ks.box rfl _ _ rfl #[.int .i64 F, sv] hsv ?_
 intro w1 b4 Hb4 HX1 HB1 HS1
 simp only [zD]
 refine Ks.alloc rfl _ rfl (.agg #[.string ⟨#[]⟩, .slice none 0 0]) (by kernel_rfl) #[.string ⟨#[]⟩, .slice none 0 0] rfl ?_
 intro w2 b6 Hb6 HR2 HB2 HS2
 have HX2 : Hid (w2.heap[b4]? = some (.cells #[.int .i64 F, sv] 71 (0, 0))) := (HB2.out.block _ (aL HX1.out)).trans HX1.out
 have HB : Hid (Below w.heap.size w w2) := HB1.out.trans (HB2.out.mono HB1.out.size)
 have hb6 : w.heap.size ≤ b6 := by rw [Hb6.out]; exact HB1.out.size
 clear HX1 HB1 HB2 HS1 HS2 Hb4 Hb6
 simp only [zD]
 refine Ks.v (.int .i64 0) ?_
 simp only [zD]
 refine Ks.done ?_
 refine wp_seq ?_
 refine wp_seq ?_
 refine Ks.reg ?_
 refine Ks.row rfl _ _ rfl b4 rfl HX2.out Tryz.underlying71 rfl (by kernel_rfl) ?_
 simp only [zD]
 refine Ks.pure (by kernel_rfl) 73 #[.agg #[.int .i64 F, sv]] (by kernel_rfl) (HI.out w2 HB.out) ?_
 intro w3 hb3
 have HR3 : Hid (w3.heap[b6]? = some (.cells #[.string ⟨#[]⟩, .slice none 0 0] 66 (0, 0))) := (hb3.block _ (aL HR2.out)).trans HR2.out
 have HX3 : Hid (w3.heap[b4]? = some (.cells #[.int .i64 F, sv] 71 (0, 0))) := (hb3.block _ (aL HX2.out)).trans HX2.out
 have HB3 : Hid (Below w.heap.size w w3) := HB.out.trans (hb3.mono HB.out.size)
 clear HR2 HX2 HB hb3
 simp only [zD]
 refine Ks.v (.bool false) ?_
 simp only [zD]
 refine Ks.v (.bool false) ?_
 simp only [zD]
 refine Ks.g (.int .i64 (most : Int)) ?_
 simp only [zD]
 refine Ks.y8b (by kernel_rfl) (.bool false) (by simp [execOp, go_sem]) ?_
 simp only [zD]
 refine Ks.v (.bool false) ?_
 simp only [zD]
 refine Ks.done ?_
 refine wp_cond_false rfl ?_
 refine wp_skip ?_
 refine Ks.norm ?_
 refine wp_seq ?_
 refine wp_seq ?_
 refine Ks.reg ?_
 refine Ks.v (.pointer (some ⟨g, 0, none⟩)) ?_
 simp only [zD]
 refine Ks.v (.bool false) ?_
 simp only [zD]
 refine Ks.done ?_
 refine wp_cond_false rfl ?_
 refine wp_skip ?_
 refine Ks.norm ?_
 refine wp_seq ?_
 refine Ks.reg ?_
 refine Ks.v (.pointer (some ⟨g, 0, none⟩)) ?_
 simp only [zD]
 refine Ks.row rfl _ _ rfl b4 rfl HX3.out Tryz.underlying71 rfl (by kernel_rfl) ?_
 simp only [zD]
 refine Ks.v (.int .i64 (most : Int)) ?_
 simp only [zD]
 refine Ks.call rfl 74 #[.pointer (some ⟨g, 0, none⟩), .agg #[.int .i64 F, sv], .int .i64 (most : Int)] (by kernel_rfl) (x9x (h.below HB3.out) hI F sv l most (hd.below HB3.out) hl hm2) ?_
 rintro hv w4 ⟨hrow, hb4⟩
 rw [← htl] at hrow
 have hone := Row.one hrow
 simp only [zD]
 refine Ks.val rfl (.agg #[.string ⟨#[]⟩, hv]) (by
  obtain ⟨q, cq, rfl, -⟩ := Row.form hrow
  kernel_rfl) ?_
 simp only [zD]
 refine Ks.decl rfl _ rfl (.agg #[.string ⟨#[]⟩, .slice none 0 0]) (by kernel_rfl) rfl _ _ rfl #[.string ⟨#[]⟩, hv] (fun _ => rfl) (fun _ => rfl) (by kernel_rfl) rfl (by
  simp [Value.oneCell'] at hone ⊢
  exact hone) ?_
 intro w5 b8 Hb8 HN5 HB5
 have hb45 : Below w3.heap.size w3 w5 := hb4.trans (HB5.out.mono hb4.size)
 have HR5 : Hid (w5.heap[b6]? = some (.cells #[.string ⟨#[]⟩, .slice none 0 0] 66 (0, 0))) := (hb45.block _ (aL HR3.out)).trans HR3.out
 have HX5 : Hid (w5.heap[b4]? = some (.cells #[.int .i64 F, sv] 71 (0, 0))) := (hb45.block _ (aL HX3.out)).trans HX3.out
 have hrow5 := hrow.below HB5.out (Nat.le_refl _)
 have hB5 : Below w.heap.size w w5 := HB3.out.trans (hb45.mono HB3.out.size)
 have h3w : w.heap.size ≤ w3.heap.size := HB3.out.size
 have h86 : b8 ≠ b6 := fun e => by
  have h1 := (aL HR3.out)
  have h2 := Hb8.out
  have h3 := hb4.size
  omega
 have hb8w : w.heap.size ≤ b8 := Nat.le_trans (Nat.le_trans h3w hb4.size) Hb8.out
 clear HR3 HX3 HB3 hb4 hb45 HB5 hrow Hb8
 simp only [zD]
 refine Ks.done ?_
 refine Ks.cut (fun a' w' => w'.heap[b6]? = some (.cells #[.string ⟨#[]⟩, .slice none 0 0] 66 (0, 0)) ∧ w'.heap[b8]? = some (.cells #[str od, hv] 66 (0, 0)) ∧ Row (fun k => w.heap.size ≤ k) w' 73 5 hv tl.length (itL tl) ∧ Below w.heap.size w w' ∧ ∃ f : Nat → Value, a' = x2q b6 b8 f) ?_ ?_
 ·have fin : ∀ (a' : Act) (w' : World), w'.heap[b6]? = some (.cells #[.string ⟨#[]⟩, .slice none 0 0] 66 (0, 0)) → w'.heap[b8]? = some (.cells #[str od, hv] 66 (0, 0)) → Row (fun k => w.heap.size ≤ k) w' 73 5 hv tl.length (itL tl) → Below w.heap.size w w' → a' = x2q b6 b8 (fun j => a'.tmps.getD j undef) → w'.heap[b6]? = some (.cells #[.string ⟨#[]⟩, .slice none 0 0] 66 (0, 0)) ∧ w'.heap[b8]? = some (.cells #[str od, hv] 66 (0, 0)) ∧ Row (fun k => w.heap.size ≤ k) w' 73 5 hv tl.length (itL tl) ∧ Below w.heap.size w w' ∧ ∃ f : Nat → Value, a' = x2q b6 b8 f := fun a' w' q1 q2 q3 q4 q5 => ⟨q1, q2, q3, q4, _, q5⟩
  refine wp_seq ?_
  refine Qt.z0u (by kernel_rfl) (by kernel_rfl) ?_
  refine Qg.val (by kernel_rfl) (.pointer (some ⟨g, 0, none⟩)) (fun _ _ => by kernel_rfl) ?_
  simp only [zD]
  refine Qg.val (by kernel_rfl) (.pointer (some ⟨g, 0, none⟩)) (fun _ _ => by kernel_rfl) ?_
  simp only [zD]
  refine Qg.val (by kernel_rfl) (.pointer (some ⟨g, 3, none⟩)) (fun _ _ => by kernel_rfl) ?_
  simp only [zD]
  refine Qg.call (by kernel_rfl) 75 #[.pointer (some ⟨g, 3, none⟩)] (.int .i64 s.floor) (fun _ => by kernel_rfl) (fun w' hb => z8p ((h.below hB5).below hb)) ?_
  simp only [zD]
  refine Qg.val (by kernel_rfl) (.pointer (some ⟨b4, 0, none⟩)) (fun _ _ => by kernel_rfl) ?_
  simp only [zD]
  refine Qg.cell (by kernel_rfl) _ _ rfl Tryz.underlying3 rfl b4 0 (.int .i64 F) rfl (aL HX5.out) (z0c HX5.out 0 rfl) ?_
  simp only [zD]
  refine Qg.val (by kernel_rfl) (.bool (decide (F < s.floor))) (fun _ _ => by kernel_rfl) ?_
  simp only [zD]
  refine wpQuiet_nil ?_
  intro w6 hb6'
  have HR6 : w6.heap[b6]? = some (.cells #[.string ⟨#[]⟩, .slice none 0 0] 66 (0, 0)) := (Below.block hb6' _ (aL HR5.out)).trans HR5.out
  have HN6 : w6.heap[b8]? = some (.cells #[.string ⟨#[]⟩, hv] 66 (0, 0)) := (Below.block hb6' _ (aL HN5.out)).trans HN5.out
  have hrow6 := (hrow5.below hb6' (Nat.le_refl _)).mono (T := fun k => w.heap.size ≤ k) fun k hk => Nat.le_trans h3w hk
  have hB6 : Below w.heap.size w w6 := hB5.trans (Below.mono hb6' hB5.size)
  clear hb6' HR5 HN5 HX5 hrow5 hB5
  refine Ks.norm ?_
  refine wp_cond_split rfl ?_ ?_
  ·intro hc
   have hc : F < s.floor := of_decide_eq_true hc
   rw [if_pos hc] at hod
   refine Ks.reg ?_
   refine Ks.v (.pointer (some ⟨g, 0, none⟩)) ?_
   simp only [zD]
   refine Ks.v (.pointer (some ⟨g, 0, none⟩)) ?_
   simp only [zD]
   refine Ks.v (.pointer (some ⟨g, 7, none⟩)) ?_
   simp only [zD]
   refine Ks.cell rfl _ _ rfl Tryz.underlying9 rfl g 7 (str s.order) rfl (z0h.q3i (h.below hB6)) ?_
   simp only [zD]
   refine Ks.v (.pointer (some ⟨b8, 0, none⟩)) ?_
   simp only [zD]
   refine Ks.store rfl _ _ _ rfl b8 0 (str s.order) rfl rfl HN6 (by simp) (by kernel_rfl) rfl #[str s.order, hv] rfl ?_
   intro w7 HC HF HO HS
   simp only [Act.put]
   refine Ks.done ?_
   refine fin _ w7 ((HO.out b6 (fun e => h86 e.symm)).trans HR6) (by rw [hod]; exact HC.out) (Row.other hrow6 (z2e hrow6 HN6 (by decide)) HO.out) (hB6.trans ((HF.out (fun _ => False) w.heap.size (Or.inr hb8w)).below (Nat.le_refl _) fun _ _ h => h)) rfl
  ·intro hc
   have hc : ¬ F < s.floor := of_decide_eq_false hc
   rw [if_neg hc] at hod
   refine wp_skip ?_
   refine Ks.norm ?_
   exact fin _ w6 HR6 (by rw [hod]; exact HN6) hrow6 hB6 rfl
 ·rintro a' w7 ⟨HR7, HN7, hrow7, hB7, f, rfl⟩
  unfold x2q
  refine wp_seq ?_
  refine Ks.reg ?_
  refine Ks.row rfl _ _ rfl b8 rfl HN7 Tryz.underlying66 rfl (by kernel_rfl) ?_
  simp only [zD]
  refine Ks.whole rfl _ _ _ rfl b6 #[str od, hv] rfl rfl HR7 (by kernel_rfl) rfl (by
   simp [str, Value.oneCell'] at hone ⊢
   exact hone) ?_
  intro w8 HR8 H2 H3 H4
  simp only [Act.put]
  refine Ks.v (.int .i64 0) ?_
  simp only [zD]
  refine Ks.done ?_
  refine wp_ret ?_
  repeat (refine Ks.ret ?_)
  exact Ww.z8h Tryz.results28 rfl b6 _ #[str od, hv] _ _ (.int .i64 0) rfl rfl HR8.out Tryz.underlying66 rfl (by kernel_rfl) ⟨_, rfl, ⟨hv, rfl, Row.other hrow7 (z2e hrow7 HR7 (by decide)) H3.out⟩, hB7.trans ((H2.out (fun _ => False) w.heap.size (Or.inr hb6)).below (Nat.le_refl _) (fun _ _ h => h))⟩
end Gt
open Go Go.RowKit
namespace Gt
open Mp Bk Tk
theorem y3n (a b c : Int) : bet a b c = decide (a ≤ b ∧ b ≤ c) := by
 unfold bet
 by_cases h1 : a ≤ b <;> by_cases h2 : b ≤ c <;> simp [h1, h2]
theorem x4i (x : It) : z8e x = (!(x.gone && (decide (x.epoch ≠ 0) || decide (x.serial ≠ 0))) && (bet 0 x.gate 15 && (bet 1 x.adm 1000 && (bet 0 x.epoch 65535 && bet 0 x.serial 4294967295)))) := by
 unfold z8e
 rw [y3n, y3n, y3n, y3n, show decide (x.epoch ≠ 0 ∨ x.serial ≠ 0) = (decide (x.epoch ≠ 0) || decide (x.serial ≠ 0)) by by_cases h : x.epoch = 0 <;> by_cases k : x.serial = 0 <;> simp [h, k]]
 generalize decide (0 ≤ x.gate ∧ x.gate ≤ 15) = a
 generalize decide (1 ≤ x.adm ∧ x.adm ≤ 1000) = b
 generalize decide (0 ≤ x.epoch ∧ x.epoch ≤ 65535) = c
 generalize decide (0 ≤ x.serial ∧ x.serial ≤ 4294967295) = d
 generalize (x.gone && (decide (x.epoch ≠ 0) || decide (x.serial ≠ 0))) = e
 cases a <;> cases b <;> cases c <;> cases d <;> cases e <;> rfl
theorem q2k (x : It) (w : World) : Calls Tryz.prog 233 #[itV x] w fun e w' => e = .returned (.bool (z8e x)) ∧ Below w.heap.size w w' := by
 have HG : Hid _ := q5p x.gate
 have HA : Hid _ := y0m x.adm
 have HE : Hid _ := y3w x.epoch
 have HS : Hid _ := x2g x.serial
 have HR : Hid _ := x4i x
 generalize z8e x = R at HR ⊢
 generalize bet 0 x.gate 15 = bg at *
 generalize bet 1 x.adm 1000 = ba at *
 generalize bet 0 x.epoch 65535 = be at *
 generalize bet 0 x.serial 4294967295 = bs at *
 unfold itV
 go_enter Tryz.func233, Tryz.ntmps233
 refine wp_seq ?_
 refine Ks.reg ?_
 refine Ks.box rfl _ _ rfl #[.int .i64 x.gate, .int .i64 x.adm, .int .i64 x.epoch, .int .i64 x.serial, .bool x.gone] rfl ?_
 intro w1 b Hb HX HB HS1
 simp only [zD]
 refine Ks.v (.bool false) ?_
 simp only [zD]
 refine Ks.done ?_
 refine wp_seq ?_
 refine wp_seq ?_
 refine Ks.reg ?_
 refine Ks.v (.pointer (some ⟨b, 4, none⟩)) ?_
 simp only [zD]
 refine Ks.cell rfl _ _ rfl Tryz.underlying4 rfl b 4 (.bool x.gone) rfl (z0c HX.out 4 rfl) ?_
 simp only [zD]
 refine Ks.v (.bool x.gone) ?_
 simp only [zD]
 cases hgo : x.gone with
 | false =>
  have hE : (x.gone && (decide (x.epoch ≠ 0) || decide (x.serial ≠ 0))) = false := by rw [hgo]; rfl
  clear hgo
  with_reducible refine Ks.n ?_
  simp only [zD]
  with_reducible refine Ks.n ?_
  simp only [zD]
  with_reducible refine Ks.n ?_
  simp only [zD]
  with_reducible refine Ks.n ?_
  simp only [zD]
  with_reducible refine Ks.n ?_
  simp only [zD]
  with_reducible refine Ks.n ?_
  simp only [zD]
  with_reducible refine Ks.n ?_
  simp only [zD]
  with_reducible refine Ks.n ?_
  simp only [zD]
  refine Ks.v (.bool false) ?_
  simp only [zD]
  refine Ks.done ?_
  refine wp_cond_false rfl ?_
  refine wp_skip ?_
  refine Ks.norm ?_
  refine wp_seq ?_
  refine Ks.reg ?_
  refine Ks.v (.pointer (some ⟨b, 0, none⟩)) ?_
  simp only [zD]
  refine Ks.cell rfl _ _ rfl Tryz.underlying3 rfl b 0 (.int .i64 x.gate) rfl (z0c HX.out 0 rfl) ?_
  simp only [zD]
  refine Ks.same (by kernel_rfl) 84 #[.int .i64 x.gate] (by kernel_rfl) (HG.out w1) ?_
  simp only [zD]
  refine Ks.v (.bool bg) ?_
  simp only [zD]
  cases bg with
  | false =>
   with_reducible refine Ks.n ?_
   simp only [zD]
   with_reducible refine Ks.n ?_
   simp only [zD]
   with_reducible refine Ks.n ?_
   simp only [zD]
   refine Ks.v (.bool false) ?_
   simp only [zD]
   refine Ks.v (.bool false) ?_
   simp only [zD]
   with_reducible refine Ks.n ?_
   simp only [zD]
   with_reducible refine Ks.n ?_
   simp only [zD]
   with_reducible refine Ks.n ?_
   simp only [zD]
   refine Ks.v (.bool false) ?_
   simp only [zD]
   refine Ks.v (.bool false) ?_
   simp only [zD]
   with_reducible refine Ks.n ?_
   simp only [zD]
   with_reducible refine Ks.n ?_
   simp only [zD]
   with_reducible refine Ks.n ?_
   simp only [zD]
   refine Ks.v (.bool false) ?_
   simp only [zD]
   refine Ks.v (.bool false) ?_
   simp only [zD]
   refine Ks.done ?_
   obtain rfl : R = false := by rw [HR.out, hE]; rfl
   refine wp_ret ?_
   repeat (refine Ks.ret ?_)
   refine bodyPost_ret (v := .bool false) (by simp [results, Tryz.results233]) rfl ?_
   exact ⟨rfl, HB.out⟩
  | true =>
   refine Ks.g (.pointer (some ⟨b, 1, none⟩)) ?_
   simp only [zD]
   refine Ks.z4k (by kernel_rfl) _ _ rfl Tryz.underlying3 rfl b 1 (.int .i64 x.adm) rfl (z0c HX.out 1 rfl) ?_
   simp only [zD]
   refine Ks.same (by kernel_rfl) 217 #[.int .i64 x.adm] (by kernel_rfl) (HA.out w1) ?_
   simp only [zD]
   refine Ks.v (.bool ba) ?_
   simp only [zD]
   refine Ks.v (.bool ba) ?_
   simp only [zD]
   cases ba with
   | false =>
    with_reducible refine Ks.n ?_
    simp only [zD]
    with_reducible refine Ks.n ?_
    simp only [zD]
    with_reducible refine Ks.n ?_
    simp only [zD]
    refine Ks.v (.bool false) ?_
    simp only [zD]
    refine Ks.v (.bool false) ?_
    simp only [zD]
    with_reducible refine Ks.n ?_
    simp only [zD]
    with_reducible refine Ks.n ?_
    simp only [zD]
    with_reducible refine Ks.n ?_
    simp only [zD]
    refine Ks.v (.bool false) ?_
    simp only [zD]
    refine Ks.v (.bool false) ?_
    simp only [zD]
    refine Ks.done ?_
    obtain rfl : R = false := by rw [HR.out, hE]; rfl
    refine wp_ret ?_
    repeat (refine Ks.ret ?_)
    refine bodyPost_ret (v := .bool false) (by simp [results, Tryz.results233]) rfl ?_
    exact ⟨rfl, HB.out⟩
   | true =>
    refine Ks.g (.pointer (some ⟨b, 2, none⟩)) ?_
    simp only [zD]
    refine Ks.z4k (by kernel_rfl) _ _ rfl Tryz.underlying3 rfl b 2 (.int .i64 x.epoch) rfl (z0c HX.out 2 rfl) ?_
    simp only [zD]
    refine Ks.same (by kernel_rfl) 56 #[.int .i64 x.epoch] (by kernel_rfl) (HE.out w1) ?_
    simp only [zD]
    refine Ks.v (.bool be) ?_
    simp only [zD]
    refine Ks.v (.bool be) ?_
    simp only [zD]
    cases be with
    | false =>
     with_reducible refine Ks.n ?_
     simp only [zD]
     with_reducible refine Ks.n ?_
     simp only [zD]
     with_reducible refine Ks.n ?_
     simp only [zD]
     refine Ks.v (.bool false) ?_
     simp only [zD]
     refine Ks.v (.bool false) ?_
     simp only [zD]
     refine Ks.done ?_
     obtain rfl : R = false := by rw [HR.out, hE]; rfl
     refine wp_ret ?_
     repeat (refine Ks.ret ?_)
     refine bodyPost_ret (v := .bool false) (by simp [results, Tryz.results233]) rfl ?_
     exact ⟨rfl, HB.out⟩
    | true =>
     refine Ks.g (.pointer (some ⟨b, 3, none⟩)) ?_
     simp only [zD]
     refine Ks.z4k (by kernel_rfl) _ _ rfl Tryz.underlying3 rfl b 3 (.int .i64 x.serial) rfl (z0c HX.out 3 rfl) ?_
     simp only [zD]
     refine Ks.same (by kernel_rfl) 57 #[.int .i64 x.serial] (by kernel_rfl) (HS.out w1) ?_
     simp only [zD]
     refine Ks.v (.bool bs) ?_
     simp only [zD]
     refine Ks.v (.bool bs) ?_
     simp only [zD]
     refine Ks.done ?_
     obtain rfl : bs = R := by rw [HR.out, hE]; rfl
     refine wp_ret ?_
     repeat (refine Ks.ret ?_)
     refine bodyPost_ret (v := .bool bs) (by simp [results, Tryz.results233]) rfl ?_
     exact ⟨rfl, HB.out⟩
 | true =>
  refine Ks.g (.pointer (some ⟨b, 2, none⟩)) ?_
  simp only [zD]
  refine Ks.z4k (by kernel_rfl) _ _ rfl Tryz.underlying3 rfl b 2 (.int .i64 x.epoch) rfl (z0c HX.out 2 rfl) ?_
  simp only [zD]
  refine Ks.g (.bool (!decide (x.epoch = 0))) ?_
  simp only [zD]
  refine Ks.g (.bool (!decide (x.epoch = 0))) ?_
  simp only [zD]
  by_cases he : x.epoch = 0
  ·rw [decide_eq_true he]
   refine Ks.g (.pointer (some ⟨b, 3, none⟩)) ?_
   simp only [zD]
   refine Ks.z4k (by kernel_rfl) _ _ rfl Tryz.underlying3 rfl b 3 (.int .i64 x.serial) rfl (z0c HX.out 3 rfl) ?_
   simp only [zD]
   refine Ks.g (.bool (!decide (x.serial = 0))) ?_
   simp only [zD]
   refine Ks.g (.bool (!decide (x.serial = 0))) ?_
   simp only [zD]
   refine Ks.v (.bool (!decide (x.serial = 0))) ?_
   simp only [zD]
   refine Ks.done ?_
   by_cases hs : x.serial = 0
   ·rw [decide_eq_true hs]
    have hE : (x.gone && (decide (x.epoch ≠ 0) || decide (x.serial ≠ 0))) = false := by simp [he, hs]
    clear hgo he hs
    refine wp_cond_false rfl ?_
    refine wp_skip ?_
    refine Ks.norm ?_
    refine wp_seq ?_
    refine Ks.reg ?_
    refine Ks.v (.pointer (some ⟨b, 0, none⟩)) ?_
    simp only [zD]
    refine Ks.cell rfl _ _ rfl Tryz.underlying3 rfl b 0 (.int .i64 x.gate) rfl (z0c HX.out 0 rfl) ?_
    simp only [zD]
    refine Ks.same (by kernel_rfl) 84 #[.int .i64 x.gate] (by kernel_rfl) (HG.out w1) ?_
    simp only [zD]
    refine Ks.v (.bool bg) ?_
    simp only [zD]
    cases bg with
    | false =>
     with_reducible refine Ks.n ?_
     simp only [zD]
     with_reducible refine Ks.n ?_
     simp only [zD]
     with_reducible refine Ks.n ?_
     simp only [zD]
     refine Ks.v (.bool false) ?_
     simp only [zD]
     refine Ks.v (.bool false) ?_
     simp only [zD]
     with_reducible refine Ks.n ?_
     simp only [zD]
     with_reducible refine Ks.n ?_
     simp only [zD]
     with_reducible refine Ks.n ?_
     simp only [zD]
     refine Ks.v (.bool false) ?_
     simp only [zD]
     refine Ks.v (.bool false) ?_
     simp only [zD]
     with_reducible refine Ks.n ?_
     simp only [zD]
     with_reducible refine Ks.n ?_
     simp only [zD]
     with_reducible refine Ks.n ?_
     simp only [zD]
     refine Ks.v (.bool false) ?_
     simp only [zD]
     refine Ks.v (.bool false) ?_
     simp only [zD]
     refine Ks.done ?_
     obtain rfl : R = false := by rw [HR.out, hE]; rfl
     refine wp_ret ?_
     repeat (refine Ks.ret ?_)
     refine bodyPost_ret (v := .bool false) (by simp [results, Tryz.results233]) rfl ?_
     exact ⟨rfl, HB.out⟩
    | true =>
     refine Ks.g (.pointer (some ⟨b, 1, none⟩)) ?_
     simp only [zD]
     refine Ks.z4k (by kernel_rfl) _ _ rfl Tryz.underlying3 rfl b 1 (.int .i64 x.adm) rfl (z0c HX.out 1 rfl) ?_
     simp only [zD]
     refine Ks.same (by kernel_rfl) 217 #[.int .i64 x.adm] (by kernel_rfl) (HA.out w1) ?_
     simp only [zD]
     refine Ks.v (.bool ba) ?_
     simp only [zD]
     refine Ks.v (.bool ba) ?_
     simp only [zD]
     cases ba with
     | false =>
      with_reducible refine Ks.n ?_
      simp only [zD]
      with_reducible refine Ks.n ?_
      simp only [zD]
      with_reducible refine Ks.n ?_
      simp only [zD]
      refine Ks.v (.bool false) ?_
      simp only [zD]
      refine Ks.v (.bool false) ?_
      simp only [zD]
      with_reducible refine Ks.n ?_
      simp only [zD]
      with_reducible refine Ks.n ?_
      simp only [zD]
      with_reducible refine Ks.n ?_
      simp only [zD]
      refine Ks.v (.bool false) ?_
      simp only [zD]
      refine Ks.v (.bool false) ?_
      simp only [zD]
      refine Ks.done ?_
      obtain rfl : R = false := by rw [HR.out, hE]; rfl
      refine wp_ret ?_
      repeat (refine Ks.ret ?_)
      refine bodyPost_ret (v := .bool false) (by simp [results, Tryz.results233]) rfl ?_
      exact ⟨rfl, HB.out⟩
     | true =>
      refine Ks.g (.pointer (some ⟨b, 2, none⟩)) ?_
      simp only [zD]
      refine Ks.z4k (by kernel_rfl) _ _ rfl Tryz.underlying3 rfl b 2 (.int .i64 x.epoch) rfl (z0c HX.out 2 rfl) ?_
      simp only [zD]
      refine Ks.same (by kernel_rfl) 56 #[.int .i64 x.epoch] (by kernel_rfl) (HE.out w1) ?_
      simp only [zD]
      refine Ks.v (.bool be) ?_
      simp only [zD]
      refine Ks.v (.bool be) ?_
      simp only [zD]
      cases be with
      | false =>
       with_reducible refine Ks.n ?_
       simp only [zD]
       with_reducible refine Ks.n ?_
       simp only [zD]
       with_reducible refine Ks.n ?_
       simp only [zD]
       refine Ks.v (.bool false) ?_
       simp only [zD]
       refine Ks.v (.bool false) ?_
       simp only [zD]
       refine Ks.done ?_
       obtain rfl : R = false := by rw [HR.out, hE]; rfl
       refine wp_ret ?_
       repeat (refine Ks.ret ?_)
       refine bodyPost_ret (v := .bool false) (by simp [results, Tryz.results233]) rfl ?_
       exact ⟨rfl, HB.out⟩
      | true =>
       refine Ks.g (.pointer (some ⟨b, 3, none⟩)) ?_
       simp only [zD]
       refine Ks.z4k (by kernel_rfl) _ _ rfl Tryz.underlying3 rfl b 3 (.int .i64 x.serial) rfl (z0c HX.out 3 rfl) ?_
       simp only [zD]
       refine Ks.same (by kernel_rfl) 57 #[.int .i64 x.serial] (by kernel_rfl) (HS.out w1) ?_
       simp only [zD]
       refine Ks.v (.bool bs) ?_
       simp only [zD]
       refine Ks.v (.bool bs) ?_
       simp only [zD]
       refine Ks.done ?_
       obtain rfl : bs = R := by rw [HR.out, hE]; rfl
       refine wp_ret ?_
       repeat (refine Ks.ret ?_)
       refine bodyPost_ret (v := .bool bs) (by simp [results, Tryz.results233]) rfl ?_
       exact ⟨rfl, HB.out⟩
   ·rw [decide_eq_false hs]
    have hE : (x.gone && (decide (x.epoch ≠ 0) || decide (x.serial ≠ 0))) = true := by simp [hgo, hs]
    refine wp_cond_true rfl ?_
    refine wp_seq ?_
    refine Ks.reg ?_
    refine Ks.v (.bool false) ?_
    simp only [zD]
    refine Ks.done ?_
    obtain rfl : R = false := by rw [HR.out, hE]; rfl
    refine wp_ret ?_
    repeat (refine Ks.ret ?_)
    refine bodyPost_ret (v := .bool false) (by simp [results, Tryz.results233]) rfl ?_
    exact ⟨rfl, HB.out⟩
  ·rw [decide_eq_false he]
   have hE : (x.gone && (decide (x.epoch ≠ 0) || decide (x.serial ≠ 0))) = true := by simp [hgo, he]
   with_reducible refine Ks.n ?_
   simp only [zD]
   with_reducible refine Ks.n ?_
   simp only [zD]
   with_reducible refine Ks.n ?_
   simp only [zD]
   refine Ks.g (.bool true) ?_
   simp only [zD]
   refine Ks.v (.bool true) ?_
   simp only [zD]
   refine Ks.done ?_
   refine wp_cond_true rfl ?_
   refine wp_seq ?_
   refine Ks.reg ?_
   refine Ks.v (.bool false) ?_
   simp only [zD]
   refine Ks.done ?_
   obtain rfl : R = false := by rw [HR.out, hE]; rfl
   refine wp_ret ?_
   repeat (refine Ks.ret ?_)
   refine bodyPost_ret (v := .bool false) (by simp [results, Tryz.results233]) rfl ?_
   exact ⟨rfl, HB.out⟩
end Gt
open Go Go.RowKit
namespace Gt
open Mp Bk Tk
theorem z6u (x : It) : (itC x).length = 5 := rfl
def z5z (p : Option Addr) (n cap k : Nat) (f : Nat → Value) : Act := { tmps := #[.slice p n cap, f 1, .bool false, f 3, f 4, .slice p n cap, .int .i64 (n : Int), .int .i64 (k : Int), f 8, f 9, f 10, f 11, f 12, f 13, f 14, f 15, f 16, f 17, f 18, f 19, f 20, f 21, f 22, f 23, f 24, f 25, f 26, f 27, f 28, f 29], defers := [] }
theorem x3e {S : Nat → Prop} (w : World) (v : Value) (l : List It) (hrow : Row S w 73 5 v l.length (itL l)) (hl : l.length ≤ 1000000000) : Calls Tryz.prog 162 #[v] w fun e w' => e = .returned (.bool (z4l l)) ∧ Below w.heap.size w w' := by
 obtain ⟨p, cap, rfl, z3s⟩ := Row.form hrow
 obtain ⟨R, hR⟩ : ∃ R, R = z4l l := ⟨_, rfl⟩
 rw [← hR]
 go_enter Tryz.func162, Tryz.ntmps162
 refine wp_seq ?_
 refine Ks.reg ?_
 refine Ks.v (.bool false) ?_
 simp only [zD]
 refine Ks.done ?_
 refine wp_seq ?_
 refine wp_seq ?_
 refine Ks.reg ?_
 refine Ks.v (.slice p l.length cap) ?_
 simp only [zD]
 refine Ks.v (.int .i64 (l.length : Int)) ?_
 simp only [zD]
 refine Ks.v (.int .i64 0) ?_
 simp only [zD]
 refine Ks.done ?_
 refine wp_block ?_
 refine Ks.loop (fun m a wr => ∃ (k : Nat) (f : Nat → Value), k ≤ l.length ∧ m = l.length - k ∧ z4l (l.take k) = true ∧ Below w.heap.size w wr ∧ a = z5z p l.length cap k f) l.length ⟨0, fun _ => undef, Nat.zero_le _, rfl, by simp [z4l], Below.refl _ _, rfl⟩ ?_
 rintro m a wr ⟨k, f, hk, rfl, h0, hB, rfl⟩
 have fin : ∀ (a' : Act) (w' : World) (k' : Nat), k < k' → k' ≤ l.length → z4l (l.take k') = true → Below w.heap.size w w' → a' = z5z p l.length cap k' (fun j => a'.tmps.getD j undef) → ∃ m, m < l.length - k ∧ ∃ (k : Nat) (f : Nat → Value), k ≤ l.length ∧ m = l.length - k ∧ z4l (l.take k) = true ∧ Below w.heap.size w w' ∧ a' = z5z p l.length cap k f := fun a' w' k' q1 q2 q3 q4 q5 => ⟨l.length - k', by omega, k', _, q2, rfl, q3, q4, q5⟩
 unfold z5z
 refine wp_seq ?_
 refine Ks.reg ?_
 refine Ks.v (.bool (decide ((k : Int) < l.length))) ?_
 simp only [zD]
 refine Ks.done ?_
 refine wp_seq ?_
 refine wp_cond_split rfl ?_ ?_
 ·intro hlt
  have hlt : k < l.length := by have := of_decide_eq_true hlt; omega
  obtain ⟨g, cur, rfl, hg, htk⟩ := z3s k hlt
  have hgl := (aL hg)
  obtain ⟨x, hx⟩ : ∃ x, l[k] = x := ⟨_, rfl⟩
  have hxk : l[k]? = some x := by rw [List.getElem?_eq_getElem hlt, hx]
  have hrg : wr.rangeAt g (k * 5) (itC x) := z1v (Row.range z6u hg htk hxk) hB hgl
  refine wp_skip ?_
  refine Ks.norm ?_
  refine wp_seq ?_
  refine wp_block ?_
  refine wp_seq ?_
  refine Ks.reg ?_
  refine Ks.v (.int .i64 (k : Int)) ?_
  simp only [zD]
  refine Ks.idx (by kernel_rfl) _ _ _ rfl 73 5 Tryz.underlying64 (by kernel_rfl) (by kernel_rfl) g l.length cap k rfl rfl hlt ?_
  simp only [zD]
  refine Ks.mid rfl _ _ rfl g (k * 5) rfl (itC x) hrg Tryz.underlying73 rfl (by kernel_rfl) ?_
  simp only [zD]
  refine Ks.alloc rfl _ rfl (.agg #[.int .i64 0, .int .i64 0, .int .i64 0, .int .i64 0, .bool false]) (by kernel_rfl) #[.int .i64 0, .int .i64 0, .int .i64 0, .int .i64 0, .bool false] rfl ?_
  intro w1 b4 Hb4 HX1 HB1 HS1
  simp only [zD]
  refine Ks.v (.int .i64 (k : Int)) ?_
  simp only [zD]
  refine Ks.whole rfl _ _ _ rfl b4 (itC x).toArray rfl rfl HX1.out (by kernel_rfl) rfl (by kernel_rfl) ?_
  intro w2 HR2 H2 H3 H4
  have hb12 : Below wr.heap.size wr w2 := HB1.out.trans ((H2.out (fun _ => False) wr.heap.size (Or.inr (Nat.le_of_eq Hb4.out.symm))).below (Nat.le_refl _) fun _ _ h => h)
  have hB2 : Below w.heap.size w w2 := hB.trans (hb12.mono hB.size)
  have hb4l := (aL HR2.out)
  have hgl2 : g < w2.heap.size := Nat.lt_of_lt_of_le hgl hB2.size
  have hsplit : z4l (l.take (k + 1)) = (z8e x && okLast (l.take k) x) := by rw [z3a hxk, y2v, h0, Bool.true_and]
  have hfall : (z8e x && okLast (l.take k) x) = false → R = false := fun hf => by rw [hR]; exact x4j hxk hf
  clear HX1 HB1 HS1 H2 H3 H4 hb12 Hb4
  simp only [Act.put]
  refine Ks.done ?_
  refine Ks.cut (fun a' w' => Below w.heap.size w w' ∧ ∃ f : Nat → Value, f 28 = .bool (!(z8e x && okLast (l.take k) x)) ∧ a' = z5z (some ⟨g, 0, none⟩) l.length cap k f) ?_ ?_
  ·have fin4 : ∀ (a' : Act) (w' : World), Below w2.heap.size w2 w' → a'.tmps.getD 28 undef = .bool (!(z8e x && okLast (l.take k) x)) → a' = z5z (some ⟨g, 0, none⟩) l.length cap k (fun j => a'.tmps.getD j undef) → Below w.heap.size w w' ∧ ∃ f : Nat → Value, f 28 = .bool (!(z8e x && okLast (l.take k) x)) ∧ a' = z5z (some ⟨g, 0, none⟩) l.length cap k f := fun a' w' hb h1 h2 => ⟨hB2.trans (hb.mono hB2.size), _, h1, h2⟩
   refine Qt.z0u (by kernel_rfl) (by kernel_rfl) ?_
   refine Qg.row (by kernel_rfl) _ _ rfl b4 rfl _ _ _ _ HR2.out Tryz.underlying73 rfl (by kernel_rfl) ?_
   simp only [zD]
   refine Qg.call (by kernel_rfl) 233 #[itV x] (.bool (z8e x)) (fun _ => by kernel_rfl) (fun w' hb => q2k x w') ?_
   simp only [zD]
   refine Qg.val (by kernel_rfl) (.bool (!z8e x)) (fun _ _ => by kernel_rfl) ?_
   simp only [zD]
   refine Qg.val (by kernel_rfl) (.bool (!z8e x)) (fun _ _ => by kernel_rfl) ?_
   simp only [zD]
   cases hok : z8e x with
   | false =>
    rw [hok] at fin4
    with_reducible refine Qg.off (by kernel_rfl) ?_
    simp only [zD]
    with_reducible refine Qg.off (by kernel_rfl) ?_
    simp only [zD]
    with_reducible refine Qg.off (by kernel_rfl) ?_
    simp only [zD]
    with_reducible refine Qg.off (by kernel_rfl) ?_
    simp only [zD]
    with_reducible refine Qg.off (by kernel_rfl) ?_
    simp only [zD]
    with_reducible refine Qg.off (by kernel_rfl) ?_
    simp only [zD]
    with_reducible refine Qg.off (by kernel_rfl) ?_
    simp only [zD]
    with_reducible refine Qg.off (by kernel_rfl) ?_
    simp only [zD]
    with_reducible refine Qg.off (by kernel_rfl) ?_
    simp only [zD]
    with_reducible refine Qg.off (by kernel_rfl) ?_
    simp only [zD]
    with_reducible refine Qg.off (by kernel_rfl) ?_
    simp only [zD]
    with_reducible refine Qg.off (by kernel_rfl) ?_
    simp only [zD]
    refine Qg.val (by kernel_rfl) (.bool true) (fun _ _ => by kernel_rfl) ?_
    simp only [zD]
    refine wpQuiet_nil ?_
    intro w' hb
    refine Ks.norm ?_
    exact fin4 _ w' hb rfl rfl
   | true =>
    rw [hok] at fin4
    refine Qg.val (by kernel_rfl) (.int .i64 (k : Int)) (fun _ _ => by kernel_rfl) ?_
    simp only [zD]
    match k, hxk, hlt, fin4 with
    | 0, hxk, hlt, fin4 =>
     refine Qg.val (by kernel_rfl) (.bool false) (fun _ _ => by kernel_rfl) ?_
     simp only [zD]
     refine Qg.val (by kernel_rfl) (.bool false) (fun _ _ => by kernel_rfl) ?_
     simp only [zD]
     with_reducible refine Qg.off (by kernel_rfl) ?_
     simp only [zD]
     with_reducible refine Qg.off (by kernel_rfl) ?_
     simp only [zD]
     with_reducible refine Qg.off (by kernel_rfl) ?_
     simp only [zD]
     with_reducible refine Qg.off (by kernel_rfl) ?_
     simp only [zD]
     with_reducible refine Qg.off (by kernel_rfl) ?_
     simp only [zD]
     with_reducible refine Qg.off (by kernel_rfl) ?_
     simp only [zD]
     with_reducible refine Qg.off (by kernel_rfl) ?_
     simp only [zD]
     with_reducible refine Qg.off (by kernel_rfl) ?_
     simp only [zD]
     refine Qg.val (by kernel_rfl) (.bool false) (fun _ _ => by kernel_rfl) ?_
     simp only [zD]
     refine Qg.val (by kernel_rfl) (.bool false) (fun _ _ => by kernel_rfl) ?_
     simp only [zD]
     refine wpQuiet_nil ?_
     intro w' hb
     refine Ks.norm ?_
     exact fin4 _ w' hb rfl rfl
    | j + 1, hxk, hlt, fin4 =>
     have hj : j < l.length := by omega
     obtain ⟨y, hy⟩ : ∃ y, l[j] = y := ⟨_, rfl⟩
     have hyk : l[j]? = some y := by rw [List.getElem?_eq_getElem hj, hy]
     have hlast : okLast (l.take (j + 1)) x = decide (z1y y x) := x7y hyk
     have hrg2 : w2.rangeAt g (j * 5) (itC y) := z1v (Row.range z6u hg htk hyk) hB2 hgl
     refine Qg.val (by kernel_rfl) (.bool true) (fun _ _ => by simp [execOp, go_sem]) ?_
     simp only [zD]
     refine Qg.val (by kernel_rfl) (.bool true) (fun _ _ => by kernel_rfl) ?_
     simp only [zD]
     refine Qg.val (by kernel_rfl) (.slice (some ⟨g, 0, none⟩) l.length cap) (fun _ _ => by kernel_rfl) ?_
     simp only [zD]
     refine Qg.val (by kernel_rfl) (.int .i64 ((j + 1 : Nat) : Int)) (fun _ _ => by kernel_rfl) ?_
     simp only [zD]
     refine Qg.val (by kernel_rfl) (.int .i64 (j : Int)) (fun _ _ => by
      simp [execOp, go_sem]
      rw [IntWalk.i64_in _ ⟨by omega, by omega⟩]) ?_
     simp only [zD]
     refine Qg.idx (by kernel_rfl) _ _ _ rfl 73 5 Tryz.underlying64 (by kernel_rfl) (by kernel_rfl) g l.length cap j rfl rfl hj ?_
     simp only [zD]
     refine Qg.mid (by kernel_rfl) _ _ rfl g (j * 5) rfl (itC y) hgl2 hrg2 Tryz.underlying73 rfl (by kernel_rfl) ?_
     simp only [zD]
     refine Qg.row (by kernel_rfl) _ _ rfl b4 rfl _ _ _ _ HR2.out Tryz.underlying73 rfl (by kernel_rfl) ?_
     simp only [zD]
     refine Qg.call (by kernel_rfl) 234 #[itV y, itV x] (.bool (decide (z1y y x))) (fun _ => by kernel_rfl) (fun w' hb => k1c y x w') ?_
     simp only [zD]
     refine Qg.val (by kernel_rfl) (.bool (!decide (z1y y x))) (fun _ _ => by kernel_rfl) ?_
     simp only [zD]
     refine Qg.val (by kernel_rfl) (.bool (!decide (z1y y x))) (fun _ _ => by kernel_rfl) ?_
     simp only [zD]
     refine Qg.val (by kernel_rfl) (.bool (!decide (z1y y x))) (fun _ _ => by kernel_rfl) ?_
     simp only [zD]
     refine wpQuiet_nil ?_
     intro w' hb
     refine Ks.norm ?_
     exact fin4 _ w' hb (by rw [hlast]; rfl) rfl
  ·rintro a' w3 ⟨hB3, f', e28, rfl⟩
   unfold z5z
   rw [e28]
   cases hb : (z8e x && okLast (l.take k) x) with
   | false =>
    obtain rfl : R = false := hfall hb
    refine wp_cond_true rfl ?_
    refine wp_seq ?_
    refine Ks.reg ?_
    refine Ks.v (.bool false) ?_
    simp only [zD]
    refine Ks.done ?_
    refine wp_ret ?_
    repeat (refine Ks.ret ?_)
    refine Ks.y2y ?_
    repeat (refine Ks.ret ?_)
    refine Ks.y2y ?_
    repeat (refine Ks.ret ?_)
    exact bodyPost_ret (v := .bool false) (by simp [results, Tryz.results162]) rfl ⟨rfl, hB3⟩
   | true =>
    refine wp_cond_false rfl ?_
    refine wp_skip ?_
    refine Ks.inb ?_
    refine Ks.reg ?_
    refine Ks.val rfl (.int .i64 ((k + 1 : Nat) : Int)) (by
     simp [execOp, go_sem]
     rw [IntWalk.i64_in _ ⟨by omega, by omega⟩]) ?_
    simp only [zD]
    refine Ks.v (.int .i64 ((k + 1 : Nat) : Int)) ?_
    simp only [zD]
    refine Ks.done ?_
    exact fin _ w3 (k + 1) (by omega) hlt (by rw [hsplit]; exact hb) hB3 rfl
 ·intro hlt
  obtain rfl : k = l.length := by have := of_decide_eq_false hlt; omega
  rw [List.take_of_length_le (Nat.le_refl _)] at h0
  obtain rfl : R = true := by rw [hR]; exact h0
  refine wp_exit ?_
  refine Ks.z3r ?_
  refine Ks.norm ?_
  refine wp_seq ?_
  refine Ks.reg ?_
  refine Ks.v (.bool true) ?_
  simp only [zD]
  refine Ks.done ?_
  refine wp_ret ?_
  repeat (refine Ks.ret ?_)
  refine bodyPost_ret (v := .bool true) (by simp [results, Tryz.results162]) rfl ?_
  exact ⟨rfl, hB⟩
end Gt
open Go Go.RowKit
namespace Gt
open Mp Bk Tk
def z6e (g : Nat) (p : Option Addr) (n cap k : Nat) (f : Nat → Value) : Act := { tmps := #[.pointer (some ⟨g, 0, none⟩), .slice p n cap, f 2, f 3, .bool false, f 5, f 6, f 7, f 8, f 9, f 10, f 11, f 12, f 13, .slice p n cap, .int .i64 (n : Int), .int .i64 (k : Int), f 17, f 18, f 19, f 20, f 21, f 22, f 23, f 24, f 25, f 26, f 27, f 28, f 29, f 30, f 31, f 32, f 33, f 34, f 35, f 36], defers := [] }
theorem q0t {α : Type} {p : α → Bool} {l : List α} {k : Nat} {x : α} (h : l[k]? = some x) (hx : p x = false) : l.all p = false := by
 rw [List.all_eq_false]
 exact ⟨x, List.mem_of_getElem? h, by simp [hx]⟩
theorem k1w {S T : Nat → Prop} {w : World} {g : Nat} {s : St} (h : z0h S w g s) (v : Value) (l : List It) (hrow : Row T w 73 5 v l.length (itL l)) (hl : l.length ≤ 1000000000) : Calls Tryz.prog 89 #[.pointer (some ⟨g, 0, none⟩), v] w fun e w' => e = .returned (.bool (z4p s l)) ∧ Below w.heap.size w w' := by
 obtain ⟨p, cap, rfl, z3s⟩ := Row.form hrow
 obtain ⟨R, hR⟩ : ∃ R, R = z4p s l := ⟨_, rfl⟩
 have hAI := x3e w _ l hrow hl
 rw [← hR]
 unfold z4p at hR
 generalize z4l l = b at hR hAI
 go_enter Tryz.func89, Tryz.ntmps89
 refine wp_seq ?_
 refine Ks.reg ?_
 refine Ks.v (.bool false) ?_
 simp only [zD]
 refine Ks.done ?_
 refine wp_seq ?_
 refine wp_seq ?_
 refine Ks.reg ?_
 refine Ks.v (.pointer (some ⟨g, 0, none⟩)) ?_
 simp only [zD]
 refine Ks.v (.bool false) ?_
 simp only [zD]
 refine Ks.v (.bool false) ?_
 simp only [zD]
 refine Ks.g (.slice p l.length cap) ?_
 simp only [zD]
 refine Ks.pure (by kernel_rfl) 162 #[.slice p l.length cap] (by kernel_rfl) hAI ?_
 intro w1 hb1
 simp only [zD]
 refine Ks.g (.bool (!b)) ?_
 simp only [zD]
 refine Ks.v (.bool (!b)) ?_
 simp only [zD]
 refine Ks.done ?_
 cases b with
 | false =>
  obtain rfl : R = false := by rw [hR]; rfl
  refine wp_cond_true rfl ?_
  refine wp_seq ?_
  refine Ks.reg ?_
  refine Ks.v (.bool false) ?_
  simp only [zD]
  refine Ks.done ?_
  refine wp_ret ?_
  repeat (refine Ks.ret ?_)
  refine bodyPost_ret (v := .bool false) (by simp [results, Tryz.results89]) rfl ?_
  exact ⟨rfl, hb1⟩
 | true =>
  rw [Bool.true_and] at hR
  refine wp_cond_false rfl ?_
  refine wp_skip ?_
  refine Ks.norm ?_
  refine wp_seq ?_
  refine wp_seq ?_
  refine Ks.reg ?_
  refine Ks.v (.slice p l.length cap) ?_
  simp only [zD]
  refine Ks.v (.int .i64 (l.length : Int)) ?_
  simp only [zD]
  refine Ks.v (.int .i64 0) ?_
  simp only [zD]
  refine Ks.done ?_
  refine wp_block ?_
  refine Ks.loop (fun m a wr => ∃ (k : Nat) (f : Nat → Value), k ≤ l.length ∧ m = l.length - k ∧ (l.take k).all (z3v s) = true ∧ Below w.heap.size w wr ∧ a = z6e g p l.length cap k f) l.length ⟨0, fun j => Array.getD #[undef, undef, undef, undef, undef, undef, undef, .pointer (some ⟨g, 0, none⟩), .bool false, .bool false, .slice p l.length cap, .bool true, .bool (!true), .bool (!true)] j undef, Nat.zero_le _, rfl, rfl, hb1, rfl⟩ ?_
  clear hb1 hAI
  rintro m a wr ⟨k, f, hk, rfl, h0, hB, rfl⟩
  have fin : ∀ (a' : Act) (w' : World) (k' : Nat), k < k' → k' ≤ l.length → (l.take k').all (z3v s) = true → Below w.heap.size w w' → a' = z6e g p l.length cap k' (fun j => a'.tmps.getD j undef) → ∃ m, m < l.length - k ∧ ∃ (k : Nat) (f : Nat → Value), k ≤ l.length ∧ m = l.length - k ∧ (l.take k).all (z3v s) = true ∧ Below w.heap.size w w' ∧ a' = z6e g p l.length cap k f := fun a' w' k' q1 q2 q3 q4 q5 => ⟨l.length - k', by omega, k', _, q2, rfl, q3, q4, q5⟩
  unfold z6e
  refine wp_seq ?_
  refine Ks.reg ?_
  refine Ks.v (.bool (decide ((k : Int) < l.length))) ?_
  simp only [zD]
  refine Ks.done ?_
  refine wp_seq ?_
  refine wp_cond_split rfl ?_ ?_
  ·intro hlt
   have hlt : k < l.length := by have := of_decide_eq_true hlt; omega
   obtain ⟨gi, cur, rfl, hg, htk⟩ := z3s k hlt
   have hgl := (aL hg)
   obtain ⟨x, hx⟩ : ∃ x, l[k] = x := ⟨_, rfl⟩
   have hxk : l[k]? = some x := by rw [List.getElem?_eq_getElem hlt, hx]
   have hrg : wr.rangeAt gi (k * 5) (itC x) := z1v (Row.range z6u hg htk hxk) hB hgl
   refine wp_skip ?_
   refine Ks.norm ?_
   refine wp_seq ?_
   refine wp_block ?_
   refine wp_seq ?_
   refine Ks.reg ?_
   refine Ks.idx (by kernel_rfl) _ _ _ rfl 73 5 Tryz.underlying64 (by kernel_rfl) (by kernel_rfl) gi l.length cap k rfl rfl hlt ?_
   simp only [zD]
   refine Ks.mid rfl _ _ rfl gi (k * 5) rfl (itC x) hrg Tryz.underlying73 rfl (by kernel_rfl) ?_
   simp only [zD]
   refine Ks.decl rfl _ rfl (.agg #[.int .i64 0, .int .i64 0, .int .i64 0, .int .i64 0, .bool false]) (by kernel_rfl) rfl _ _ rfl (itC x).toArray (fun _ => rfl) (fun _ => rfl) (by kernel_rfl) rfl (by kernel_rfl) ?_
   intro w2 b6 Hb6 HX HB2
   have hB2 : Below w.heap.size w w2 := hB.trans (HB2.out.mono hB.size)
   have hP := h.below hB2
   have hb6l := (aL HX.out)
   have hsplit : (l.take (k + 1)).all (z3v s) = z3v s x := by rw [z3a hxk, List.all_append, h0]; simp
   have hfall : z3v s x = false → R = false := fun hf => by rw [hR]; exact q0t hxk hf
   simp only [zD]
   refine Ks.done ?_
   refine Ks.cut (fun a' w' => Below w.heap.size w w' ∧ ∃ f : Nat → Value, f 35 = .bool (!z3v s x) ∧ a' = z6e g (some ⟨gi, 0, none⟩) l.length cap k f) ?_ ?_
   ·have fin4 : ∀ (a' : Act) (w' : World), Below w2.heap.size w2 w' → a'.tmps.getD 35 undef = .bool (!z3v s x) → a' = z6e g (some ⟨gi, 0, none⟩) l.length cap k (fun j => a'.tmps.getD j undef) → Below w.heap.size w w' ∧ ∃ f : Nat → Value, f 35 = .bool (!z3v s x) ∧ a' = z6e g (some ⟨gi, 0, none⟩) l.length cap k f := fun a' w' hb h1 h2 => ⟨hB2.trans (hb.mono hB2.size), _, h1, h2⟩
    refine Qt.z0u (by kernel_rfl) (by kernel_rfl) ?_
    refine Qg.val (by kernel_rfl) (.pointer (some ⟨b6, 0, none⟩)) (fun _ _ => by kernel_rfl) ?_
    simp only [zD]
    refine Qg.cell (by kernel_rfl) _ _ rfl Tryz.underlying3 rfl b6 0 (.int .i64 x.gate) rfl hb6l (z0c HX.out 0 rfl) ?_
    simp only [zD]
    refine Qg.val (by kernel_rfl) (.pointer (some ⟨g, 0, none⟩)) (fun _ _ => by kernel_rfl) ?_
    simp only [zD]
    refine Qg.val (by kernel_rfl) (.pointer (some ⟨g, 0, none⟩)) (fun _ _ => by kernel_rfl) ?_
    simp only [zD]
    refine Qg.val (by kernel_rfl) (.pointer (some ⟨g, 0, none⟩)) (fun _ _ => by kernel_rfl) ?_
    simp only [zD]
    refine Qg.cell (by kernel_rfl) _ _ rfl Tryz.underlying3 rfl g 0 (.int .i64 s.number) rfl hP.lt hP.q6g ?_
    simp only [zD]
    refine Qg.val (by kernel_rfl) (.bool (decide (x.gate = s.number))) (fun _ _ => by kernel_rfl) ?_
    simp only [zD]
    refine Qg.val (by kernel_rfl) (.bool (decide (x.gate = s.number))) (fun _ _ => by kernel_rfl) ?_
    simp only [zD]
    by_cases he : x.gate = s.number
    ·rw [decide_eq_true he]
     refine Qg.val (by kernel_rfl) (.pointer (some ⟨b6, 1, none⟩)) (fun _ _ => by kernel_rfl) ?_
     simp only [zD]
     refine Qg.cell (by kernel_rfl) _ _ rfl Tryz.underlying3 rfl b6 1 (.int .i64 x.adm) rfl hb6l (z0c HX.out 1 rfl) ?_
     simp only [zD]
     refine Qg.val (by kernel_rfl) (.pointer (some ⟨g, 0, none⟩)) (fun _ _ => by kernel_rfl) ?_
     simp only [zD]
     refine Qg.val (by kernel_rfl) (.pointer (some ⟨g, 0, none⟩)) (fun _ _ => by kernel_rfl) ?_
     simp only [zD]
     refine Qg.val (by kernel_rfl) (.pointer (some ⟨g, 2, none⟩)) (fun _ _ => by kernel_rfl) ?_
     simp only [zD]
     refine Qg.cell (by kernel_rfl) _ _ rfl Tryz.underlying3 rfl g 2 (.int .i64 s.own) rfl hP.lt hP.y6w ?_
     simp only [zD]
     refine Qg.val (by kernel_rfl) (.bool (decide (s.own < x.adm))) (fun _ _ => by kernel_rfl) ?_
     simp only [zD]
     refine Qg.val (by kernel_rfl) (.bool (decide (s.own < x.adm))) (fun _ _ => by kernel_rfl) ?_
     simp only [zD]
     refine wpQuiet_nil ?_
     intro w' hb
     refine Ks.norm ?_
     exact fin4 _ w' hb (by show Value.bool _ = _; unfold z3v; rw [decide_eq_true he]; simp) rfl
    ·rw [decide_eq_false he]
     with_reducible refine Qg.off (by kernel_rfl) ?_
     simp only [zD]
     with_reducible refine Qg.off (by kernel_rfl) ?_
     simp only [zD]
     with_reducible refine Qg.off (by kernel_rfl) ?_
     simp only [zD]
     with_reducible refine Qg.off (by kernel_rfl) ?_
     simp only [zD]
     with_reducible refine Qg.off (by kernel_rfl) ?_
     simp only [zD]
     with_reducible refine Qg.off (by kernel_rfl) ?_
     simp only [zD]
     with_reducible refine Qg.off (by kernel_rfl) ?_
     simp only [zD]
     refine Qg.val (by kernel_rfl) (.bool false) (fun _ _ => by kernel_rfl) ?_
     simp only [zD]
     refine wpQuiet_nil ?_
     intro w' hb
     refine Ks.norm ?_
     exact fin4 _ w' hb (by show Value.bool _ = _; unfold z3v; rw [decide_eq_false he]; simp) rfl
   ·rintro a' w3 ⟨hB3, f', e35, rfl⟩
    unfold z6e
    rw [e35]
    cases hb : z3v s x with
    | false =>
     obtain rfl : R = false := hfall hb
     refine wp_cond_true rfl ?_
     refine wp_seq ?_
     refine Ks.reg ?_
     refine Ks.v (.bool false) ?_
     simp only [zD]
     refine Ks.done ?_
     refine wp_ret ?_
     repeat (refine Ks.ret ?_)
     refine Ks.y2y ?_
     repeat (refine Ks.ret ?_)
     refine Ks.y2y ?_
     repeat (refine Ks.ret ?_)
     exact bodyPost_ret (v := .bool false) (by simp [results, Tryz.results89]) rfl ⟨rfl, hB3⟩
    | true =>
     refine wp_cond_false rfl ?_
     refine wp_skip ?_
     refine Ks.inb ?_
     refine Ks.reg ?_
     refine Ks.val rfl (.int .i64 ((k + 1 : Nat) : Int)) (by
      simp [execOp, go_sem]
      rw [IntWalk.i64_in _ ⟨by omega, by omega⟩]) ?_
     simp only [zD]
     refine Ks.v (.int .i64 ((k + 1 : Nat) : Int)) ?_
     simp only [zD]
     refine Ks.done ?_
     exact fin _ w3 (k + 1) (by omega) hlt (by rw [hsplit]; exact hb) hB3 rfl
  ·intro hlt
   obtain rfl : k = l.length := by have := of_decide_eq_false hlt; omega
   rw [List.take_of_length_le (Nat.le_refl _)] at h0
   obtain rfl : R = true := by rw [hR]; exact h0
   refine wp_exit ?_
   refine Ks.z3r ?_
   refine Ks.norm ?_
   refine wp_seq ?_
   refine Ks.reg ?_
   refine Ks.v (.bool true) ?_
   simp only [zD]
   refine Ks.done ?_
   refine wp_ret ?_
   repeat (refine Ks.ret ?_)
   refine bodyPost_ret (v := .bool true) (by simp [results, Tryz.results89]) rfl ?_
   exact ⟨rfl, hB⟩
def x3s (R : List UInt8 → List UInt8 → List UInt8 → Bool) (s : St) (o : List UInt8) : Int × St := if o = [] then (0, s) else if (clo R s o).1 = 6 then (0, s) else clo R s o
theorem y8i {R : List UInt8 → List UInt8 → List UInt8 → Bool} {s : St} {o : List UInt8} : (clo R s o).1 ≠ 0 → (clo R s o).2 = s := by
 unfold clo
 split
 ·exact fun _ => rfl
 ·split
  ·exact fun _ => rfl
  ·split
   ·exact fun _ => rfl
   ·exact fun h => absurd rfl h
theorem y8x {S : Nat → Prop} {w : World} {g : Nat} {s : St} (h : z0h S w g s) (o : List UInt8) (ht : Hs.z0j w) : Calls Tryz.prog 90 #[.pointer (some ⟨g, 0, none⟩), .string ⟨o.toArray⟩] w fun e w' => ∃ v, e = .returned v ∧ v = .int .i64 (x3s Gw.z0n s o).1 ∧ z0h S w' g (x3s Gw.z0n s o).2 ∧ Fr S w.heap.size w w' := by
 go_enter Tryz.func90, Tryz.ntmps90
 refine wp_seq ?_
 refine Ks.reg ?_
 refine Ks.v (.int .i64 0) ?_
 simp only [zD]
 refine Ks.done ?_
 refine wp_seq ?_
 refine wp_seq ?_
 refine Ks.reg ?_
 refine Ks.v (.string ⟨o.toArray⟩) ?_
 simp only [zD]
 refine Ks.val rfl (.bool (decide (o = []))) (by
  simp [execOp, go_sem]
  cases o <;> rfl) ?_
 simp only [zD]
 refine Ks.done ?_
 by_cases ho : o = []
 ·rw [decide_eq_true ho]
  refine wp_cond_true rfl ?_
  refine wp_seq ?_
  refine Ks.reg ?_
  refine Ks.v (.int .i64 0) ?_
  simp only [zD]
  refine Ks.done ?_
  refine wp_ret ?_
  repeat (refine Ks.ret ?_)
  refine bodyPost_ret (v := .int .i64 0) (by simp [results, Tryz.results90]) rfl ?_
  unfold x3s
  rw [if_pos ho]
  exact ⟨_, rfl, rfl, h, Fr.refl _ _ _⟩
 ·rw [decide_eq_false ho]
  have hH : x3s Gw.z0n s o = if (y2o s o).1 = 6 then (0, s) else y2o s o := if_neg ho
  rw [hH]
  refine wp_cond_false rfl ?_
  refine wp_skip ?_
  refine Ks.norm ?_
  refine wp_seq ?_
  refine wp_seq ?_
  refine Ks.reg ?_
  refine Ks.v (.pointer (some ⟨g, 0, none⟩)) ?_
  simp only [zD]
  refine Ks.v (.string ⟨o.toArray⟩) ?_
  simp only [zD]
  refine Ks.call rfl 71 #[.pointer (some ⟨g, 0, none⟩), .string ⟨o.toArray⟩] (by kernel_rfl) (R := fun v w' => v = .int .i64 (y2o s o).1 ∧ z0h S w' g (y2o s o).2 ∧ Fr S w.heap.size w w') ((x5v h o ht).mono fun e w' hx => ⟨_, hx.1, rfl, hx.2⟩) ?_
  rintro _ w1 ⟨rfl, hP, hF⟩
  obtain ⟨c, hc⟩ : ∃ c, c = (y2o s o).1 := ⟨_, rfl⟩
  rw [← hc]
  simp only [zD]
  refine Ks.v (.int .i64 c) ?_
  simp only [zD]
  refine Ks.done ?_
  refine wp_seq ?_
  refine Ks.reg ?_
  refine Ks.v (.int .i64 c) ?_
  simp only [zD]
  refine Ks.v (.bool (!decide (c = 6))) ?_
  simp only [zD]
  refine Ks.done ?_
  by_cases h6 : c = 6
  ·rw [decide_eq_true h6, if_pos h6]
   have hs : (y2o s o).2 = s := y8i (by show (y2o s o).1 ≠ 0; rw [← hc, h6]; decide)
   rw [hs] at hP
   refine wp_cond_false rfl ?_
   refine wp_skip ?_
   refine Ks.norm ?_
   refine wp_seq ?_
   refine Ks.reg ?_
   refine Ks.v (.int .i64 0) ?_
   simp only [zD]
   refine Ks.done ?_
   refine wp_ret ?_
   repeat (refine Ks.ret ?_)
   refine bodyPost_ret (v := .int .i64 0) (by simp [results, Tryz.results90]) rfl ?_
   exact ⟨_, rfl, rfl, hP, hF⟩
  ·rw [decide_eq_false h6, if_neg h6]
   refine wp_cond_true rfl ?_
   refine wp_seq ?_
   refine Ks.reg ?_
   refine Ks.v (.int .i64 c) ?_
   simp only [zD]
   refine Ks.v (.int .i64 c) ?_
   simp only [zD]
   refine Ks.done ?_
   refine wp_ret ?_
   repeat (refine Ks.ret ?_)
   refine bodyPost_ret (v := .int .i64 c) (by simp [results, Tryz.results90]) rfl ?_
   exact ⟨_, rfl, by rw [hc], hP, hF⟩
end Gt
end Go.Proofs.YtbojijefenfbgaaGreatDoor

/- Walk of the package posternkeep's town. A town at play. Walk of the package posternkeep's play. -/
import Derived.Test.YtbojijefenfbgaaGreatDoorFfShort
import Derived.Test.YtbojijefenfbgaaGreatDoorFfLawF
namespace Go.Proofs.YtbojijefenfbgaaGreatDoor
open Go Go.RowKit
namespace Tn
open Mp Bk Tk Gw Gt
def news (k : List UInt8) (n : Nat) : List St := (List.range n).map fun j : Nat => St.new (3 * (j : Int)) k
theorem x6x (k : List UInt8) (n : Nat) : news k (n + 1) = news k n ++ [St.new (3 * (n : Int)) k] := by simp [news, List.range_succ]
theorem q9x : (Tryz.prog.info? 62).map (fun i => (i.zero, i.size, i.bytes)) = some (some (.pointer none), 1, 8) := by kernel_rfl
def y4d (sd k : List UInt8) (lv : Value) (i : Nat) (f : Nat → Value) : Act := { tmps := #[str sd, f 1, .slice none 0 0, .bool false, .bool true, str k, .int .i64 0, lv, .int .i64 (i : Int), f 9, f 10, f 11, f 12, f 13, f 14, f 15, f 16, f 17, f 18, f 19, f 20, f 21, f 22, f 23, f 24, f 25, f 26, f 27, f 28, f 29, f 30, f 31, f 32, f 33, f 34, f 35, f 36, f 37, f 38, f 39, f 40, f 41, f 42, f 43, f 44], defers := [] }
set_option maxRecDepth 10000 in
theorem k5v (sd : List UInt8) (w : World) (ht : Hs.z0j w) : Calls Tryz.prog 24 #[str sd] w fun e w' => ∃ v, e = .returned v ∧ (∃ lv ps O, v = .tuple #[lv, .bool true] ∧ ps.map Prod.snd = news (z7h (z1u sd)) 4 ∧ TIn O w.heap.size w' ps ∧ Row (fun b => w.heap.size ≤ b ∧ y7f O b) w' 62 1 lv ps.length (ps.map ptr)) ∧ Below w.heap.size w w' := by
 have hkl := q1w (z1u sd)
 have hkn : (z7h (z1u sd)).length ≤ 281474976710656 := by rw [Gw.y5v, Gw.z3w]; decide
 have Hkey := x7s (z1u sd) (z6g sd)
 generalize z7h (z1u sd) = k at *
 go_enter Tryz.func24, Tryz.ntmps24
 refine wp_seq ?_
 refine Ks.reg ?_
 refine Ks.v (.slice none 0 0) ?_
 simp only [zD]
 refine Ks.v (.bool false) ?_
 simp only [zD]
 refine Ks.done ?_
 refine wp_seq ?_
 refine Ks.reg ?_
 refine Ks.call rfl 70 #[] (by kernel_rfl) (R := fun v w' => v = .bool true ∧ Below w.heap.size w w') (Calls.mono (q8d w ht) fun e w' h => ⟨_, h.1, rfl, h.2⟩) ?_
 rintro _ w1 ⟨rfl, hb1⟩
 simp only [zD]
 refine Ks.v (.bool true) ?_
 simp only [zD]
 refine Ks.done ?_
 refine wp_seq ?_
 refine Ks.reg ?_
 refine Ks.v (str sd) ?_
 simp only [zD]
 refine Ks.call rfl 29 #[str sd] (by kernel_rfl) (R := fun v w' => v = str (z1u sd) ∧ Below w1.heap.size w1 w') (Calls.mono (x8j sd w1) fun e w' h => ⟨_, h.1, rfl, h.2⟩) ?_
 rintro _ w2 ⟨rfl, hb2⟩
 have hB2 : Below w.heap.size w w2 := hb1.trans (hb2.mono hb1.size)
 simp only [zD]
 refine Ks.call rfl 34 #[str (z1u sd)] (by kernel_rfl) (R := fun v w' => v = .tuple #[str k, .int .i64 0] ∧ Below w2.heap.size w2 w') (Calls.mono (Hkey w2 (ht.below hB2 ht.lt)) fun e w' h => ⟨_, h.1, rfl, h.2⟩) ?_
 rintro _ w3 ⟨rfl, hb3⟩
 have hB3 : Below w.heap.size w w3 := hB2.trans (hb3.mono hB2.size)
 generalize z1u sd = sl at *
 simp only [zD]
 refine Ks.v (.tuple #[str k, .int .i64 0]) ?_
 simp only [zD]
 refine Ks.v (str k) ?_
 simp only [zD]
 refine Ks.v (.int .i64 0) ?_
 simp only [zD]
 refine Ks.v (str k) ?_
 simp only [zD]
 refine Ks.v (.int .i64 0) ?_
 simp only [zD]
 refine Ks.done ?_
 refine wp_seq ?_
 refine Ks.reg ?_
 refine Ks.v (.slice none 0 0) ?_
 simp only [zD]
 refine Ks.done ?_
 refine wp_seq ?_
 refine wp_seq ?_
 refine Ks.reg ?_
 refine Ks.v (.int .i64 0) ?_
 simp only [zD]
 refine Ks.done ?_
 refine wp_block ?_
 refine Ks.loop (fun m a wr => ∃ (i : Nat) (lv : Value) (ps : List (Nat × St)) (O : Nat → Nat → Prop) (f : Nat → Value), i ≤ 4 ∧ m = 4 - i ∧ ps.map Prod.snd = news k i ∧ TIn O w.heap.size wr ps ∧ Row (fun b => w.heap.size ≤ b ∧ y7f O b) wr 62 1 lv ps.length (ps.map ptr) ∧ Below w.heap.size w wr ∧ a = y4d sd k lv i f) 4 ⟨0, _, [], fun _ _ => False, fun j => Array.getD #[undef, undef, undef, undef, undef, undef, undef, undef, undef, undef, undef, .bool true, .tuple #[str k, .int .i64 0], str sd, str sl, .tuple #[str k, .int .i64 0], str k, .int .i64 0] j undef, by omega, rfl, rfl, TIn.start (ht.below hB3 ht.lt) _ ht.lt hB3.size, Row.nil _ _ _ _, hB3, rfl⟩ ?_
 clear hB3 hb3 hB2 hb2 hb1
 rintro m a wr ⟨i, lv, ps, O, f, hi, rfl, hps, hT, hrow, hB, rfl⟩
 have fin : ∀ (a' : Act) (w' : World) (i' : Nat) (lv : Value) (ps : List (Nat × St)) (O : Nat → Nat → Prop), i < i' → i' ≤ 4 → ps.map Prod.snd = news k i' → TIn O w.heap.size w' ps → Row (fun b => w.heap.size ≤ b ∧ y7f O b) w' 62 1 lv ps.length (ps.map ptr) → Below w.heap.size w w' → a' = y4d sd k lv i' (fun j => a'.tmps.getD j undef) → ∃ m, m < 4 - i ∧ ∃ (i : Nat) (lv : Value) (ps : List (Nat × St)) (O : Nat → Nat → Prop) (f : Nat → Value), i ≤ 4 ∧ m = 4 - i ∧ ps.map Prod.snd = news k i ∧ TIn O w.heap.size w' ps ∧ Row (fun b => w.heap.size ≤ b ∧ y7f O b) w' 62 1 lv ps.length (ps.map ptr) ∧ Below w.heap.size w w' ∧ a' = y4d sd k lv i f := fun a' w' i' lv ps O q1 q2 q3 q4 q5 q6 q7 => ⟨4 - i', by omega, i', lv, ps, O, _, q2, rfl, q3, q4, q5, q6, q7⟩
 have hlen : ps.length = i := by
  have := congrArg List.length hps
  simpa [news] using this
 unfold y4d
 refine wp_seq ?_
 refine wp_seq ?_
 refine Ks.reg ?_
 refine Ks.v (.int .i64 (i : Int)) ?_
 simp only [zD]
 refine Ks.v (.bool (decide ((i : Int) < 4))) ?_
 simp only [zD]
 refine Ks.done ?_
 refine wp_cond_split rfl ?_ ?_
 ·intro hlt
  have hlt : i < 4 := by have := of_decide_eq_true hlt; omega
  refine wp_skip ?_
  refine Ks.norm ?_
  refine wp_seq ?_
  refine wp_block ?_
  refine wp_seq ?_
  refine Ks.reg ?_
  refine Ks.v (.int .i64 (i : Int)) ?_
  simp only [zD]
  refine Ks.val rfl (.int .i64 (3 * (i : Int))) (by
   simp [execOp, go_sem]
   exact IntWalk.i64_in _ ⟨by omega, by omega⟩) ?_
  simp only [zD]
  refine Ks.v (str k) ?_
  simp only [zD]
  refine Ks.call rfl 35 #[.int .i64 (3 * (i : Int)), str k] (by kernel_rfl) (q8x (3 * (i : Int)) k (by simp [bet]; omega) hkl hkn wr) ?_
  rintro _ w1 ⟨⟨g, rfl, hg⟩, hb1⟩
  obtain ⟨O1, hT1, hK1⟩ := hT.push hb1 hg
  have hrow1 := hK1.row hrow
  have hB1 : Below w.heap.size w w1 := hB.trans (hb1.mono hB.size)
  simp only [zD]
  refine Ks.v (.tuple #[.pointer (some ⟨g, 0, none⟩), .int .i64 0]) ?_
  simp only [zD]
  refine Ks.v (.pointer (some ⟨g, 0, none⟩)) ?_
  simp only [zD]
  refine Ks.v (.int .i64 0) ?_
  simp only [zD]
  refine Ks.v (.pointer (some ⟨g, 0, none⟩)) ?_
  simp only [zD]
  refine Ks.v (.int .i64 0) ?_
  simp only [zD]
  refine Ks.done ?_
  refine wp_seq ?_
  refine wp_seq ?_
  refine Ks.reg ?_
  refine Ks.v (.pointer (some ⟨g, 0, none⟩)) ?_
  simp only [zD]
  refine Ks.v (.bool false) ?_
  simp only [zD]
  refine Ks.v (.bool false) ?_
  simp only [zD]
  refine Ks.g (.int .i64 0) ?_
  simp only [zD]
  refine Ks.g (.bool false) ?_
  simp only [zD]
  refine Ks.v (.bool false) ?_
  simp only [zD]
  refine Ks.done ?_
  refine wp_cond_false rfl ?_
  refine wp_skip ?_
  refine Ks.norm ?_
  refine Ks.reg ?_
  refine Ks.v (lv) ?_
  simp only [zD]
  refine Ks.v (.pointer (some ⟨g, 0, none⟩)) ?_
  simp only [zD]
  refine Ks.push rfl rfl 57 62 _ _ _ rfl rfl (.pointer (some ⟨g, 0, none⟩)) (.pointer none) rfl #[.pointer (some ⟨g, 0, none⟩)] 1 8 Tryz.underlying57 q9x (by decide) (by decide) (by kernel_rfl) rfl (by decide) _ lv ps.length (ps.map ptr) (fun _ => rfl) (fun _ => rfl) hrow1 rfl (by simp [Value.oneCell']) (by omega) ?_
  intro u lv' w2 hr2 hf2
  have hT2 := hT1.fr hf2 fun b hb => hrow1.2 b hb
  have hB2 : Below w.heap.size w w2 := hB1.trans (hf2.below hB1.size fun k hk e => by have := (hrow1.2 k e).1; omega)
  simp only [zD]
  refine Ks.v (lv') ?_
  simp only [zD]
  refine Ks.fin ?_
  refine Ks.inb ?_
  refine Ks.reg ?_
  refine Ks.v (.int .i64 (i : Int)) ?_
  simp only [zD]
  refine Ks.val rfl (.int .i64 ((i + 1 : Nat) : Int)) (by
   simp [execOp, go_sem]
   exact IntWalk.i64_in _ ⟨by omega, by omega⟩) ?_
  simp only [zD]
  refine Ks.v (.int .i64 ((i + 1 : Nat) : Int)) ?_
  simp only [zD]
  refine Ks.done ?_
  refine fin _ w2 (i + 1) lv' (ps ++ [(g, St.new (3 * (i : Int)) k)]) O1 (by omega) hlt ?_ hT2 ?_ hB2 rfl
  ·rw [List.map_append, hps, x6x]
   rfl
  ·rw [List.length_append, List.map_append]
   refine hr2.mono fun b hb => ?_
   rcases hb with hb | hb
   ·exact hb
   ·exact ⟨Nat.le_trans hB1.size hb, fun j hj => by have := (hT1.lt b j hj).2; omega⟩
 ·intro hlt
  obtain rfl : i = 4 := by have := of_decide_eq_false hlt; omega
  refine wp_exit ?_
  refine Ks.z3q ?_
  refine wp_seq ?_
  refine Ks.reg ?_
  refine Ks.v (lv) ?_
  simp only [zD]
  refine Ks.v (.bool true) ?_
  simp only [zD]
  refine Ks.v (.bool true) ?_
  simp only [zD]
  refine Ks.g (.int .i64 0) ?_
  simp only [zD]
  refine Ks.g (.bool true) ?_
  simp only [zD]
  refine Ks.v (.bool true) ?_
  simp only [zD]
  refine Ks.v (lv) ?_
  simp only [zD]
  refine Ks.v (.bool true) ?_
  simp only [zD]
  refine Ks.done ?_
  refine wp_ret ?_
  repeat (refine Ks.ret ?_)
  refine bodyPost_ret (v := .tuple #[lv, .bool true]) (by simp [results, Tryz.results24]) rfl ?_
  exact ⟨_, rfl, ⟨lv, ps, O, rfl, hps, hT, hrow⟩, hB⟩
end Tn
end Go.Proofs.YtbojijefenfbgaaGreatDoor
namespace Go.Proofs.YtbojijefenfbgaaGreatDoor
open Go Go.RowKit
namespace Tn
open Mp Bk Tk Gw Gt
noncomputable def q9c (l : List UInt8) (f : Int) : List UInt8 := j1u l f.toNat
def noF (_ : Int) : Prop := False
theorem x7l (l : List UInt8) : Orders z0q (z7h l) noF (q9c l) := ⟨fun _f hf => hf.elim, fun _f hf => hf.elim, fun _f hf => hf.elim⟩
theorem x9a (l : List UInt8) (e s c : Nat) : k1f z0q (z7h l) (tick l e s c) := ⟨q4g l e s c, x9b l e s c, x4b l e s c⟩
structure S4 where
 gate : Int
 what : Int
 ticket : Int
 most : Int
def s4C (o : S4) : List Value := [.int .i64 o.gate, .int .i64 o.what, .int .i64 o.ticket, .int .i64 o.most]
structure S4.In (o : S4) : Prop where
 gate : I64 o.gate
 what : I64 o.what
 ticket : I64 o.ticket
 most : I64 o.most
structure k9d (O : Nat → Nat → Prop) (w : World) (a0 : Option Addr) (os : List S4) : Prop where
 at_ : os = [] ∨ ∃ sb so, a0 = some ⟨sb, so, none⟩ ∧ sb < w.heap.size ∧ y7f O sb ∧ ∀ (i : Nat) (o : S4), os[i]? = some o → w.rangeAt sb (so + i * 4) (s4C o)
 all : ∀ o ∈ os, o.In
structure z1k (k : List UInt8) (ok : Int → Prop) (ord : Int → List UInt8) (z2m : List Int) (N : Nat) (w : World) (lv : Value) (O : Nat → Nat → Prop) (ps : List (Nat × St)) (m : Nat) (P : Int × Int → Int × Int) (ow : Int → Int) : Prop where
 tin : TIn O N w ps
 gts : Gts k ok ord z2m P ow m (ps.map Prod.snd)
 row : Row (fun b => N ≤ b ∧ y7f O b) w 62 1 lv 4 ((ps.take 4).map ptr)
 four : 4 ≤ ps.length
variable {k : List UInt8} {ok : Int → Prop} {ord : Int → List UInt8} {z2m : List Int} {N : Nat} {w w' : World} {lv : Value} {O : Nat → Nat → Prop} {ps : List (Nat × St)} {m : Nat} {P : Int × Int → Int × Int} {ow : Int → Int}
theorem z1k.below (h : z1k k ok ord z2m N w lv O ps m P ow) (hb : Below w.heap.size w w') : z1k k ok ord z2m N w' lv O ps m P ow :=
 ⟨h.tin.below hb, h.gts, (Kept.below hb).row h.row, h.four⟩
theorem q9z {ps : List (Nat × St)} {i : Nat} {p : Nat × St} (hp : ps[i]? = some p) (s' : St) : (ps.set i (p.1, s')).map Prod.fst = ps.map Prod.fst := by
 rw [List.map_set]
 apply List.ext_getElem?
 intro j
 rw [List.getElem?_set]
 split
 ·rename_i e
  subst e
  split
  ·rw [List.getElem?_map, hp]; rfl
  ·rename_i hlt
   rw [List.length_map] at hlt
   exact absurd (List.getElem?_eq_some_iff.1 hp).1 hlt
 ·rfl
theorem q9y (l l' : List (Nat × St)) (h : l.map Prod.fst = l'.map Prod.fst) (n : Nat) : (l.take n).map ptr = (l'.take n).map ptr := by
 have e : ∀ x : List (Nat × St), (x.take n).map ptr = ((x.map Prod.fst).take n).map fun g => Value.pointer (some ⟨g, 0, none⟩) := fun x => by
  rw [← List.map_take, List.map_map]
  rfl
 rw [e, e, h]
theorem z1k.turn (h : z1k k ok ord z2m N w lv O ps m P ow) {i : Nat} {p : Nat × St} (hp : ps[i]? = some p) {s' : St} (hf : Fr (fun b => O b i) w.heap.size w w') (hg : z0i (fun b => O b i ∨ w.heap.size ≤ b) w' p.1 s') {m' : Nat} {P' : Int × Int → Int × Int} {ow' : Int → Int} (hG : Gts k ok ord z2m P' ow' m' ((ps.map Prod.snd).set i s')) :
  ∃ O', z1k k ok ord z2m N w' lv O' (ps.set i (p.1, s')) m' P' ow' ∧ Kept O w O' w' := by
 obtain ⟨O', hT, hK⟩ := h.tin.turn hp hf hg
 refine ⟨O', ⟨hT, by rw [List.map_set]; exact hG, ?_, by rw [List.length_set]; exact h.four⟩, hK⟩
 rw [q9y _ ps (q9z hp s')]
 exact hK.row h.row
theorem z1k.at_ (h : z1k k ok ord z2m N w lv O ps m P ow) {i : Nat} {p : Nat × St} (hp : ps[i]? = some p) : z0i (fun b => O b i) w p.1 p.2 ∧ Gt1 k ok ord P ow p.2 ∧ (ps.map Prod.snd)[i]? = some p.2 := by
 have h1 : (ps.map Prod.snd)[i]? = some p.2 := by rw [List.getElem?_map, hp]; rfl
 exact ⟨h.tin.gates i p hp, h.gts.all _ (List.mem_of_getElem? h1), h1⟩
def q6c (z2m : List Int) : Prop := ∀ i j n m, i < 4 → j ≠ i → z2m[i]? = some n → z2m[j]? = some m → m ≠ n
theorem z1k.y2a (h : z1k k ok ord z2m N w lv O ps m P ow) (hA : q6c z2m) {i : Nat} (hi : i < 4) {p : Nat × St} (hp : ps[i]? = some p) (hm : m < 1000) {t : List UInt8} (ht : k1f z0q k t) (hf : Fr (fun b => O b i) w.heap.size w w') (hg : z0i (fun b => O b i ∨ w.heap.size ≤ b) w' p.1 (y7d p.2 t).2) :
  ((y7d p.2 t).1 = 0 ∨ (y7d p.2 t).1 = 6 ∨ (y7d p.2 t).1 = 7) ∧ ∃ O' P' ow', z1k k ok ord z2m N w' lv O' (ps.set i (p.1, (y7d p.2 t).2)) (m + 1) P' ow' ∧ Kept O w O' w' ∧ q6f P P' ow ow' := by
 obtain ⟨h1, h2, h3⟩ := h.at_ hp
 obtain ⟨hc, P', ow', hgr, hG⟩ := h.gts.y2a (R := z0q) h3 (fun j n hj hn => hA i j p.2.number n hi hj (by rw [← h.gts.z2m, List.getElem?_map, h3]; rfl) hn) hm ht
 obtain ⟨O', hT, hK⟩ := h.turn hp hf hg hG
 exact ⟨hc, O', P', ow', hT, hK, hgr⟩
theorem z1k.meets (h : z1k k ok ord z2m N w lv O ps m P ow) (hO : Orders z0q k ok ord) {i j : Nat} {p q : Nat × St} (hp : ps[i]? = some p) (hq : ps[j]? = some q) (most : Nat) :
  (z7u z0q q.2 (z1e p.2 q.2) (z1l p.2 q.2 most)).1 = 0 ∧ (Fr (fun b => O b j) w.heap.size w w' → z0i (fun b => O b j ∨ w.heap.size ≤ b) w' q.1 (z7u z0q q.2 (z1e p.2 q.2) (z1l p.2 q.2 most)).2 →
  ∃ O', z1k k ok ord z2m N w' lv O' (ps.set j (q.1, (z7u z0q q.2 (z1e p.2 q.2) (z1l p.2 q.2 most)).2)) m P ow ∧ Kept O w O' w') := by
 obtain ⟨h1, h2, h3⟩ := h.at_ hp
 obtain ⟨g1, g2, g3⟩ := h.at_ hq
 obtain ⟨m1, m2, m3, m4, m5⟩ := Gt1.meets hO h2 g2 most
 exact ⟨m1, fun hf hg => h.turn hq hf hg (h.gts.set g3 m2 m4)⟩
end Tn
end Go.Proofs.YtbojijefenfbgaaGreatDoor
namespace Go.Proofs.YtbojijefenfbgaaGreatDoor
open Go Go.RowKit
namespace Tn
open Mp Bk Tk Gw Gt
section
variable {k : List UInt8} {ok : Int → Prop} {ord : Int → List UInt8} {z2m : List Int} {N : Nat} {w w' : World} {lv : Value} {O : Nat → Nat → Prop} {ps : List (Nat × St)} {m : Nat} {P : Int × Int → Int × Int} {ow : Int → Int}
theorem z1k.list (h : z1k k ok ord z2m N w lv O ps m P ow) : ∃ gb gc, lv = .slice (some ⟨gb, 0, none⟩) 4 gc := by
 obtain ⟨p, cap, e, hc⟩ := Row.form h.row
 obtain ⟨g, cur, e2, _⟩ := hc 0 (by decide)
 exact ⟨g, cap, by rw [e, e2]⟩
theorem z1k.cell {gb gc : Nat} (h : z1k k ok ord z2m N w (.slice (some ⟨gb, 0, none⟩) 4 gc) O ps m P ow) : gb < w.heap.size ∧ ∀ i p, i < 4 → ps[i]? = some p → w.cell? ⟨gb, i * 1, none⟩ = some (.pointer (some ⟨p.1, 0, none⟩)) := by
 rcases h.row.1.2 with ⟨e, _⟩ | ⟨g, cap, cur, e, _, hg, _, _, _, h4⟩
 ·cases e
 ·injection e with e1 e2 e3
  injection e1 with e1
  injection e1 with e1
  subst e1
  refine ⟨(Array.getElem?_eq_some_iff.1 hg).1, fun i p hi hp => ?_⟩
  refine (cell_of_row w gb (i * 1) _ _ _ hg).trans ?_
  have h5 : (cur.toList.take (4 * 1))[i]? = ((ps.take 4).map ptr)[i]? := by rw [h4]
  rw [List.getElem?_take_of_lt (by omega), List.getElem?_map, List.getElem?_take_of_lt hi, hp] at h5
  rw [Nat.mul_one]
  simpa [ptr] using h5
structure On (k : List UInt8) (ok : Int → Prop) (ord : Int → List UInt8) (z2m : List Int) (N : Nat) (lv : Value) (O : Nat → Nat → Prop) (w : World) (ps : List (Nat × St)) (P : Int × Int → Int × Int) (ow : Int → Int) (w' : World) (ps' : List (Nat × St)) (m : Nat) (O' : Nat → Nat → Prop) (P' : Int × Int → Int × Int) (ow' : Int → Int) : Prop where
 town : z1k k ok ord z2m N w' lv O' ps' m P' ow'
 kept : Kept O w O' w'
 grew : q6f P P' ow ow'
 same : ps'.map Prod.fst = ps.map Prod.fst
 rest : ∀ j : Nat, 4 ≤ j → ps'[j]? = ps[j]?
end
end Tn
end Go.Proofs.YtbojijefenfbgaaGreatDoor

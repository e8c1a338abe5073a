/- Walk of the package posternkeep's town. A town at play. Walk of the package posternkeep's play. -/
import Derived.Test.YtbojijefenfbgaaGreatDoorTtLawF
set_option maxRecDepth 100000
namespace Go.Proofs.YtbojijefenfbgaaGreatDoor
open Go Go.RowKit
namespace Tn
open Mp Bk Tk Gw Gt
def news (k : List UInt8) (n : Nat) : List St := (List.range n).map fun j : Nat => St.new (3 * (j : Int)) k
theorem x7p (k : List UInt8) (n : Nat) : news k (n + 1) = news k n ++ [St.new (3 * (n : Int)) k] := by simp [news, List.range_succ]
theorem k0v : (Tryz.prog.info? 62).map (fun i => (i.zero, i.size, i.bytes)) = some (some (.pointer none), 1, 8) := by kernel_rfl
def y4z (sd k : List UInt8) (lv : Value) (i : Nat) (f : Nat → Value) : Act := { tmps := #[str sd, f 1, .slice none 0 0, .bool false, .bool true, str k, .int .i64 0, lv, .int .i64 (i : Int), f 9, f 10, f 11, f 12, f 13, f 14, f 15, f 16, f 17, f 18, f 19, f 20, f 21, f 22, f 23, f 24, f 25, f 26, f 27, f 28, f 29, f 30, f 31, f 32, f 33, f 34, f 35, f 36, f 37, f 38, f 39, f 40, f 41, f 42, f 43, f 44], defers := [] }
theorem k6y (sd : List UInt8) (w : World) (ht : Hs.z0j w) : Calls Tryz.prog 24 #[str sd] w fun e w' => ∃ v, e = .returned v ∧ (∃ lv ps O, v = .tuple #[lv, .bool true] ∧ ps.map Prod.snd = news (z6v (z1h sd)) 4 ∧ TIn O w.heap.size w' ps ∧ Row (fun b => w.heap.size ≤ b ∧ z9b O b) w' 62 1 lv ps.length (ps.map ptr)) ∧ Below w.heap.size w w' := by
 have hkl := x1d (z1h sd)
 have hkn : (z6v (z1h sd)).length ≤ 281474976710656 := by rw [Gw.y2u, Gw.z3f]; decide
 have Hkey := x1v (z1h sd) (z4i sd)
 generalize z6v (z1h sd) = k at *
 go_enter Tryz.func24, Tryz.ntmps24
 refine wp_seq ?_
 refine Ks.reg ?_
 refine Ks.v (.slice none 0 0) ?_
 simp only [zD]
 refine Ks.v (.bool false) ?_
 simp only [zD]
 refine Ks.done ?_
 refine wp_seq ?_
 refine Ks.reg ?_
 refine Ks.call rfl 70 #[] (by kernel_rfl) (R := fun v w' => v = .bool true ∧ Below w.heap.size w w') (Calls.mono (q9c w ht) fun e w' h => ⟨_, h.1, rfl, h.2⟩) ?_
 rintro _ w1 ⟨rfl, hb1⟩
 simp only [zD]
 refine Ks.v (.bool true) ?_
 simp only [zD]
 refine Ks.done ?_
 refine wp_seq ?_
 refine Ks.reg ?_
 refine Ks.v (str sd) ?_
 simp only [zD]
 refine Ks.call rfl 29 #[str sd] (by kernel_rfl) (R := fun v w' => v = str (z1h sd) ∧ Below w1.heap.size w1 w') (Calls.mono (y7p sd w1) fun e w' h => ⟨_, h.1, rfl, h.2⟩) ?_
 rintro _ w2 ⟨rfl, hb2⟩
 have hB2 : Below w.heap.size w w2 := hb1.trans (hb2.mono hb1.size)
 simp only [zD]
 refine Ks.call rfl 34 #[str (z1h sd)] (by kernel_rfl) (R := fun v w' => v = .tuple #[str k, .int .i64 0] ∧ Below w2.heap.size w2 w') (Calls.mono (Hkey w2 (ht.below hB2 ht.lt)) fun e w' h => ⟨_, h.1, rfl, h.2⟩) ?_
 rintro _ w3 ⟨rfl, hb3⟩
 have hB3 : Below w.heap.size w w3 := hB2.trans (hb3.mono hB2.size)
 generalize z1h sd = sl at *
 simp only [zD]
 refine Ks.v (.tuple #[str k, .int .i64 0]) ?_
 simp only [zD]
 refine Ks.v (str k) ?_
 simp only [zD]
 refine Ks.v (.int .i64 0) ?_
 simp only [zD]
 refine Ks.v (str k) ?_
 simp only [zD]
 refine Ks.v (.int .i64 0) ?_
 simp only [zD]
 refine Ks.done ?_
 refine wp_seq ?_
 refine Ks.reg ?_
 refine Ks.v (.slice none 0 0) ?_
 simp only [zD]
 refine Ks.done ?_
 refine wp_seq ?_
 refine wp_seq ?_
 refine Ks.reg ?_
 refine Ks.v (.int .i64 0) ?_
 simp only [zD]
 refine Ks.done ?_
 refine wp_block ?_
 refine Ks.loop (fun m a wr => ∃ (i : Nat) (lv : Value) (ps : List (Nat × St)) (O : Nat → Nat → Prop) (f : Nat → Value), i ≤ 4 ∧ m = 4 - i ∧ ps.map Prod.snd = news k i ∧ TIn O w.heap.size wr ps ∧ Row (fun b => w.heap.size ≤ b ∧ z9b O b) wr 62 1 lv ps.length (ps.map ptr) ∧ Below w.heap.size w wr ∧ a = y4z sd k lv i f) 4 ⟨0, _, [], fun _ _ => False, fun j => Array.getD #[undef, undef, undef, undef, undef, undef, undef, undef, undef, undef, undef, .bool true, .tuple #[str k, .int .i64 0], str sd, str sl, .tuple #[str k, .int .i64 0], str k, .int .i64 0] j undef, by omega, rfl, rfl, TIn.start (ht.below hB3 ht.lt) _ ht.lt hB3.size, Row.nil _ _ _ _, hB3, rfl⟩ ?_
 clear hB3 hb3 hB2 hb2 hb1
 rintro m a wr ⟨i, lv, ps, O, f, hi, rfl, hps, hT, hrow, hB, rfl⟩
 have fin : ∀ (a' : Act) (w' : World) (i' : Nat) (lv : Value) (ps : List (Nat × St)) (O : Nat → Nat → Prop), i < i' → i' ≤ 4 → ps.map Prod.snd = news k i' → TIn O w.heap.size w' ps → Row (fun b => w.heap.size ≤ b ∧ z9b O b) w' 62 1 lv ps.length (ps.map ptr) → Below w.heap.size w w' → a' = y4z sd k lv i' (fun j => a'.tmps.getD j undef) → ∃ m, m < 4 - i ∧ ∃ (i : Nat) (lv : Value) (ps : List (Nat × St)) (O : Nat → Nat → Prop) (f : Nat → Value), i ≤ 4 ∧ m = 4 - i ∧ ps.map Prod.snd = news k i ∧ TIn O w.heap.size w' ps ∧ Row (fun b => w.heap.size ≤ b ∧ z9b O b) w' 62 1 lv ps.length (ps.map ptr) ∧ Below w.heap.size w w' ∧ a' = y4z sd k lv i f := fun a' w' i' lv ps O q1 q2 q3 q4 q5 q6 q7 => ⟨4 - i', by omega, i', lv, ps, O, _, q2, rfl, q3, q4, q5, q6, q7⟩
 have hlen : ps.length = i := by
  have := congrArg List.length hps
  simpa [news] using this
 unfold y4z
 refine wp_seq ?_
 refine wp_seq ?_
 refine Ks.reg ?_
 refine Ks.v (.int .i64 (i : Int)) ?_
 simp only [zD]
 refine Ks.v (.bool (decide ((i : Int) < 4))) ?_
 simp only [zD]
 refine Ks.done ?_
 refine wp_cond_split rfl ?_ ?_
 ·intro hlt
  have hlt : i < 4 := by have := of_decide_eq_true hlt; omega
  refine wp_skip ?_
  refine Ks.norm ?_
  refine wp_seq ?_
  refine wp_block ?_
  refine wp_seq ?_
  refine Ks.reg ?_
  refine Ks.v (.int .i64 (i : Int)) ?_
  simp only [zD]
  refine Ks.val rfl (.int .i64 (3 * (i : Int))) (by
   simp [execOp, go_sem]
   exact IntWalk.i64_in _ ⟨by omega, by omega⟩) ?_
  simp only [zD]
  refine Ks.v (str k) ?_
  simp only [zD]
  refine Ks.call rfl 35 #[.int .i64 (3 * (i : Int)), str k] (by kernel_rfl) (y9c (3 * (i : Int)) k (by simp [bet]; omega) hkl hkn wr) ?_
  rintro _ w1 ⟨⟨g, rfl, hg⟩, hb1⟩
  obtain ⟨O1, hT1, hK1⟩ := hT.push hb1 hg
  have hrow1 := hK1.row hrow
  have hB1 : Below w.heap.size w w1 := hB.trans (hb1.mono hB.size)
  simp only [zD]
  refine Ks.v (.tuple #[.pointer (some ⟨g, 0, none⟩), .int .i64 0]) ?_
  simp only [zD]
  refine Ks.v (.pointer (some ⟨g, 0, none⟩)) ?_
  simp only [zD]
  refine Ks.v (.int .i64 0) ?_
  simp only [zD]
  refine Ks.v (.pointer (some ⟨g, 0, none⟩)) ?_
  simp only [zD]
  refine Ks.v (.int .i64 0) ?_
  simp only [zD]
  refine Ks.done ?_
  refine wp_seq ?_
  refine wp_seq ?_
  refine Ks.reg ?_
  refine Ks.v (.pointer (some ⟨g, 0, none⟩)) ?_
  simp only [zD]
  refine Ks.v (.bool false) ?_
  simp only [zD]
  refine Ks.v (.bool false) ?_
  simp only [zD]
  refine Ks.g (.int .i64 0) ?_
  simp only [zD]
  refine Ks.g (.bool false) ?_
  simp only [zD]
  refine Ks.v (.bool false) ?_
  simp only [zD]
  refine Ks.done ?_
  refine wp_cond_false rfl ?_
  refine wp_skip ?_
  refine Ks.norm ?_
  refine Ks.reg ?_
  refine Ks.v (lv) ?_
  simp only [zD]
  refine Ks.v (.pointer (some ⟨g, 0, none⟩)) ?_
  simp only [zD]
  refine Ks.push rfl rfl 57 62 _ _ _ rfl rfl (.pointer (some ⟨g, 0, none⟩)) (.pointer none) rfl #[.pointer (some ⟨g, 0, none⟩)] 1 8 Tryz.underlying57 k0v (by decide) (by decide) (by kernel_rfl) rfl (by decide) _ lv ps.length (ps.map ptr) (fun _ => rfl) (fun _ => rfl) hrow1 rfl (by simp [Value.oneCell']) (by omega) ?_
  intro u lv' w2 hr2 hf2
  have hT2 := hT1.fr hf2 fun b hb => hrow1.2 b hb
  have hB2 : Below w.heap.size w w2 := hB1.trans (hf2.below hB1.size fun k hk e => by have := (hrow1.2 k e).1; omega)
  simp only [zD]
  refine Ks.v (lv') ?_
  simp only [zD]
  refine Ks.fin ?_
  refine Ks.inb ?_
  refine Ks.reg ?_
  refine Ks.v (.int .i64 (i : Int)) ?_
  simp only [zD]
  refine Ks.val rfl (.int .i64 ((i + 1 : Nat) : Int)) (by
   simp [execOp, go_sem]
   exact IntWalk.i64_in _ ⟨by omega, by omega⟩) ?_
  simp only [zD]
  refine Ks.v (.int .i64 ((i + 1 : Nat) : Int)) ?_
  simp only [zD]
  refine Ks.done ?_
  refine fin _ w2 (i + 1) lv' (ps ++ [(g, St.new (3 * (i : Int)) k)]) O1 (by omega) hlt ?_ hT2 ?_ hB2 rfl
  ·rw [List.map_append, hps, x7p]
   rfl
  ·rw [List.length_append, List.map_append]
   refine hr2.mono fun b hb => ?_
   rcases hb with hb | hb
   ·exact hb
   ·exact ⟨Nat.le_trans hB1.size hb, fun j hj => by have := (hT1.lt b j hj).2; omega⟩
 ·intro hlt
  obtain rfl : i = 4 := by have := of_decide_eq_false hlt; omega
  refine wp_exit ?_
  refine Ks.z3r ?_
  refine wp_seq ?_
  refine Ks.reg ?_
  refine Ks.v (lv) ?_
  simp only [zD]
  refine Ks.v (.bool true) ?_
  simp only [zD]
  refine Ks.v (.bool true) ?_
  simp only [zD]
  refine Ks.g (.int .i64 0) ?_
  simp only [zD]
  refine Ks.g (.bool true) ?_
  simp only [zD]
  refine Ks.v (.bool true) ?_
  simp only [zD]
  refine Ks.v (lv) ?_
  simp only [zD]
  refine Ks.v (.bool true) ?_
  simp only [zD]
  refine Ks.done ?_
  refine wp_ret ?_
  repeat (refine Ks.ret ?_)
  refine bodyPost_ret (v := .tuple #[lv, .bool true]) (by simp [results, Tryz.results24]) rfl ?_
  exact ⟨_, rfl, ⟨lv, ps, O, rfl, hps, hT, hrow⟩, hB⟩
end Tn
open Go Go.RowKit
namespace Tn
open Mp Bk Tk Gw Gt
noncomputable def y9g (l : List UInt8) (f : Int) : List UInt8 := k2l l f.toNat
def noF (_ : Int) : Prop := False
theorem x8d (l : List UInt8) : Orders z0n (z6v l) noF (y9g l) := ⟨fun _f hf => hf.elim, fun _f hf => hf.elim, fun _f hf => hf.elim⟩
theorem x9t (l : List UInt8) (e s c : Nat) : k2s z0n (z6v l) (tick l e s c) := ⟨q4x l e s c, x9u l e s c, x4w l e s c⟩
structure S4 where
 gate : Int
 what : Int
 ticket : Int
 most : Int
def s4C (o : S4) : List Value := [.int .i64 o.gate, .int .i64 o.what, .int .i64 o.ticket, .int .i64 o.most]
structure S4.In (o : S4) : Prop where
 gate : I64 o.gate
 what : I64 o.what
 ticket : I64 o.ticket
 most : I64 o.most
structure q6z (O : Nat → Nat → Prop) (w : World) (a0 : Option Addr) (os : List S4) : Prop where
 at_ : os = [] ∨ ∃ sb so, a0 = some ⟨sb, so, none⟩ ∧ sb < w.heap.size ∧ z9b O sb ∧ ∀ (i : Nat) (o : S4), os[i]? = some o → w.rangeAt sb (so + i * 4) (s4C o)
 all : ∀ o ∈ os, o.In
theorem q6z.kept {O O' : Nat → Nat → Prop} {w w' : World} {a0 : Option Addr} {os : List S4} (h : q6z O w a0 os) (k : Kept O w O' w') : q6z O' w' a0 os := by
 refine ⟨?_, h.all⟩
 rcases h.at_ with e | ⟨sb, so, e, h1, h2, h3⟩
 ·exact Or.inl e
 ·exact Or.inr ⟨sb, so, e, Nat.lt_of_lt_of_le h1 k.size, (k.free sb h1 h2).1, fun i o ho => k.rng h1 h2 (h3 i o ho)⟩
structure z0v (k : List UInt8) (ok : Int → Prop) (ord : Int → List UInt8) (z1n : List Int) (N : Nat) (w : World) (lv : Value) (O : Nat → Nat → Prop) (ps : List (Nat × St)) (m : Nat) (P : Int × Int → Int × Int) (ow : Int → Int) : Prop where
 tin : TIn O N w ps
 gts : Gts k ok ord z1n P ow m (ps.map Prod.snd)
 row : Row (fun b => N ≤ b ∧ z9b O b) w 62 1 lv 4 ((ps.take 4).map ptr)
 four : 4 ≤ ps.length
variable {k : List UInt8} {ok : Int → Prop} {ord : Int → List UInt8} {z1n : List Int} {N : Nat} {w w' : World} {lv : Value} {O : Nat → Nat → Prop} {ps : List (Nat × St)} {m : Nat} {P : Int × Int → Int × Int} {ow : Int → Int}
theorem z0v.below (h : z0v k ok ord z1n N w lv O ps m P ow) (hb : Below w.heap.size w w') : z0v k ok ord z1n N w' lv O ps m P ow :=
 ⟨h.tin.below hb, h.gts, (Kept.below hb).row h.row, h.four⟩
theorem z0v.more {m' : Nat} (h : z0v k ok ord z1n N w lv O ps m P ow) (hm : m ≤ m') : z0v k ok ord z1n N w lv O ps m' P ow := ⟨h.tin, h.gts.more hm, h.row, h.four⟩
theorem x8m {ps : List (Nat × St)} {i : Nat} {p : Nat × St} (hp : ps[i]? = some p) (s' : St) : (ps.set i (p.1, s')).map Prod.fst = ps.map Prod.fst := by
 rw [List.map_set]
 apply List.ext_getElem?
 intro j
 rw [List.getElem?_set]
 split
 ·rename_i e
  subst e
  split
  ·rw [List.getElem?_map, hp]; rfl
  ·rename_i hlt
   rw [List.length_map] at hlt
   exact absurd (lL hp) hlt
 ·rfl
theorem k0w (l l' : List (Nat × St)) (h : l.map Prod.fst = l'.map Prod.fst) (n : Nat) : (l.take n).map ptr = (l'.take n).map ptr := by
 have e : ∀ x : List (Nat × St), (x.take n).map ptr = ((x.map Prod.fst).take n).map fun g => Value.pointer (some ⟨g, 0, none⟩) := fun x => by
  rw [← List.map_take, List.map_map]
  rfl
 rw [e, e, h]
theorem z0v.turn (h : z0v k ok ord z1n N w lv O ps m P ow) {i : Nat} {p : Nat × St} (hp : ps[i]? = some p) {s' : St} (hf : Fr (fun b => O b i) w.heap.size w w') (hg : z0h (fun b => O b i ∨ w.heap.size ≤ b) w' p.1 s') {m' : Nat} {P' : Int × Int → Int × Int} {ow' : Int → Int} (hG : Gts k ok ord z1n P' ow' m' ((ps.map Prod.snd).set i s')) :
  ∃ O', z0v k ok ord z1n N w' lv O' (ps.set i (p.1, s')) m' P' ow' ∧ Kept O w O' w' := by
 obtain ⟨O', hT, hK⟩ := h.tin.turn hp hf hg
 refine ⟨O', ⟨hT, by rw [List.map_set]; exact hG, ?_, by rw [List.length_set]; exact h.four⟩, hK⟩
 rw [k0w _ ps (x8m hp s')]
 exact hK.row h.row
theorem z0v.at_ (h : z0v k ok ord z1n N w lv O ps m P ow) {i : Nat} {p : Nat × St} (hp : ps[i]? = some p) : z0h (fun b => O b i) w p.1 p.2 ∧ Gt1 k ok ord P ow p.2 ∧ (ps.map Prod.snd)[i]? = some p.2 := by
 have h1 : (ps.map Prod.snd)[i]? = some p.2 := by rw [List.getElem?_map, hp]; rfl
 exact ⟨h.tin.gates i p hp, h.gts.all _ (List.mem_of_getElem? h1), h1⟩
def q6v (z1n : List Int) : Prop := ∀ i j n m, i < 4 → j ≠ i → z1n[i]? = some n → z1n[j]? = some m → m ≠ n
theorem z0v.x0l (h : z0v k ok ord z1n N w lv O ps m P ow) (hA : q6v z1n) {i : Nat} (hi : i < 4) {p : Nat × St} (hp : ps[i]? = some p) (hm : m < 1000) {t : List UInt8} (ht : k2s z0n k t) (hf : Fr (fun b => O b i) w.heap.size w w') (hg : z0h (fun b => O b i ∨ w.heap.size ≤ b) w' p.1 (x0k p.2 t).2) :
  ((x0k p.2 t).1 = 0 ∨ (x0k p.2 t).1 = 6 ∨ (x0k p.2 t).1 = 7) ∧ ∃ O' P' ow', z0v k ok ord z1n N w' lv O' (ps.set i (p.1, (x0k p.2 t).2)) (m + 1) P' ow' ∧ Kept O w O' w' ∧ y8c P P' ow ow' := by
 obtain ⟨h1, h2, h3⟩ := h.at_ hp
 obtain ⟨hc, P', ow', hgr, hG⟩ := h.gts.x0l (R := z0n) h3 (fun j n hj hn => hA i j p.2.number n hi hj (by rw [← h.gts.z1n, List.getElem?_map, h3]; rfl) hn) hm ht
 obtain ⟨O', hT, hK⟩ := h.turn hp hf hg hG
 exact ⟨hc, O', P', ow', hT, hK, hgr⟩
theorem z0v.meets (h : z0v k ok ord z1n N w lv O ps m P ow) (hO : Orders z0n k ok ord) {i j : Nat} {p q : Nat × St} (hp : ps[i]? = some p) (hq : ps[j]? = some q) (most : Nat) :
  (z7d z0n q.2 (z1j p.2 q.2) (z1m p.2 q.2 most)).1 = 0 ∧ (Fr (fun b => O b j) w.heap.size w w' → z0h (fun b => O b j ∨ w.heap.size ≤ b) w' q.1 (z7d z0n q.2 (z1j p.2 q.2) (z1m p.2 q.2 most)).2 →
  ∃ O', z0v k ok ord z1n N w' lv O' (ps.set j (q.1, (z7d z0n q.2 (z1j p.2 q.2) (z1m p.2 q.2 most)).2)) m P ow ∧ Kept O w O' w') := by
 obtain ⟨h1, h2, h3⟩ := h.at_ hp
 obtain ⟨g1, g2, g3⟩ := h.at_ hq
 obtain ⟨m1, m2, m3, m4, m5⟩ := Gt1.meets hO h2 g2 most
 exact ⟨m1, fun hf hg => h.turn hq hf hg (h.gts.set g3 m2 m4)⟩
theorem z0v.x0o (h : z0v k ok ord z1n N w lv O ps m P ow) (hO : Orders z0n k ok ord) {i : Nat} {p : Nat × St} (hp : ps[i]? = some p) {f : Int} (hf : ok f) (hfr : Fr (fun b => O b i) w.heap.size w w') (hg : z0h (fun b => O b i) w' p.1 (y2o p.2 (ord f)).2) :
  ((y2o p.2 (ord f)).1 = 0 ∨ (y2o p.2 (ord f)).1 = 6) ∧ ∃ O', z0v k ok ord z1n N w' lv O' (ps.set i (p.1, (y2o p.2 (ord f)).2)) m P ow ∧ Kept O w O' w' := by
 obtain ⟨h1, h2, h3⟩ := h.at_ hp
 obtain ⟨c1, c2, c3⟩ := Gt1.x0o hO h2 hf
 exact ⟨c1, h.turn hp hfr (hg.mono fun b hb => Or.inl hb) (h.gts.set h3 c2 c3)⟩
end Tn
open Go Go.RowKit
namespace Tn
open Mp Bk Tk Gw Gt
section
variable {k : List UInt8} {ok : Int → Prop} {ord : Int → List UInt8} {z1n : List Int} {N : Nat} {w w' : World} {lv : Value} {O : Nat → Nat → Prop} {ps : List (Nat × St)} {m : Nat} {P : Int × Int → Int × Int} {ow : Int → Int}
theorem z0v.list (h : z0v k ok ord z1n N w lv O ps m P ow) : ∃ gb gc, lv = .slice (some ⟨gb, 0, none⟩) 4 gc := by
 obtain ⟨p, cap, e, hc⟩ := Row.form h.row
 obtain ⟨g, cur, e2, _⟩ := hc 0 (by decide)
 exact ⟨g, cap, by rw [e, e2]⟩
theorem z0v.cell {gb gc : Nat} (h : z0v k ok ord z1n N w (.slice (some ⟨gb, 0, none⟩) 4 gc) O ps m P ow) : gb < w.heap.size ∧ ∀ i p, i < 4 → ps[i]? = some p → w.cell? ⟨gb, i * 1, none⟩ = some (.pointer (some ⟨p.1, 0, none⟩)) := by
 rcases h.row.1.2 with ⟨e, _⟩ | ⟨g, cap, cur, e, _, hg, _, _, _, h4⟩
 ·cases e
 ·injection e with e1 e2 e3
  injection e1 with e1
  injection e1 with e1
  subst e1
  refine ⟨(aL hg), fun i p hi hp => ?_⟩
  refine (cell_of_row w gb (i * 1) _ _ _ hg).trans ?_
  have h5 : (cur.toList.take (4 * 1))[i]? = ((ps.take 4).map ptr)[i]? := by rw [h4]
  rw [List.getElem?_take_of_lt (by omega), List.getElem?_map, List.getElem?_take_of_lt hi, hp] at h5
  rw [Nat.mul_one]
  simpa [ptr] using h5
structure On (k : List UInt8) (ok : Int → Prop) (ord : Int → List UInt8) (z1n : List Int) (N : Nat) (lv : Value) (O : Nat → Nat → Prop) (w : World) (ps : List (Nat × St)) (P : Int × Int → Int × Int) (ow : Int → Int) (w' : World) (ps' : List (Nat × St)) (m : Nat) (O' : Nat → Nat → Prop) (P' : Int × Int → Int × Int) (ow' : Int → Int) : Prop where
 town : z0v k ok ord z1n N w' lv O' ps' m P' ow'
 kept : Kept O w O' w'
 grew : y8c P P' ow ow'
 same : ps'.map Prod.fst = ps.map Prod.fst
 rest : ∀ j : Nat, 4 ≤ j → ps'[j]? = ps[j]?
theorem On.below {O' : Nat → Nat → Prop} {ps' : List (Nat × St)} {w'' : World} {P' : Int × Int → Int × Int} {ow' : Int → Int} (h : On k ok ord z1n N lv O w ps P ow w' ps' m O' P' ow') (hb : Below w'.heap.size w' w'') : On k ok ord z1n N lv O w ps P ow w'' ps' m O' P' ow' := ⟨h.town.below hb, h.kept.trans (Kept.below hb), h.grew, h.same, h.rest⟩
theorem On.then {O' O'' : Nat → Nat → Prop} {ps' : List (Nat × St)} {i : Nat} {p : Nat × St} {s' : St} {w'' : World} {P' P'' : Int × Int → Int × Int} {ow' ow'' : Int → Int} {m' : Nat} (h : On k ok ord z1n N lv O w ps P ow w' ps' m O' P' ow') (hi : i < 4) (hp : ps'[i]? = some p) (ht : z0v k ok ord z1n N w'' lv O'' (ps'.set i (p.1, s')) m' P'' ow'') (hk : Kept O' w' O'' w'') (hg : y8c P' P'' ow' ow'') : On k ok ord z1n N lv O w ps P ow w'' (ps'.set i (p.1, s')) m' O'' P'' ow'' :=
 ⟨ht, h.kept.trans hk, h.grew.trans hg, by rw [x8m hp, h.same], fun j hj => by rw [List.getElem?_set_ne (by omega)]; exact h.rest j hj⟩
theorem On.len {O' : Nat → Nat → Prop} {ps' : List (Nat × St)} {P' : Int × Int → Int × Int} {ow' : Int → Int} (h : On k ok ord z1n N lv O w ps P ow w' ps' m O' P' ow') : ps'.length = ps.length := by
 have := congrArg List.length h.same
 simpa using this
end
def z2g (gb gc : Nat) (sd : List UInt8) (a0 : Option Addr) (n cap i : Nat) (f : Nat → Value) : Act := { tmps := #[.slice (some ⟨gb, 0, none⟩) 4 gc, str sd, .slice a0 n cap, f 3, f 4, f 5, .bool false, .int .i64 (i : Int), f 8, f 9, f 10, f 11, f 12, f 13, f 14, f 15, f 16, f 17, f 18, f 19, f 20, f 21, f 22, f 23, f 24, f 25, f 26, f 27, f 28, f 29, f 30, f 31, f 32, f 33, f 34, f 35, f 36, f 37, f 38, f 39, f 40, f 41, f 42, f 43, f 44, f 45, f 46, f 47, f 48, f 49, f 50, f 51, f 52, f 53, f 54, f 55, f 56, f 57, f 58, f 59, f 60, f 61, f 62, f 63, f 64, f 65, f 66, f 67, f 68, f 69, f 70, f 71, f 72, f 73, f 74, f 75, f 76, f 77, f 78, f 79, f 80, f 81], defers := [] }
set_option maxHeartbeats 1000000 in
theorem k6b {ok : Int → Prop} {z1n : List Int} {N : Nat} {w : World} {lv : Value} {O : Nat → Nat → Prop} {ps : List (Nat × St)} {m : Nat} {P : Int × Int → Int × Int} {ow : Int → Int} (sd : List UInt8) (hO : Orders z0n (z6v (z1h sd)) ok (y9g (z1h sd))) (hA : q6v z1n) (h : z0v (z6v (z1h sd)) ok (y9g (z1h sd)) z1n N w lv O ps m P ow) (a0 : Option Addr) (cap : Nat) (os : List S4) (hS : q6z O w a0 os) (hok : ∀ o ∈ os, pk o.what 6 = 5 → ok (5 + 10 * (pk o.ticket 2 : Int))) (hm : m ≤ 700) (hl : os.length ≤ 1000000000000) :
  Calls Tryz.prog 25 #[lv, str sd, .slice a0 os.length cap] w fun e w' => ∃ v, e = .returned v ∧ v = .bool true ∧ ∃ i O' ps' P' ow', i ≤ 200 ∧ i ≤ os.length ∧ On (z6v (z1h sd)) ok (y9g (z1h sd)) z1n N lv O w ps P ow w' ps' (m + i) O' P' ow' := by
 obtain ⟨gb, gc, rfl⟩ := h.list
 obtain ⟨K, hK⟩ : ∃ K, K = z6v (z1h sd) := ⟨_, rfl⟩
 obtain ⟨od, hod⟩ : ∃ od, od = y9g (z1h sd) := ⟨_, rfl⟩
 have hod2 : ∀ f : Nat, k2l (z1h sd) f = od (f : Int) := fun f => by rw [hod]; rfl
 have hTk : ∀ e s c, k2s z0n K (tick (z1h sd) e s c) := fun e s c => by rw [hK]; exact x9t _ _ _ _
 rw [← hK, ← hod] at hO h ⊢
 go_enter Tryz.func25, Tryz.ntmps25
 refine wp_seq ?_
 refine Ks.reg ?_
 refine Ks.v (.bool false) ?_
 simp only [zD]
 refine Ks.done ?_
 refine wp_seq ?_
 refine wp_seq ?_
 refine Ks.reg ?_
 refine Ks.v (.int .i64 0) ?_
 simp only [zD]
 refine Ks.done ?_
 refine wp_block ?_
 refine Ks.loop (fun q a wr => ∃ (i : Nat) (O' : Nat → Nat → Prop) (ps' : List (Nat × St)) (P' : Int × Int → Int × Int) (ow' : Int → Int) (f : Nat → Value), i ≤ 200 ∧ i ≤ os.length ∧ q = 200 - i ∧ On K ok od z1n N (.slice (some ⟨gb, 0, none⟩) 4 gc) O w ps P ow wr ps' (m + i) O' P' ow' ∧ a = z2g gb gc sd a0 os.length cap i f) 200 ⟨0, O, ps, P, ow, fun _ => undef, by omega, by omega, rfl, ⟨h, Kept.refl _ _, y8c.refl _ _, rfl, fun _ _ => rfl⟩, rfl⟩ ?_
 rintro q a wr ⟨i, O', ps', P', ow', f, hi, hil, rfl, hOn, rfl⟩
 have fin : ∀ (a' : Act) (w' : World) (i' : Nat) (O' : Nat → Nat → Prop) (ps' : List (Nat × St)) (P' : Int × Int → Int × Int) (ow' : Int → Int), i < i' → i' ≤ 200 → i' ≤ os.length → On K ok od z1n N (.slice (some ⟨gb, 0, none⟩) 4 gc) O w ps P ow w' ps' (m + i') O' P' ow' → a' = z2g gb gc sd a0 os.length cap i' (fun j => a'.tmps.getD j undef) → ∃ q, q < 200 - i ∧ ∃ (i : Nat) (O' : Nat → Nat → Prop) (ps' : List (Nat × St)) (P' : Int × Int → Int × Int) (ow' : Int → Int) (f : Nat → Value), i ≤ 200 ∧ i ≤ os.length ∧ q = 200 - i ∧ On K ok od z1n N (.slice (some ⟨gb, 0, none⟩) 4 gc) O w ps P ow w' ps' (m + i) O' P' ow' ∧ a' = z2g gb gc sd a0 os.length cap i f := fun a' w' i' O' ps' P' ow' q1 q2 q3 q4 q5 => ⟨200 - i', by omega, i', O', ps', P', ow', _, q2, q3, rfl, q4, q5⟩
 obtain ⟨go, hgo⟩ : ∃ go : Bool, go = true ↔ i < os.length ∧ i < 200 := by
  by_cases hc : i < os.length ∧ i < 200
  ·exact ⟨true, by simp [hc]⟩
  ·exact ⟨false, by simp [hc]⟩
 unfold z2g
 refine wp_seq ?_
 refine Ks.cut (fun a' w' => w' = wr ∧ ∃ f : Nat → Value, f 20 = .bool go ∧ a' = z2g gb gc sd a0 os.length cap i f) ?_ ?_
 ·have fin4 : ∀ a' : Act, a'.tmps.getD 20 undef = .bool go → a' = z2g gb gc sd a0 os.length cap i (fun j => a'.tmps.getD j undef) → wr = wr ∧ ∃ f : Nat → Value, f 20 = .bool go ∧ a' = z2g gb gc sd a0 os.length cap i f := fun a' h1 h2 => ⟨rfl, _, h1, h2⟩
  refine Ks.reg ?_
  refine Ks.v (.int .i64 (i : Int)) ?_
  simp only [zD]
  refine Ks.v (.slice a0 os.length cap) ?_
  simp only [zD]
  refine Ks.v (.int .i64 (os.length : Int)) ?_
  simp only [zD]
  refine Ks.v (.bool (decide ((i : Int) < os.length))) ?_
  simp only [zD]
  refine Ks.v (.bool (decide ((i : Int) < os.length))) ?_
  simp only [zD]
  by_cases hlt : i < os.length
  ·rw [decide_eq_true (by omega : (i : Int) < os.length)]
   have e : go = decide ((i : Int) < 200) := by
    rw [Bool.eq_iff_iff, hgo, decide_eq_true_eq]
    omega
   refine Ks.g (.int .i64 (i : Int)) ?_
   simp only [zD]
   refine Ks.g (.bool (decide ((i : Int) < 200))) ?_
   simp only [zD]
   rw [← e]
   refine Ks.v (.bool go) ?_
   simp only [zD]
   refine Ks.done ?_
   exact fin4 _ rfl rfl
  ·rw [decide_eq_false (by omega : ¬ (i : Int) < os.length)]
   have e : go = false := by
    cases go
    ·rfl
    ·exact absurd (hgo.1 rfl).1 hlt
   with_reducible refine Ks.n ?_
   simp only [zD]
   with_reducible refine Ks.n ?_
   simp only [zD]
   refine Ks.v (.bool false) ?_
   simp only [zD]
   refine Ks.done ?_
   exact fin4 _ (by rw [e]; rfl) rfl
 rintro a' w' ⟨rfl, f', e20, rfl⟩
 unfold z2g
 rw [e20]
 cases go with
 | false =>
  refine wp_cond_false rfl ?_
  refine wp_exit ?_
  refine Ks.z3r ?_
  refine wp_seq ?_
  refine Ks.reg ?_
  refine Ks.v (.bool true) ?_
  simp only [zD]
  refine Ks.done ?_
  refine wp_ret ?_
  repeat (refine Ks.ret ?_)
  refine bodyPost_ret (v := .bool true) (by simp [results, Tryz.results25]) rfl ?_
  exact ⟨_, rfl, rfl, i, O', ps', P', ow', hi, hil, hOn⟩
 | true =>
  obtain ⟨hlt, hlt2⟩ := hgo.1 rfl
  obtain ⟨o, ho⟩ : ∃ o, os[i]? = some o := ⟨_, List.getElem?_eq_getElem hlt⟩
  have hoI := hS.all o (List.mem_of_getElem? ho)
  have hS' := hS.kept hOn.kept
  obtain ⟨sb, so, rfl, hsb, hfree, hrng⟩ : ∃ sb so, a0 = some ⟨sb, so, none⟩ ∧ sb < w'.heap.size ∧ z9b O' sb ∧ ∀ (i : Nat) (o : S4), os[i]? = some o → w'.rangeAt sb (so + i * 4) (s4C o) := by
   rcases hS'.at_ with e | e
   ·rw [e] at hlt; exact absurd hlt (Nat.not_lt_zero _)
   ·exact e
  refine wp_cond_true rfl ?_
  refine wp_skip ?_
  refine Ks.norm ?_
  refine Ks.cut (fun a' w' => ∃ (O' : Nat → Nat → Prop) (ps' : List (Nat × St)) (P' : Int × Int → Int × Int) (ow' : Int → Int) (f : Nat → Value), On K ok od z1n N (.slice (some ⟨gb, 0, none⟩) 4 gc) O w ps P ow w' ps' (m + (i + 1)) O' P' ow' ∧ a' = z2g gb gc sd (some ⟨sb, so, none⟩) os.length cap i f) ?_ ?_
  ·have finM : ∀ (a' : Act) (w' : World) (O' : Nat → Nat → Prop) (ps' : List (Nat × St)) (P' : Int × Int → Int × Int) (ow' : Int → Int), On K ok od z1n N (.slice (some ⟨gb, 0, none⟩) 4 gc) O w ps P ow w' ps' (m + (i + 1)) O' P' ow' → a' = z2g gb gc sd (some ⟨sb, so, none⟩) os.length cap i (fun j => a'.tmps.getD j undef) → ∃ (O' : Nat → Nat → Prop) (ps' : List (Nat × St)) (P' : Int × Int → Int × Int) (ow' : Int → Int) (f : Nat → Value), On K ok od z1n N (.slice (some ⟨gb, 0, none⟩) 4 gc) O w ps P ow w' ps' (m + (i + 1)) O' P' ow' ∧ a' = z2g gb gc sd (some ⟨sb, so, none⟩) os.length cap i f := fun a' w' O' ps' P' ow' h1 h2 => ⟨O', ps', P', ow', _, h1, h2⟩
   have hlen := hOn.len
   have h4 := h.four
   refine wp_block ?_
   refine wp_seq ?_
   refine Ks.reg ?_
   refine Ks.v (.slice (some ⟨sb, so, none⟩) os.length cap) ?_
   simp only [zD]
   refine Ks.v (.int .i64 (i : Int)) ?_
   simp only [zD]
   refine Ks.q5t (by kernel_rfl) _ _ _ rfl 81 4 Tryz.underlying56 (by kernel_rfl) (by kernel_rfl) sb so os.length cap i rfl rfl hlt ?_
   simp only [zD]
   refine Ks.mid rfl _ _ rfl sb (so + i * 4) rfl (s4C o) (hrng i o ho) Tryz.underlying81 rfl (by kernel_rfl) ?_
   simp only [zD]
   refine Ks.alloc rfl _ rfl (.agg #[.int .i64 0, .int .i64 0, .int .i64 0, .int .i64 0]) (by kernel_rfl) #[.int .i64 0, .int .i64 0, .int .i64 0, .int .i64 0] rfl ?_
   intro w1 b8 Hb8 HX1 HB1 HS1
   simp only [zD]
   refine Ks.whole rfl _ _ _ rfl b8 (s4C o).toArray rfl rfl HX1.out (by kernel_rfl) rfl (by kernel_rfl) ?_
   intro w2 HR2 HF2 HO2 HS2
   have hb12 : Below w'.heap.size w' w2 := HB1.out.trans ((HF2.out (fun _ => False) w'.heap.size (Or.inr (Nat.le_of_eq Hb8.out.symm))).below (Nat.le_refl _) fun _ _ h => h)
   have hOn2 := hOn.below hb12
   clear hOn hb12 HX1 HB1 HS1 HF2 HO2 HS2 hrng hS' hsb
   simp only [Act.put]
   refine Ks.done ?_
   refine wp_seq ?_
   refine Ks.reg ?_
   refine Ks.v (.slice (some ⟨gb, 0, none⟩) 4 gc) ?_
   simp only [zD]
   refine Ks.v (.pointer (some ⟨b8, 0, none⟩)) ?_
   simp only [zD]
   refine Ks.cell rfl _ _ rfl Tryz.underlying3 rfl b8 0 (.int .i64 o.gate) rfl (z0c HR2.out 0 rfl) ?_
   simp only [zD]
   refine Ks.call rfl 30 #[.int .i64 o.gate, .int .i64 (4 : Nat)] (by kernel_rfl) (y1e o.gate hoI.gate 4 (by decide) (by decide) w2) ?_
   rintro _ w2 ⟨rfl, rfl⟩
   have hgi := y4l o.gate (n := 4) (by decide)
   generalize pk o.gate 4 = gi at hgi
   obtain ⟨p, hp⟩ : ∃ p, ps'[gi]? = some p := ⟨_, List.getElem?_eq_getElem (by omega)⟩
   obtain ⟨hgl, z3s⟩ := hOn2.town.cell
   simp only [zD]
   refine Ks.idx (by kernel_rfl) _ _ _ rfl 62 1 Tryz.underlying57 (by kernel_rfl) (by kernel_rfl) gb 4 gc gi rfl rfl hgi ?_
   simp only [zD]
   refine Ks.cell rfl _ _ rfl Tryz.underlying62 rfl gb (gi * 1) (.pointer (some ⟨p.1, 0, none⟩)) rfl (z3s gi p hgi hp) ?_
   simp only [zD]
   refine Ks.v (.pointer (some ⟨p.1, 0, none⟩)) ?_
   simp only [zD]
   refine Ks.done ?_
   refine wp_seq ?_
   refine Ks.reg ?_
   refine Ks.v (.pointer (some ⟨b8, 1, none⟩)) ?_
   simp only [zD]
   refine Ks.cell rfl _ _ rfl Tryz.underlying3 rfl b8 1 (.int .i64 o.what) rfl (z0c HR2.out 1 rfl) ?_
   simp only [zD]
   refine Ks.call rfl 30 #[.int .i64 o.what, .int .i64 (6 : Nat)] (by kernel_rfl) (y1e o.what hoI.what 6 (by decide) (by decide) w2) ?_
   rintro _ w2 ⟨rfl, rfl⟩
   have hx := y4l o.what (n := 6) (by decide)
   have hok2 := hok o (List.mem_of_getElem? ho)
   generalize pk o.what 6 = x at hx hok2
   obtain ⟨hPg, hGp, hsi⟩ := hOn2.town.at_ hp
   have hTab := hOn2.town.tin.tab
   simp only [zD]
   refine Ks.done ?_
   refine wp_block ?_
   refine Ks.cut (fun a' w' => w' = w2 ∧ ∃ f : Nat → Value, f 8 = .pointer (some ⟨b8, 0, none⟩) ∧ f 9 = .pointer (some ⟨p.1, 0, none⟩) ∧ f 35 = .int .i64 (x : Int) ∧ f 52 = .bool (decide (x = 3 ∨ x = 4)) ∧ a' = z2g gb gc sd (some ⟨sb, so, none⟩) os.length cap i f) ?_ ?_
   ·have k3s : ∀ a' : Act, a'.tmps.getD 8 undef = .pointer (some ⟨b8, 0, none⟩) → a'.tmps.getD 9 undef = .pointer (some ⟨p.1, 0, none⟩) → a'.tmps.getD 35 undef = .int .i64 (x : Int) → a'.tmps.getD 52 undef = .bool (decide (x = 3 ∨ x = 4)) → a' = z2g gb gc sd (some ⟨sb, so, none⟩) os.length cap i (fun j => a'.tmps.getD j undef) → w2 = w2 ∧ ∃ f : Nat → Value, f 8 = .pointer (some ⟨b8, 0, none⟩) ∧ f 9 = .pointer (some ⟨p.1, 0, none⟩) ∧ f 35 = .int .i64 (x : Int) ∧ f 52 = .bool (decide (x = 3 ∨ x = 4)) ∧ a' = z2g gb gc sd (some ⟨sb, so, none⟩) os.length cap i f := fun a' q1 q2 q3 q4 q5 => ⟨rfl, _, q1, q2, q3, q4, q5⟩
    refine wp_seq ?_
    refine Ks.reg ?_
    refine Ks.v (.bool (decide ((x : Int) = 3))) ?_
    simp only [zD]
    refine Ks.v (.bool (decide ((x : Int) = 3))) ?_
    simp only [zD]
    refine Ks.done ?_
    refine wp_cond_split rfl ?_ ?_
    ·intro h3
     have h3 : x = 3 := by have := of_decide_eq_true h3; omega
     refine wp_skip ?_
     refine k3s _ rfl rfl rfl ?_ rfl
     subst h3
     rfl
    ·intro h3
     have h3 : ¬ x = 3 := by have := of_decide_eq_false h3; omega
     refine Ks.reg ?_
     refine Ks.v (.bool (decide ((x : Int) = 4))) ?_
     simp only [zD]
     refine Ks.v (.bool (decide ((x : Int) = 4))) ?_
     simp only [zD]
     refine Ks.done ?_
     refine k3s _ rfl rfl rfl ?_ rfl
     show Value.bool (decide ((x : Int) = 4)) = _
     congr 1
     rw [decide_eq_decide]
     omega
   rintro a' w3 ⟨rfl, f', e8, e9, e35, e52, rfl⟩
   unfold z2g
   rw [e8, e9, e35, e52]
   refine wp_cond_split rfl ?_ ?_
   ·intro h34
    refine wp_seq ?_
    refine Qg.z0q 10 (by kernel_rfl) (by kernel_rfl) ?_
    simp only [List.take_succ_cons, List.take_zero, List.drop_succ_cons, List.drop_zero]
    refine Qg.val (by kernel_rfl) (.pointer (some ⟨p.1, 0, none⟩)) (fun _ _ => by kernel_rfl) ?_
    simp only [zD]
    refine Qg.val (by kernel_rfl) (.slice (some ⟨gb, 0, none⟩) 4 gc) (fun _ _ => by kernel_rfl) ?_
    simp only [zD]
    refine Qg.val (by kernel_rfl) (.pointer (some ⟨b8, 2, none⟩)) (fun _ _ => by kernel_rfl) ?_
    simp only [zD]
    refine Qg.cell (by kernel_rfl) _ _ rfl Tryz.underlying3 rfl b8 2 (.int .i64 o.ticket) rfl (aL HR2.out) (z0c HR2.out 2 rfl) ?_
    simp only [zD]
    refine Qg.call (by kernel_rfl) 30 #[.int .i64 o.ticket, .int .i64 (4 : Nat)] (.int .i64 (pk o.ticket 4 : Int)) (fun _ => by kernel_rfl) (fun w' hb => (y7b o.ticket hoI.ticket 4 (by decide) (by decide) w').mono fun e w'' hx => ⟨hx.1, by rw [hx.2]; exact Below.refl _ _⟩) ?_
    have hgj := y4l o.ticket (n := 4) (by decide)
    generalize pk o.ticket 4 = gj at hgj
    obtain ⟨q, hq⟩ : ∃ q, ps'[gj]? = some q := ⟨_, List.getElem?_eq_getElem (by omega)⟩
    simp only [zD]
    refine Qg.idx (by kernel_rfl) _ _ _ rfl 62 1 Tryz.underlying57 (by kernel_rfl) (by kernel_rfl) gb 4 gc gj rfl rfl hgj ?_
    simp only [zD]
    refine Qg.cell (by kernel_rfl) _ _ rfl Tryz.underlying62 rfl gb (gj * 1) (.pointer (some ⟨q.1, 0, none⟩)) rfl hgl (z3s gj q hgj hq) ?_
    simp only [zD]
    refine Qg.val (by kernel_rfl) (.pointer (some ⟨b8, 3, none⟩)) (fun _ _ => by kernel_rfl) ?_
    simp only [zD]
    refine Qg.cell (by kernel_rfl) _ _ rfl Tryz.underlying3 rfl b8 3 (.int .i64 o.most) rfl (aL HR2.out) (z0c HR2.out 3 rfl) ?_
    simp only [zD]
    refine Qg.call (by kernel_rfl) 30 #[.int .i64 o.most, .int .i64 (5 : Nat)] (.int .i64 (pk o.most 5 : Int)) (fun _ => by kernel_rfl) (fun w' hb => (y7b o.most hoI.most 5 (by decide) (by decide) w').mono fun e w'' hx => ⟨hx.1, by rw [hx.2]; exact Below.refl _ _⟩) ?_
    generalize pk o.most 5 = mo
    simp only [zD]
    refine wpQuiet_nil ?_
    intro w4 hb4
    have hOn4 := hOn2.below hb4
    obtain ⟨hPq, hGq, hsj⟩ := hOn4.town.at_ hq
    obtain ⟨hPp, _, _⟩ := hOn4.town.at_ hp
    refine Ks.call rfl 26 #[.pointer (some ⟨p.1, 0, none⟩), .pointer (some ⟨q.1, 0, none⟩), .int .i64 (mo : Int)] (by kernel_rfl) (k5l hPp hPq hGp.town.inv hGq.town.inv mo hOn4.town.tin.tab (hOn4.town.meets (w' := w4) hO hp hq mo).1) ?_
    rintro _ w5 ⟨rfl, hP5, hF5⟩
    obtain ⟨O5, hT5, hK5⟩ := (hOn4.town.meets hO hp hq mo).2 hF5 hP5
    have hOn5 := (hOn4.then hgj hq hT5 hK5 (y8c.refl _ _))
    simp only [zD]
    refine Ks.v (.bool true) ?_
    simp only [zD]
    refine Ks.done ?_
    refine wp_seq ?_
    refine Ks.reg ?_
    refine Ks.v (.bool true) ?_
    simp only [zD]
    refine Ks.v (.bool false) ?_
    simp only [zD]
    refine Ks.done ?_
    refine wp_cond_false rfl ?_
    refine wp_skip ?_
    refine finM _ w5 _ _ _ _ ⟨hOn5.town.more (by omega), hOn5.kept, hOn5.grew, hOn5.same, hOn5.rest⟩ rfl
   ·intro h34
    refine wp_seq ?_
    refine Ks.reg ?_
    refine Ks.v (.bool (decide ((x : Int) = 5))) ?_
    simp only [zD]
    refine Ks.v (.bool (decide ((x : Int) = 5))) ?_
    simp only [zD]
    refine Ks.done ?_
    refine wp_cond_split rfl ?_ ?_
    ·intro h5
     have h5 : x = 5 := by have := of_decide_eq_true h5; omega
     have hf := hok2 h5
     refine wp_seq ?_
     refine Ks.reg ?_
     refine Ks.v (.pointer (some ⟨p.1, 0, none⟩)) ?_
     simp only [zD]
     refine Ks.v (str sd) ?_
     simp only [zD]
     refine Ks.v (.pointer (some ⟨b8, 2, none⟩)) ?_
     simp only [zD]
     refine Ks.cell rfl _ _ rfl Tryz.underlying3 rfl b8 2 (.int .i64 o.ticket) rfl (z0c HR2.out 2 rfl) ?_
     simp only [zD]
     refine Ks.call rfl 72 #[str sd, .int .i64 o.ticket] (by kernel_rfl) (k0c sd o.ticket hoI.ticket w3 hTab) ?_
     rintro _ w4 ⟨rfl, hb4⟩
     rw [hod2, show ((5 + 10 * pk o.ticket 2 : Nat) : Int) = 5 + 10 * (pk o.ticket 2 : Int) by omega]
     generalize (5 + 10 * (pk o.ticket 2 : Int)) = fl at hf
     have hOn4 := hOn2.below hb4
     obtain ⟨hP4, hG4, hs4⟩ := hOn4.town.at_ hp
     simp only [zD]
     refine Ks.call rfl 71 #[.pointer (some ⟨p.1, 0, none⟩), str (od fl)] (by kernel_rfl) (R := fun v w' => v = .int .i64 (y2o p.2 (od fl)).1 ∧ z0h (fun b => O' b gi) w' p.1 (y2o p.2 (od fl)).2 ∧ Fr (fun b => O' b gi) w4.heap.size w4 w') ((x5v hP4 (od fl) hOn4.town.tin.tab).mono fun e w' hx => ⟨_, hx.1, rfl, hx.2⟩) ?_
     rintro _ w5 ⟨rfl, hP5, hF5⟩
     obtain ⟨hc, O5, hT5, hK5⟩ := hOn4.town.x0o hO hp hf hF5 hP5
     have hOn5 := (hOn4.then hgi hp hT5 hK5 (y8c.refl _ _))
     generalize (y2o p.2 (od fl)).1 = c at hc
     simp only [zD]
     refine Ks.v (.int .i64 c) ?_
     simp only [zD]
     refine Ks.done ?_
     refine wp_seq ?_
     refine Ks.reg ?_
     refine Ks.v (.int .i64 c) ?_
     simp only [zD]
     rcases hc with rfl | rfl
     ·skip
      refine Ks.v (.bool false) ?_
      simp only [zD]
      refine Ks.v (.bool false) ?_
      simp only [zD]
      with_reducible refine Ks.n ?_
      simp only [zD]
      with_reducible refine Ks.n ?_
      simp only [zD]
      refine Ks.v (.bool false) ?_
      simp only [zD]
      refine Ks.done ?_
      refine wp_cond_false rfl ?_
      refine wp_skip ?_
      exact finM _ w5 _ _ _ _ ⟨hOn5.town.more (by omega), hOn5.kept, hOn5.grew, hOn5.same, hOn5.rest⟩ rfl
     ·skip
      refine Ks.v (.bool true) ?_
      simp only [zD]
      refine Ks.v (.bool true) ?_
      simp only [zD]
      refine Ks.g (.int .i64 6) ?_
      simp only [zD]
      refine Ks.g (.bool false) ?_
      simp only [zD]
      refine Ks.v (.bool false) ?_
      simp only [zD]
      refine Ks.done ?_
      refine wp_cond_false rfl ?_
      refine wp_skip ?_
      exact finM _ w5 _ _ _ _ ⟨hOn5.town.more (by omega), hOn5.kept, hOn5.grew, hOn5.same, hOn5.rest⟩ rfl
    ·intro h5
     refine wp_seq ?_
     refine Ks.reg ?_
     refine Ks.v (.pointer (some ⟨p.1, 0, none⟩)) ?_
     simp only [zD]
     refine Ks.v (str sd) ?_
     simp only [zD]
     refine Ks.v (.pointer (some ⟨b8, 2, none⟩)) ?_
     simp only [zD]
     refine Ks.cell rfl _ _ rfl Tryz.underlying3 rfl b8 2 (.int .i64 o.ticket) rfl (z0c HR2.out 2 rfl) ?_
     simp only [zD]
     refine Ks.call rfl 32 #[str sd, .int .i64 o.ticket] (by kernel_rfl) (q4z sd o.ticket hoI.ticket w3 hTab) ?_
     rintro _ w4 ⟨rfl, hb4⟩
     have hTt := hTk (pk o.ticket 6 / 2 * 10) (pk o.ticket 6) 1
     generalize tick (z1h sd) (pk o.ticket 6 / 2 * 10) (pk o.ticket 6) 1 = T at hTt
     have hOn4 := hOn2.below hb4
     obtain ⟨hP4, hG4, hs4⟩ := hOn4.town.at_ hp
     simp only [zD]
     refine Ks.call rfl 31 #[.pointer (some ⟨p.1, 0, none⟩), str T] (by kernel_rfl) (R := fun v w' => v = .int .i64 (x0k p.2 T).1 ∧ z0h (fun b => O' b gi ∨ w4.heap.size ≤ b) w' p.1 (x0k p.2 T).2 ∧ Fr (fun b => O' b gi) w4.heap.size w4 w') ((q7d hP4 hG4.town.inv T hOn4.town.tin.tab).mono fun e w' hx => ⟨_, hx.1, rfl, hx.2⟩) ?_
     rintro _ w5 ⟨rfl, hP5, hF5⟩
     obtain ⟨hc, O5, P5, ow5, hT5, hK5, hg5⟩ := hOn4.town.x0l hA hgi hp (by omega) hTt hF5 hP5
     have hOn5 := (hOn4.then hgi hp hT5 hK5 hg5)
     generalize (x0k p.2 T).1 = c at hc
     simp only [zD]
     refine Ks.v (.int .i64 c) ?_
     simp only [zD]
     refine Ks.done ?_
     refine wp_seq ?_
     refine Ks.reg ?_
     refine Ks.v (.int .i64 c) ?_
     simp only [zD]
     rcases hc with rfl | rfl | rfl
     ·skip
      refine Ks.v (.bool false) ?_
      simp only [zD]
      refine Ks.v (.bool false) ?_
      simp only [zD]
      with_reducible refine Ks.n ?_
      simp only [zD]
      with_reducible refine Ks.n ?_
      simp only [zD]
      refine Ks.v (.bool false) ?_
      simp only [zD]
      refine Ks.v (.bool false) ?_
      simp only [zD]
      with_reducible refine Ks.n ?_
      simp only [zD]
      with_reducible refine Ks.n ?_
      simp only [zD]
      refine Ks.v (.bool false) ?_
      simp only [zD]
      refine Ks.done ?_
      refine wp_cond_false rfl ?_
      refine wp_skip ?_
      exact finM _ w5 _ _ _ _ hOn5 rfl
     ·skip
      refine Ks.v (.bool true) ?_
      simp only [zD]
      refine Ks.v (.bool true) ?_
      simp only [zD]
      refine Ks.g (.int .i64 6) ?_
      simp only [zD]
      refine Ks.g (.bool false) ?_
      simp only [zD]
      refine Ks.v (.bool false) ?_
      simp only [zD]
      refine Ks.v (.bool false) ?_
      simp only [zD]
      with_reducible refine Ks.n ?_
      simp only [zD]
      with_reducible refine Ks.n ?_
      simp only [zD]
      refine Ks.v (.bool false) ?_
      simp only [zD]
      refine Ks.done ?_
      refine wp_cond_false rfl ?_
      refine wp_skip ?_
      exact finM _ w5 _ _ _ _ hOn5 rfl
     ·skip
      refine Ks.v (.bool true) ?_
      simp only [zD]
      refine Ks.v (.bool true) ?_
      simp only [zD]
      refine Ks.g (.int .i64 7) ?_
      simp only [zD]
      refine Ks.g (.bool true) ?_
      simp only [zD]
      refine Ks.v (.bool true) ?_
      simp only [zD]
      refine Ks.v (.bool true) ?_
      simp only [zD]
      refine Ks.g (.int .i64 7) ?_
      simp only [zD]
      refine Ks.g (.bool false) ?_
      simp only [zD]
      refine Ks.v (.bool false) ?_
      simp only [zD]
      refine Ks.done ?_
      refine wp_cond_false rfl ?_
      refine wp_skip ?_
      exact finM _ w5 _ _ _ _ hOn5 rfl
  ·rintro a' w3 ⟨O3, ps3, P3, ow3, f3, hOn3, rfl⟩
   unfold z2g
   refine Ks.reg ?_
   refine Ks.v (.int .i64 (i : Int)) ?_
   simp only [zD]
   refine Ks.val rfl (.int .i64 ((i + 1 : Nat) : Int)) (by
    simp [execOp, go_sem]
    exact IntWalk.i64_in _ ⟨by omega, by omega⟩) ?_
   simp only [zD]
   refine Ks.v (.int .i64 ((i + 1 : Nat) : Int)) ?_
   simp only [zD]
   refine Ks.done ?_
   exact fin _ w3 (i + 1) O3 ps3 P3 ow3 (by omega) hlt2 hlt hOn3 rfl
end Tn
end Go.Proofs.YtbojijefenfbgaaGreatDoor

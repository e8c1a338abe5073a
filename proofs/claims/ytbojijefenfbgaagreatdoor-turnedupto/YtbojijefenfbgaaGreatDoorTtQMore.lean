/- Steps of drawn regions that only read: a cell, an element's place, an element. Walk of the program's talk: Digest. Walk of the program's talk: Digest, its loop. Walks of the program's talk and book: items, what was heard of. Gates that tell one another what they know: what they know is of one world. -/
import Derived.Test.YtbojijefenfbgaaGreatDoorTtKeyIter
set_option maxRecDepth 100000
namespace Go.Proofs.YtbojijefenfbgaaGreatDoor
open Go Go.RowKit
namespace Qg
open Qt
variable {P : Program} {ops : Array Oper} {w : World} {Q : Act → Prop} {rest : List Oper} {o : Oper} {a : Act}
theorem cell (hw : Region.wanted o (yielded ops a.tmps) = true) (ty : TypeId) (x : Operand) (ho : o.op = .load ty x) {d : TypeDesc} (hu : P.underlying ty = some d) (hd : d.isRow = false) (b off : Nat) (v : Value) (hx : a.eval x = .pointer (some ⟨b, off, none⟩)) (hb : b < w.heap.size) (hc : w.cell? ⟨b, off, none⟩ = some v)
  (h : wpQuiet P ops (BW w) Q rest (a.put o.dst v)) : wpQuiet P ops (BW w) Q (o :: rest) a := by
 refine val hw v (fun w' hw' => ?_) h
 have h1 := Ks.z4h hu hd (w := w') (b := b) (off := off) (v := v) (by rw [hw'.cell (by exact hb)]; exact hc)
 unfold execOp
 simp only [ho, hx, Instr.loadAt, Instr.sureAddr, Sem.run_bind, Sem.run_pure, Result.andThen_ok, h1]
theorem mid (hw : Region.wanted o (yielded ops a.tmps) = true) (ty : TypeId) (x : Operand) (ho : o.op = .load ty x) (b off : Nat) (hx : a.eval x = .pointer (some ⟨b, off, none⟩)) (cs : List Value) {d : TypeDesc} (hb : b < w.heap.size) (hc : w.rangeAt b off cs) (hu : P.underlying ty = some d) (hd : d.isRow = true) (hi : (P.info? ty).map (·.size) = some cs.length)
  (h : wpQuiet P ops (BW w) Q rest (a.put o.dst (.agg cs.toArray))) : wpQuiet P ops (BW w) Q (o :: rest) a := by
 refine val hw (.agg cs.toArray) (fun w' hw' => ?_) h
 have hc' : w'.rangeAt b off cs := fun j v hv => by rw [hw'.cell (by exact hb)]; exact hc j v hv
 have h1 := run_loadVar_mid w' b off ty cs d hc' hu hd hi
 unfold execOp
 simp only [ho, hx, Instr.loadAt, Instr.sureAddr, Sem.run_bind, Sem.run_pure, Result.andThen_ok, h1]
theorem idx (hw : Region.wanted o (yielded ops a.tmps) = true) (t : TypeId) (x ix : Operand) (ho : o.op = .indexAddr t x ix) (e : TypeId) (sz : Nat) (hu : P.underlying t = some (.slice e)) (hs : P.cellsOf e = sz) (hi0 : (P.info? e).isSome = true) (b len cap n : Nat)
  (hx : a.eval x = .slice (some ⟨b, 0, none⟩) len cap) (hi : a.eval ix = .int .i64 (n : Int)) (hn : n < len) (h : wpQuiet P ops (BW w) Q rest (a.put o.dst (.pointer (some ⟨b, n * sz, none⟩)))) : wpQuiet P ops (BW w) Q (o :: rest) a := by
 refine val hw _ (fun w' _ => ?_) h
 have hr := Ks.y1m (P := P) w' t e sz hu hs hi0 b len cap n hn
 unfold execOp
 simp only [ho, hx, hi, Sem.run_bind, Sem.run_pure, Result.andThen_ok, hr]
theorem z0q {id : Nat} {Q : Exit → Act → World → Prop} {l : List Oper} (n : Nat) (hm : P.follows .mixedOrders = true) (hB : Region.lexTailB .any l.toArray n = true)
  (h : wpQuiet P l.toArray (BW w) (fun a' => ∀ w', BW w w' → wpList P l.toArray Q (l.drop n) a' w') (l.take n) a) : (Code.region id l.toArray true).wp P Q a w :=
 Qt.z2j (C := BW w) n hm hB ⟨rfl, rfl, rfl, Nat.le_refl _, fun _ _ => rfl⟩ h
end Qg
namespace Ks
theorem j3c {P : Program} {ops : Array Oper} {rest : List Oper} {o : Oper} {a : Act} {w : World} {Q : Exit → Act → World → Prop} (hw : Region.wanted o (yielded ops a.tmps) = true) (ty : TypeId) (x : Operand) (ho : o.op = .load ty x) (b : Nat) (hx : a.eval x = .pointer (some ⟨b, 0, none⟩)) {t : TypeId} {cs : Array Value} {fr : Nat × Nat} (hb : w.heap[b]? = some (.cells cs t fr)) {d : TypeDesc} (hu : P.underlying ty = some d) (hd : (match d with | .struct _ | .array _ _ => true | _ => false) = true) (hi : (P.info? ty).map (·.size) = some cs.size)
  (h : wpList P ops Q rest (a.put o.dst (.agg cs)) w) : wpList P ops Q (o :: rest) a w := by
 refine y8b hw _ ?_ h
 unfold execOp
 simp only [ho, hx, Instr.loadAt, Instr.sureAddr, Sem.run_bind, Sem.run_pure, Result.andThen_ok, run_loadVar_row w b t ty cs fr d hb hu hd hi]
theorem k8u {Q : Exit → Act → World → Prop} {a : Act} {w : World} {id id' : Nat} {K L M : Act → World → Prop} (hne : id ≠ id') (h : Q .normal a w) : Exit.then K (Exit.inBlock id' (Exit.then L (Exit.then M (Exit.inBlock id Q)))) (.exit id) a w := by
 show (if id = id' then _ else _)
 rw [if_neg hne]
 exact z3r h
theorem same {P : Program} {ops : Array Oper} {rest : List Oper} {o : Oper} {a : Act} {w : World} {Q : Exit → Act → World → Prop} (hw : Region.wanted o (yielded ops a.tmps) = true) (f : FuncId) (args : Array Value) (hv : (execOp a.eval o).run P w = .ok (.enter f args) w) {v : Value} (hc : Calls P f args w fun e w' => e = .returned v ∧ w' = w)
  (h : wpList P ops Q rest (a.put o.dst v) w) : wpList P ops Q (o :: rest) a w :=
 k3c hw f args hv (R := fun u w' => u = v ∧ w' = w) (hc.mono fun e w' hx => ⟨_, hx.1, rfl, hx.2⟩) fun u w' ⟨e, hb⟩ => by
  subst e
  subst hb
  exact h
theorem cut {P : Program} {Q : Exit → Act → World → Prop} {a : Act} {w : World} {x y : Code} (M : Act → World → Prop) (h1 : x.wp P (Exit.then M Q) a w) (h2 : ∀ a w, M a w → y.wp P Q a w) : (Code.seq x y).wp P Q a w := by
 refine wp_seq (wp_mono h1 ?_)
 intro e a w hq
 cases e with
 | normal => exact h2 a w hq
 | _ => exact hq
end Ks
open Go Go.RowKit
namespace Gt
open Mp Bk Tk
theorem y0q (ks : List (Int × Int)) (k : Int × Int) : z5w (ks ++ [k]) = digStep (z5w ks) k := by simp [z5w]
theorem z8m {ks : List (Int × Int)} (h : ∀ k ∈ ks, 1 ≤ k.2 ∧ k.2 ≤ 1000) : ∀ s ∈ z5w ks, (0 ≤ s.upto ∧ s.upto ≤ 1000) ∧ s.more.length ≤ ks.length := by
 induction ks using y4u with
 | h0 => intro s hs; cases hs
 | h1 l x ih =>
  have ih := ih fun k hk => h k (List.mem_append_left _ hk)
  have hx := h x (by simp)
  have hsee : ∀ s : Sn, (0 ≤ s.upto ∧ s.upto ≤ 1000) ∧ s.more.length ≤ l.length → (0 ≤ (s.see x.2).upto ∧ (s.see x.2).upto ≤ 1000) ∧ (s.see x.2).more.length ≤ (l ++ [x]).length := by
   intro s hs
   unfold Sn.see
   split
   ·exact ⟨⟨by show 0 ≤ x.2; omega, hx.2⟩, by show s.more.length ≤ _; simp; omega⟩
   ·exact ⟨hs.1, by simp; omega⟩
  have hup : ∀ s ∈ z5w l, (0 ≤ s.upto ∧ s.upto ≤ 1000) ∧ s.more.length ≤ (l ++ [x]).length := fun s hs => ⟨(ih s hs).1, by have := (ih s hs).2; simp; omega⟩
  rw [y0q]
  intro s hs
  by_cases hn : ∀ t, (z5w l).getLast? = some t → t.gate ≠ x.1
  ·rw [z7k hn] at hs
   rcases List.mem_append.1 hs with hs | hs
   ·exact hup s hs
   ·obtain rfl : s = _ := List.mem_singleton.1 hs
    exact hsee _ ⟨⟨by simp, by simp⟩, by simp⟩
  ·have : ∃ t, (z5w l).getLast? = some t ∧ t.gate = x.1 := by
    cases hg : (z5w l).getLast? with
    | none => exact absurd (fun t ht => by rw [hg] at ht; cases ht) hn
    | some t =>
     refine ⟨t, rfl, ?_⟩
     cases Decidable.em (t.gate = x.1) with
     | inl e => exact e
     | inr e => exact absurd (fun t' ht => by rw [hg] at ht; cases ht; exact e) hn
   obtain ⟨t, ht, e⟩ := this
   obtain ⟨l', hl'⟩ := List.getLast?_eq_some_iff.1 ht
   rw [hl', z6a e] at hs
   rcases List.mem_append.1 hs with hs | hs
   ·exact hup s (by rw [hl']; exact List.mem_append_left _ hs)
   ·obtain rfl : s = _ := List.mem_singleton.1 hs
    exact hsee t (ih t (by rw [hl']; simp))
theorem z1e.nil (S : Nat → Prop) (w : World) : z1e S w (.slice none 0 0) [] := ⟨Row.nil _ _ _ _, fun _ hp => (List.not_mem_nil hp).elim, List.Pairwise.nil⟩
theorem z1e.below {S : Nat → Prop} {w w' : World} {v : Value} {l : List (Sn × Value)} (h : z1e S w v l) (hb : Below w.heap.size w w') : z1e S w' v l := ⟨h.row.below hb (Nat.le_refl _), fun p hp => (h.more p hp).below hb (Nat.le_refl _), h.apart⟩
theorem z1e.mono {S T : Nat → Prop} {w : World} {v : Value} {l : List (Sn × Value)} (h : z1e S w v l) (hS : ∀ k, S k → T k) : z1e T w v l := ⟨h.row.mono hS, fun p hp => (h.more p hp).mono hS, h.apart⟩
theorem y1p (l : List (Sn × Value)) : (y1o l).length = l.length * 3 := by
 induction l with
 | nil => rfl
 | cons x r ih =>
  unfold y1o at *
  rw [List.flatMap_cons, List.length_append, ih, List.length_cons, y4t]
  omega
theorem seen_cells {l : List (Sn × Value)} {i : Nat} {p : Sn × Value} (h : l[i]? = some p) (j : Nat) (hj : j < 3) : (y1o l)[i * 3 + j]? = (snC p.1 p.2)[j]? := flat_get (fun p : Sn × Value => snC p.1 p.2) 3 y4t l i j p h hj
theorem z1e.push {S : Nat → Prop} {w w' : World} {v v' : Value} {l : List (Sn × Value)} (h : z1e S w v l) (g : Int) (hr : Row (fun k => S k ∨ w.heap.size ≤ k) w' 213 3 v' (l.length + 1) (y1o l ++ [.int .i64 g, .int .i64 0, .slice none 0 0])) (hf : Fr (fun k => v.ownBlock = some k) w.heap.size w w') : z1e (fun k => S k ∨ w.heap.size ≤ k) w' v' (l ++ [(⟨g, 0, []⟩, .slice none 0 0)]) := by
 refine ⟨?_, ?_, ?_⟩
 ·rw [List.length_append]
  simpa [y1o, snC] using hr
 ·intro p hp
  rcases List.mem_append.1 hp with hp | hp
  ·have hm := h.more p hp
   refine (hm.congr fun b hb => hf.block b (hm.lt b hb) fun e => ?_).mono fun _ h => Or.inl h
   obtain ⟨cur, hc⟩ := Row.blk h.row e
   exact z2e hm hc (by decide) hb
  ·obtain rfl : p = _ := List.mem_singleton.1 hp
   exact Row.nil _ _ _ _
 ·refine z1k.2 ⟨h.apart, fun a _ k _ e => ?_⟩
  cases e
theorem z1e.seen {S : Nat → Prop} {w w' : World} {bs cap : Nat} {cs : Array Value} {l : List (Sn × Value)} {s : Sn} {m m' : Value} {n : Int} (h : z1e S w (.slice (some ⟨bs, 0, none⟩) (l.length + 1) cap) (l ++ [(s, m)])) (hb : w.heap[bs]? = some (.cells cs 213 (0, 0)))
  (hm' : Row (fun k => m.ownBlock = some k ∨ w.heap.size ≤ k) w' 3 1 m' (s.see n).more.length ((s.see n).more.map inC)) (hb' : w'.heap[bs]? = some (.cells ((cs.setIfInBounds (l.length * 3 + 1) (.int .i64 (s.see n).upto)).setIfInBounds (l.length * 3 + 2) m') 213 (0, 0))) (hf : Fr (fun k => k = bs ∨ m.ownBlock = some k) w.heap.size w w') :
  z1e (fun k => S k ∨ w.heap.size ≤ k) w' (.slice (some ⟨bs, 0, none⟩) (l.length + 1) cap) (l ++ [(s.see n, m')]) := by
 have hap := z1k.1 h.apart
 have hmo := h.more (s, m) (by simp)
 have hother : ∀ p ∈ l, Row S w' 3 1 p.2 p.1.more.length (p.1.more.map inC) := by
  intro p hp
  have hm := h.more p (List.mem_append_left _ hp)
  refine hm.congr fun b hbk => hf.block b (hm.lt b hbk) fun e => ?_
  rcases e with e | e
  ·exact z2e hm hb (by decide) (e ▸ hbk)
  ·exact hap.2 p hp b hbk e
 obtain ⟨⟨r1, r2⟩, r3⟩ := h.row
 rcases r2 with ⟨e, _⟩ | ⟨g, cap', cur, e, _, hg, q1, q2, q3, q4⟩
 ·cases e
 obtain ⟨rfl, rfl⟩ : g = bs ∧ cap' = cap := by injection e with e1 e2 e3; injection e1 with e1; injection e1 with e1; exact ⟨e1.symm, e3.symm⟩
 obtain rfl : cs = cur := by rw [hb] at hg; cases hg; rfl
 rw [List.length_append, List.length_singleton] at q1 q4
 have hsz : l.length * 3 + 3 ≤ cs.size := by rw [q3]; omega
 refine ⟨⟨⟨?_, Or.inr ⟨g, cap', _, by simp, Nat.zero_le _, hb', by simpa using q1, q2, by simpa using q3, ?_⟩⟩, fun b hbk => Or.inl (r3 b hbk)⟩, ?_, ?_⟩
 ·rw [y1p]
 ·apply List.ext_getElem?
  intro j
  rw [List.length_append, List.length_singleton]
  by_cases hj : j < (l.length + 1) * 3
  ·rw [List.getElem?_take_of_lt hj]
   have hq : (y1o (l ++ [(s, m)]))[j]? = cs[j]? := by
    rw [← q4, List.getElem?_take_of_lt hj]
    simp
   have e1 : ∀ (x : Sn × Value), y1o (l ++ [x]) = y1o l ++ snC x.1 x.2 := fun x => by simp [y1o]
   have hll := y1p l
   rw [e1]
   rw [e1] at hq
   by_cases hj2 : j < l.length * 3
   ·rw [List.getElem?_append_left (by omega)] at hq ⊢
    rw [hq]
    simp only [Array.getElem?_toList, Array.getElem?_setIfInBounds, Array.size_setIfInBounds]
    rw [if_neg (by omega), if_neg (by omega)]
   ·rw [List.getElem?_append_right (by omega), hll] at hq ⊢
    simp only [Array.getElem?_toList, Array.getElem?_setIfInBounds, Array.size_setIfInBounds]
    obtain ⟨d, rfl⟩ : ∃ d, j = l.length * 3 + d := ⟨j - l.length * 3, by omega⟩
    rw [show l.length * 3 + d - l.length * 3 = d by omega] at hq ⊢
    match d, hj with
    | 0, _ =>
     rw [if_neg (by omega), if_neg (by omega), ← hq]
     simp [snC, y0g]
    | 1, _ =>
     rw [if_neg (by omega), if_pos rfl, if_pos (by omega)]
     rfl
    | 2, _ =>
     rw [if_pos rfl, if_pos (by omega)]
     rfl
    | d + 3, hj => exact absurd hj (by omega)
  ·rw [List.getElem?_eq_none (by rw [List.length_take]; omega), List.getElem?_eq_none (by rw [y1p, List.length_append, List.length_singleton]; omega)]
 ·intro p hp
  rcases List.mem_append.1 hp with hp | hp
  ·exact (hother p hp).mono fun _ h => Or.inl h
  ·obtain rfl : p = _ := List.mem_singleton.1 hp
   exact hm'.mono fun k hk => hk.imp (fun e => hmo.2 k e) id
 ·refine z1k.2 ⟨hap.1, fun a ha k hk e => ?_⟩
  rcases hm'.2 k e with e2 | e2
  ·exact hap.2 a ha k hk e2
  ·have := (h.more a (List.mem_append_left _ ha)).lt k hk
   omega
end Gt
open Go Go.RowKit
namespace Gt
open Mp Bk Tk
theorem Row.form {S : Nat → Prop} {w : World} {e : TypeId} {sz : Nat} {v : Value} {n : Nat} {xs : List Value} (h : Row S w e sz v n xs) : ∃ p cap, v = .slice p n cap ∧ ∀ k, k < n → ∃ g cur, p = some ⟨g, 0, none⟩ ∧ w.heap[g]? = some (.cells cur e (0, 0)) ∧ cur.toList.take (n * sz) = xs := by
 rcases h.1.2 with ⟨rfl, rfl⟩ | ⟨g, cap, cur, rfl, _, hg, _, _, _, h4⟩
 ·exact ⟨none, 0, rfl, fun k hk => absurd hk (by omega)⟩
 ·exact ⟨some ⟨g, 0, none⟩, cap, rfl, fun _ _ => ⟨g, cur, rfl, hg, h4⟩⟩
theorem y8l : (Tryz.prog.info? 71).map (fun i => i.zero) = some (some (.agg #[.int .i64 0, .slice none 0 0])) := by kernel_rfl
theorem y3t (ks : List (Int × Int)) : (z5w ks).length ≤ ks.length := by
 induction ks using y4u with
 | h0 => simp [z5w]
 | h1 l x ih =>
  rw [y0q]
  unfold digStep
  split
  ·split
   ·rename_i s hs _
    have : (z5w l) ≠ [] := fun e => by rw [e] at hs; cases hs
    have := List.length_pos_iff.2 this
    simp
    omega
   ·simp
    omega
  ·simp
def q6d (l : List (Sn × Value)) (x : Int) : Bool := match (l.map Prod.fst).getLast? with
 | some s => !decide (s.gate = x)
 | none => true
def z3q (F : Int) (p : Option Addr) (n cap b4 b5 k : Nat) (f : Nat → Value) : Act := { tmps := #[.int .i64 F, .slice p n cap, f 2, f 3, .pointer (some ⟨b4, 0, none⟩), .pointer (some ⟨b5, 0, none⟩), f 6, f 7, f 8, f 9, f 10, .slice p n cap, .int .i64 (n : Int), .int .i64 (k : Int), f 14, f 15, f 16, f 17, f 18, f 19, f 20, f 21, f 22, f 23, f 24, f 25, f 26, f 27, f 28, f 29, f 30, f 31, f 32, f 33, f 34, f 35, f 36, f 37, f 38, f 39, f 40, f 41, f 42, f 43, f 44, f 45, f 46, f 47, f 48, f 49, f 50, f 51, f 52], defers := [] }
structure q5f (w : World) (F : Int) (b4 b5 : Nat) (ks : List (Int × Int)) (sv : Value) (l : List (Sn × Value)) (wr : World) : Prop where
 x : wr.heap[b4]? = some (.cells #[.int .i64 0, .slice none 0 0] 71 (0, 0))
 y : wr.heap[b5]? = some (.cells #[.int .i64 F, sv] 71 (0, 0))
 eq : l.map Prod.fst = z5w ks
 seen : z1e (fun k => w.heap.size ≤ k) wr sv l
 below : Below w.heap.size w wr
theorem q5f.later {w : World} {F : Int} {b4 b5 : Nat} {ks : List (Int × Int)} {sv : Value} {l : List (Sn × Value)} {wr w' : World} (h : q5f w F b4 b5 ks sv l wr) (hb : Below wr.heap.size wr w') : q5f w F b4 b5 ks sv l w' :=
 ⟨(hb.block b4 (aL h.x)).trans h.x, (hb.block b5 (aL h.y)).trans h.y, h.eq, h.seen.below hb, h.below.trans (hb.mono h.below.size)⟩
theorem q1m {S : Nat → Prop} (w : World) (v : Value) (ks : List (Int × Int)) (F : Int) (hrow : Row S w 154 2 v ks.length (ks.flatMap kC)) (hk : ∀ k ∈ ks, 1 ≤ k.2 ∧ k.2 ≤ 1000) (hl : ks.length ≤ 16000) :
  Calls Tryz.prog 87 #[.int .i64 F, v] w fun e w' => ∃ u, e = .returned u ∧ (∃ sv l, u = .agg #[.int .i64 F, sv] ∧ l.map Prod.fst = z5w ks ∧ z1e (fun k => w.heap.size ≤ k) w' sv l) ∧ Below w.heap.size w w' := by
 obtain ⟨p, cap, rfl, z3s⟩ := Row.form hrow
 go_enter Tryz.func87, Tryz.ntmps87
 refine wp_seq ?_
 refine Ks.reg ?_
 refine Ks.alloc rfl _ rfl (.agg #[.int .i64 0, .slice none 0 0]) y8l #[.int .i64 0, .slice none 0 0] rfl ?_
 intro w1 b4 Hb4 HX1 HB1 HS1
 simp only [zD]
 refine Ks.done ?_
 refine wp_seq ?_
 refine Ks.reg ?_
 refine Ks.v (.int .i64 F) ?_
 simp only [zD]
 refine Ks.v (.agg #[.int .i64 F, .slice none 0 0]) ?_
 simp only [zD]
 refine Ks.decl rfl _ rfl (.agg #[.int .i64 0, .slice none 0 0]) y8l rfl _ _ rfl #[.int .i64 F, .slice none 0 0] (fun _ => rfl) (fun _ => rfl) (by kernel_rfl) rfl (by kernel_rfl) ?_
 intro w2 b5 Hb5 HY2 HB2
 have HX2 : Hid (w2.heap[b4]? = _) := (HB2.out.block _ (aL HX1.out)).trans HX1.out
 have HB : Hid (Below w.heap.size w w2) := HB1.out.trans (HB2.out.mono HB1.out.size)
 have h4 : w.heap.size ≤ b4 := Nat.le_of_eq Hb4.out.symm
 have h5 : w.heap.size ≤ b5 := Nat.le_trans HB1.out.size Hb5.out
 have h45 : b4 ≠ b5 := fun e => by
  have := (aL HX1.out)
  have := Hb5.out
  omega
 clear HX1 HB1 HB2 HS1 Hb4 Hb5
 simp only [zD]
 refine Ks.done ?_
 refine wp_seq ?_
 refine wp_seq ?_
 refine Ks.reg ?_
 refine Ks.v (.slice p ks.length cap) ?_
 simp only [zD]
 refine Ks.v (.int .i64 (ks.length : Int)) ?_
 simp only [zD]
 refine Ks.v (.int .i64 0) ?_
 simp only [zD]
 refine Ks.done ?_
 refine wp_block ?_
 refine Ks.loop (fun m a wr => ∃ (k : Nat) (f : Nat → Value) (sv : Value) (l : List (Sn × Value)), k ≤ ks.length ∧ m = ks.length - k ∧ q5f w F b4 b5 (ks.take k) sv l wr ∧ a = z3q F p ks.length cap b4 b5 k f) ks.length ⟨0, fun j => if j = 9 then .int .i64 F else if j = 10 then .agg #[.int .i64 F, .slice none 0 0] else undef, .slice none 0 0, [], Nat.zero_le _, rfl, ⟨HX2.out, HY2.out, rfl, z1e.nil _ _, HB.out⟩, rfl⟩ ?_
 clear HX2 HY2 HB
 rintro m a wr ⟨k, f, sv, l, hkn, rfl, hD, rfl⟩
 have fin : ∀ (a' : Act) (w' : World) (k' : Nat) (sv : Value) (l : List (Sn × Value)), k < k' → k' ≤ ks.length → q5f w F b4 b5 (ks.take k') sv l w' → a' = z3q F p ks.length cap b4 b5 k' (fun j => a'.tmps.getD j undef) → ∃ m, m < ks.length - k ∧ ∃ (k : Nat) (f : Nat → Value) (sv : Value) (l : List (Sn × Value)), k ≤ ks.length ∧ m = ks.length - k ∧ q5f w F b4 b5 (ks.take k) sv l w' ∧ a' = z3q F p ks.length cap b4 b5 k f := fun a' w' k' sv l h1 h2 h3 h4 => ⟨ks.length - k', by omega, k', _, sv, l, h2, rfl, h3, h4⟩
 unfold z3q
 refine wp_seq ?_
 refine Ks.reg ?_
 refine Ks.v (.bool (decide ((k : Int) < ks.length))) ?_
 simp only [zD]
 refine Ks.done ?_
 refine wp_seq ?_
 refine wp_cond_split rfl ?_ ?_
 ·intro hlt
  have hlt : k < ks.length := by have := of_decide_eq_true hlt; omega
  obtain ⟨gh, cur, rfl, hgh, htk⟩ := z3s k hlt
  obtain ⟨x1, x2, hx⟩ : ∃ x1 x2, ks[k] = (x1, x2) := ⟨_, _, rfl⟩
  have hxk : ks[k]? = some (x1, x2) := by rw [List.getElem?_eq_getElem hlt, hx]
  have hxb := hk (x1, x2) (List.mem_of_getElem? hxk)
  have htake : z5w (ks.take (k + 1)) = digStep (z5w (ks.take k)) (x1, x2) := by rw [z3a hxk, y0q]
  have hbd := z8m (ks := ks.take k) fun q hq => hk q (List.mem_of_mem_take hq)
  have hghl := (aL hgh)
  have HRg : Hid (wr.rangeAt gh (k * 2) (kC (x1, x2))) := z1v (Row.range y6p hgh htk hxk) hD.below hghl
  refine wp_skip ?_
  refine Ks.norm ?_
  refine wp_seq ?_
  refine wp_block ?_
  refine wp_seq ?_
  refine Ks.reg ?_
  refine Ks.idx (by kernel_rfl) _ _ _ rfl 154 2 Tryz.underlying167 (by kernel_rfl) (by kernel_rfl) gh ks.length cap k rfl rfl hlt ?_
  simp only [zD]
  refine Ks.mid rfl _ _ rfl gh (k * 2) rfl (kC (x1, x2)) HRg.out Tryz.underlying154 rfl (by kernel_rfl) ?_
  simp only [zD]
  refine Ks.decl rfl _ rfl (.agg #[.int .i64 0, .int .i64 0]) (by kernel_rfl) rfl _ _ rfl #[.int .i64 x1, .int .i64 x2] (fun _ => rfl) (fun _ => rfl) (by kernel_rfl) rfl (by kernel_rfl) ?_
  intro wa b7 Hb7 HA HBa
  replace hD := hD.later HBa.out
  clear HRg HBa
  simp only [zD]
  refine Ks.done ?_
  obtain ⟨q, cq, rfl, hq⟩ := Row.form hD.seen.row
  refine wp_seq ?_
  refine Ks.reg ?_
  refine Ks.v (.pointer (some ⟨b5, 1, none⟩)) ?_
  simp only [zD]
  refine Ks.cell rfl _ _ rfl Tryz.underlying69 rfl b5 1 (.slice q l.length cq) rfl (z0c hD.y 1 rfl) ?_
  simp only [zD]
  refine Ks.v (.int .i64 (l.length : Int)) ?_
  simp only [zD]
  have hll : (l.length : Int) ≤ 100000 := by
   have h1 := congrArg List.length hD.eq
   have h2 := y3t (ks.take k)
   rw [List.length_map] at h1
   rw [List.length_take] at h2
   omega
  refine Ks.val rfl (.int .i64 ((l.length : Int) - 1)) (by
   simp [execOp, go_sem]
   rw [IntWalk.i64_in _ ⟨by omega, by omega⟩]) ?_
  simp only [zD]
  refine Ks.v (.int .i64 ((l.length : Int) - 1)) ?_
  simp only [zD]
  refine Ks.done ?_
  refine Ks.cut (fun a' w' => ∃ (l0 : List (Sn × Value)) (s : Sn) (m : Value) (bs cs : Nat) (f : Nat → Value), s.gate = x1 ∧ digStep (z5w (ks.take k)) (x1, x2) = l0.map Prod.fst ++ [s.see x2] ∧ ((0 ≤ s.upto ∧ s.upto ≤ 1000) ∧ s.more.length ≤ 16000) ∧ w'.heap[b4]? = some (.cells #[.int .i64 0, .slice none 0 0] 71 (0, 0)) ∧ w'.heap[b5]? = some (.cells #[.int .i64 F, .slice (some ⟨bs, 0, none⟩) (l0.length + 1) cs] 71 (0, 0)) ∧ z1e (fun k => w.heap.size ≤ k) w' (.slice (some ⟨bs, 0, none⟩) (l0.length + 1) cs) (l0 ++ [(s, m)]) ∧ Below w.heap.size w w' ∧ w'.heap[b7]? = some (.cells #[.int .i64 x1, .int .i64 x2] 154 (0, 0)) ∧ f 7 = .pointer (some ⟨b7, 0, none⟩) ∧ f 8 = .int .i64 (l0.length : Int) ∧ a' = z3q F (some ⟨gh, 0, none⟩) ks.length cap b4 b5 k f) ?_ ?_
  ·have fin8 : ∀ (a' : Act) (w' : World) (l0 : List (Sn × Value)) (s : Sn) (m : Value) (bs cs : Nat), (s.gate = x1 ∧ digStep (z5w (ks.take k)) (x1, x2) = l0.map Prod.fst ++ [s.see x2] ∧ ((0 ≤ s.upto ∧ s.upto ≤ 1000) ∧ s.more.length ≤ 16000) ∧ w'.heap[b4]? = some (.cells #[.int .i64 0, .slice none 0 0] 71 (0, 0)) ∧ w'.heap[b5]? = some (.cells #[.int .i64 F, .slice (some ⟨bs, 0, none⟩) (l0.length + 1) cs] 71 (0, 0)) ∧ z1e (fun k => w.heap.size ≤ k) w' (.slice (some ⟨bs, 0, none⟩) (l0.length + 1) cs) (l0 ++ [(s, m)]) ∧ Below w.heap.size w w' ∧ w'.heap[b7]? = some (.cells #[.int .i64 x1, .int .i64 x2] 154 (0, 0))) → a'.tmps.getD 7 undef = .pointer (some ⟨b7, 0, none⟩) → a'.tmps.getD 8 undef = .int .i64 (l0.length : Int) → a' = z3q F (some ⟨gh, 0, none⟩) ks.length cap b4 b5 k (fun j => a'.tmps.getD j undef) → ∃ (l0 : List (Sn × Value)) (s : Sn) (m : Value) (bs cs : Nat) (f : Nat → Value), s.gate = x1 ∧ digStep (z5w (ks.take k)) (x1, x2) = l0.map Prod.fst ++ [s.see x2] ∧ ((0 ≤ s.upto ∧ s.upto ≤ 1000) ∧ s.more.length ≤ 16000) ∧ w'.heap[b4]? = some (.cells #[.int .i64 0, .slice none 0 0] 71 (0, 0)) ∧ w'.heap[b5]? = some (.cells #[.int .i64 F, .slice (some ⟨bs, 0, none⟩) (l0.length + 1) cs] 71 (0, 0)) ∧ z1e (fun k => w.heap.size ≤ k) w' (.slice (some ⟨bs, 0, none⟩) (l0.length + 1) cs) (l0 ++ [(s, m)]) ∧ Below w.heap.size w w' ∧ w'.heap[b7]? = some (.cells #[.int .i64 x1, .int .i64 x2] 154 (0, 0)) ∧ f 7 = .pointer (some ⟨b7, 0, none⟩) ∧ f 8 = .int .i64 (l0.length : Int) ∧ a' = z3q F (some ⟨gh, 0, none⟩) ks.length cap b4 b5 k f := fun a' w' l0 s m bs cs ⟨c1, c2, c3, c4, c5, c6, c7, c8⟩ h7 h8 ha => ⟨l0, s, m, bs, cs, _, c1, c2, c3, c4, c5, c6, c7, c8, h7, h8, ha⟩
   have hgates : q6d l x1 = true → digStep (z5w (ks.take k)) (x1, x2) = l.map Prod.fst ++ [(⟨x1, 0, []⟩ : Sn).see x2] := by
    intro hn
    rw [← hD.eq]
    refine z7k (k := (x1, x2)) fun s hs => ?_
    unfold q6d at hn
    rw [hs] at hn
    simpa using hn
   refine Ks.cut (fun a' w' => ∃ f : Nat → Value, q5f w F b4 b5 (ks.take k) (.slice q l.length cq) l w' ∧ w'.heap[b7]? = some (.cells #[.int .i64 x1, .int .i64 x2] 154 (0, 0)) ∧ f 7 = .pointer (some ⟨b7, 0, none⟩) ∧ f 8 = .int .i64 ((l.length : Int) - 1) ∧ f 33 = .bool (q6d l x1) ∧ a' = z3q F (some ⟨gh, 0, none⟩) ks.length cap b4 b5 k f) ?_ ?_
   ·have fin6 : ∀ (a' : Act) (w' : World), Below wa.heap.size wa w' → a'.tmps.getD 7 undef = .pointer (some ⟨b7, 0, none⟩) → a'.tmps.getD 8 undef = .int .i64 ((l.length : Int) - 1) → a'.tmps.getD 33 undef = .bool (q6d l x1) → a' = z3q F (some ⟨gh, 0, none⟩) ks.length cap b4 b5 k (fun j => a'.tmps.getD j undef) → ∃ f : Nat → Value, q5f w F b4 b5 (ks.take k) (.slice q l.length cq) l w' ∧ w'.heap[b7]? = some (.cells #[.int .i64 x1, .int .i64 x2] 154 (0, 0)) ∧ f 7 = .pointer (some ⟨b7, 0, none⟩) ∧ f 8 = .int .i64 ((l.length : Int) - 1) ∧ f 33 = .bool (q6d l x1) ∧ a' = z3q F (some ⟨gh, 0, none⟩) ks.length cap b4 b5 k f := fun a' w' hb h7 h8 h33 ha => ⟨_, hD.later hb, (hb.block b7 (aL HA.out)).trans HA.out, h7, h8, h33, ha⟩
    have hb5l := (aL hD.y)
    have hb7l := (aL HA.out)
    refine Qt.z0u (by kernel_rfl) (by kernel_rfl) ?_
    refine Qg.val (by kernel_rfl) (.int .i64 ((l.length : Int) - 1)) (fun _ _ => by kernel_rfl) ?_
    simp only [zD]
    rcases List.eq_nil_or_concat l with rfl | ⟨L, ⟨s, m⟩, hlc⟩
    ·skip
     refine Qg.val (by kernel_rfl) (.bool true) (fun _ _ => by kernel_rfl) ?_
     simp only [zD]
     refine Qg.val (by kernel_rfl) (.bool true) (fun _ _ => by kernel_rfl) ?_
     simp only [zD]
     with_reducible refine Qg.off (by kernel_rfl) ?_
     simp only [zD]
     with_reducible refine Qg.off (by kernel_rfl) ?_
     simp only [zD]
     with_reducible refine Qg.off (by kernel_rfl) ?_
     simp only [zD]
     with_reducible refine Qg.off (by kernel_rfl) ?_
     simp only [zD]
     with_reducible refine Qg.off (by kernel_rfl) ?_
     simp only [zD]
     with_reducible refine Qg.off (by kernel_rfl) ?_
     simp only [zD]
     with_reducible refine Qg.off (by kernel_rfl) ?_
     simp only [zD]
     with_reducible refine Qg.off (by kernel_rfl) ?_
     simp only [zD]
     with_reducible refine Qg.off (by kernel_rfl) ?_
     simp only [zD]
     refine Qg.val (by kernel_rfl) (.bool true) (fun _ _ => by kernel_rfl) ?_
     simp only [zD]
     refine wpQuiet_nil ?_
     intro w' hb
     refine Ks.norm ?_
     exact fin6 _ w' hb rfl rfl rfl rfl
    ·rw [List.concat_eq_append] at hlc
     subst hlc
     have hLn : (L ++ [(s, m)]).length = L.length + 1 := by simp
     obtain ⟨gs, cur2, rfl, hgs, htk2⟩ := hq L.length (by omega)
     have hgsl := (aL hgs)
     refine Qg.val (by kernel_rfl) (.bool false) (fun _ _ => by
      simp [execOp, go_sem]) ?_
     simp only [zD]
     refine Qg.val (by kernel_rfl) (.bool false) (fun _ _ => by kernel_rfl) ?_
     simp only [zD]
     refine Qg.val (by kernel_rfl) (.pointer (some ⟨b5, 1, none⟩)) (fun _ _ => by kernel_rfl) ?_
     simp only [zD]
     refine Qg.cell (by kernel_rfl) _ _ rfl Tryz.underlying69 rfl b5 1 _ rfl hb5l (z0c hD.y 1 rfl) ?_
     simp only [zD]
     refine Qg.val (by kernel_rfl) (.int .i64 (((L ++ [(s, m)]).length : Int) - 1)) (fun _ _ => by kernel_rfl) ?_
     simp only [zD]
     refine Qg.idx (by kernel_rfl) _ _ _ rfl 213 3 Tryz.underlying69 (by kernel_rfl) (by kernel_rfl) gs _ cq L.length rfl (by
      show Value.int .i64 (((L ++ [(s, m)]).length : Int) - 1) = _
      rw [hLn]
      congr 1
      omega) (by omega) ?_
     simp only [zD]
     refine Qg.val (by kernel_rfl) (.pointer (some ⟨gs, L.length * 3, none⟩)) (fun _ _ => by kernel_rfl) ?_
     simp only [zD]
     refine Qg.cell (by kernel_rfl) _ _ rfl Tryz.underlying3 rfl gs (L.length * 3) (.int .i64 s.gate) rfl hgsl (Row.cell hgs htk2 (seen_cells (p := (s, m)) (by simp) 0 (by omega))) ?_
     simp only [zD]
     refine Qg.val (by kernel_rfl) (.pointer (some ⟨b7, 0, none⟩)) (fun _ _ => by kernel_rfl) ?_
     simp only [zD]
     refine Qg.cell (by kernel_rfl) _ _ rfl Tryz.underlying3 rfl b7 0 (.int .i64 x1) rfl hb7l (z0c HA.out 0 rfl) ?_
     simp only [zD]
     refine Qg.val (by kernel_rfl) (.bool (!decide (s.gate = x1))) (fun _ _ => by kernel_rfl) ?_
     simp only [zD]
     refine Qg.val (by kernel_rfl) (.bool (!decide (s.gate = x1))) (fun _ _ => by kernel_rfl) ?_
     simp only [zD]
     refine wpQuiet_nil ?_
     intro w' hb
     refine Ks.norm ?_
     exact fin6 _ w' hb rfl rfl (by simp [q6d]) rfl
   ·rintro a' wc ⟨f', hD', HA', e7, e8, e33, rfl⟩
    have hb5l := (aL hD'.y)
    unfold z3q
    rw [e7, e8, e33]
    cases hn : q6d l x1 with
    | true =>
     refine wp_cond_true rfl ?_
     refine wp_seq ?_
     refine Ks.reg ?_
     refine Ks.v (.pointer (some ⟨b5, 1, none⟩)) ?_
     simp only [zD]
     refine Ks.cell rfl _ _ rfl Tryz.underlying69 rfl b5 1 (.slice q l.length cq) rfl (z0c hD'.y 1 rfl) ?_
     simp only [zD]
     refine Ks.v (.pointer (some ⟨b7, 0, none⟩)) ?_
     simp only [zD]
     refine Ks.cell rfl _ _ rfl Tryz.underlying3 rfl b7 0 (.int .i64 x1) rfl (z0c HA' 0 rfl) ?_
     simp only [zD]
     refine Ks.v (.agg #[.int .i64 x1, .int .i64 0, .slice none 0 0]) ?_
     simp only [zD]
     refine Ks.push rfl rfl 69 213 _ _ _ rfl rfl (.agg #[.int .i64 x1, .int .i64 0, .slice none 0 0]) (.agg #[.int .i64 0, .int .i64 0, .slice none 0 0]) rfl #[.int .i64 x1, .int .i64 0, .slice none 0 0] 3 40 Tryz.underlying69 k6m (by decide) (by decide) (by kernel_rfl) rfl (by decide) _ _ l.length (y1o l) (fun _ => rfl) (fun _ => rfl) hD'.seen.row rfl (by simp [Value.oneCell']) (by omega) ?_
     intro u sv' wd hr hf
     have hS := hD'.seen.push x1 hr hf
     obtain ⟨bs, cs2, cur2, rfl, -, hbs, -⟩ := y4i hr.1
     have hown : ∀ j, (Value.slice q l.length cq).ownBlock = some j → w.heap.size ≤ j := fun j hj => hD'.seen.row.2 j hj
     have hX : wd.heap[b4]? = some (.cells #[.int .i64 0, .slice none 0 0] 71 (0, 0)) := (hf.block b4 (aL hD'.x) (z2e hD'.seen.row hD'.x (by decide))).trans hD'.x
     have hY : wd.heap[b5]? = some (.cells #[.int .i64 F, .slice q l.length cq] 71 (0, 0)) := (hf.block b5 hb5l (z2e hD'.seen.row hD'.y (by decide))).trans hD'.y
     have hA2 : wd.heap[b7]? = some (.cells #[.int .i64 x1, .int .i64 x2] 154 (0, 0)) := (hf.block b7 (aL HA') (z2e hD'.seen.row HA' (by decide))).trans HA'
     have hBd : Below w.heap.size w wd := hD'.below.trans (hf.below hD'.below.size fun j hj e => by have := hown j e; omega)
     simp only [zD]
     refine Ks.v (.pointer (some ⟨b5, 1, none⟩)) ?_
     simp only [zD]
     refine Ks.store rfl _ _ _ rfl b5 1 (.slice (some ⟨bs, 0, none⟩) (l.length + 1) cs2) rfl rfl hY (by simp) (by kernel_rfl) rfl #[.int .i64 F, .slice (some ⟨bs, 0, none⟩) (l.length + 1) cs2] rfl ?_
     intro we HC HF HO HS
     simp only [Act.put]
     refine Ks.done ?_
     refine Ks.reg ?_
     refine Ks.v (.int .i64 ((l.length : Int) - 1)) ?_
     simp only [zD]
     refine Ks.val rfl (.int .i64 (l.length : Int)) (by
      simp [execOp, go_sem]
      rw [IntWalk.i64_in _ ⟨by omega, by omega⟩]) ?_
     simp only [zD]
     refine Ks.v (.int .i64 (l.length : Int)) ?_
     simp only [zD]
     refine Ks.done ?_
     have hS2 : z1e (fun k => w.heap.size ≤ k) we (.slice (some ⟨bs, 0, none⟩) (l.length + 1) cs2) (l ++ [(⟨x1, 0, []⟩, .slice none 0 0)]) := by
      have hS1 := hS.mono (T := fun k => w.heap.size ≤ k) fun j hj => hj.elim id fun h => Nat.le_trans hD'.below.size h
      exact ⟨Row.other hS1.row (z2e hS1.row hY (by decide)) HO.out, fun z hz => Row.other (hS1.more z hz) (z2e (hS1.more z hz) hY (by decide)) HO.out, hS1.apart⟩
     exact fin8 _ we l ⟨x1, 0, []⟩ (.slice none 0 0) bs cs2 ⟨rfl, hgates hn, ⟨⟨by simp, by simp⟩, by simp⟩, (HO.out b4 h45).trans hX, HC.out, hS2, hBd.trans ((HF.out (fun _ => False) w.heap.size (Or.inr h5)).below (Nat.le_refl _) fun _ _ h => h), (HO.out b7 (fun e => by rw [e, hY] at hA2; cases hA2)).trans hA2⟩ rfl rfl rfl
    | false =>
     refine wp_cond_false rfl ?_
     refine wp_skip ?_
     refine Ks.norm ?_
     rcases List.eq_nil_or_concat l with rfl | ⟨L, ⟨s, m⟩, hlc⟩
     ·cases hn
     ·rw [List.concat_eq_append] at hlc
      subst hlc
      have hLn : (L ++ [(s, m)]).length = L.length + 1 := by simp
      obtain ⟨gs, cur2, rfl, hgs, htk2⟩ := hq L.length (by omega)
      have hsg : s.gate = x1 := by
       unfold q6d at hn
       simpa using hn
      have hin : s ∈ z5w (ks.take k) := by rw [← hD'.eq]; simp
      have hsb := hbd s hin
      have hm2 : ((L ++ [(s, m)]).map Prod.fst) = L.map Prod.fst ++ [s] := by simp
      have hY' := hD'.y
      have hS' := hD'.seen
      rw [hLn] at hY' hS'
      exact fin8 _ wc L s m gs cq ⟨hsg, by rw [← hD'.eq, hm2, z6a (k := (x1, x2)) hsg], ⟨hsb.1, by have := hsb.2; rw [List.length_take] at this; omega⟩, hD'.x, hY', hS', hD'.below, HA'⟩ rfl (by
       show Value.int .i64 (((L ++ [(s, m)]).length : Int) - 1) = _
       rw [hLn]
       congr 1
       omega) rfl
  ·rintro a' wb ⟨l0, s, m, bs, cs, f', hs1, hs2, hs3, hX, hY, hS, hB, hA, hf7, hf8, rfl⟩
   have hb5l := (aL hY)
   have hb7l := (aL hA)
   have hbs := hS.row
   obtain ⟨g0, cp0, cur0, e0, -, hcs, q1, q2, q3, q4⟩ := y4i (n := l0.length) (by have := hbs.1; rwa [List.length_append] at this)
   obtain ⟨rfl, rfl⟩ : bs = g0 ∧ cs = cp0 := by injection e0 with e1 e2 e3; injection e1 with e1; injection e1 with e1; exact ⟨e1, e3⟩
   have hcsz : l0.length * 3 + 3 ≤ cur0.size := by rw [q3]; omega
   have hc : ∀ j, j < 3 → cur0[l0.length * 3 + j]? = (snC s m)[j]? := fun j hj => by
    have h1 := seen_cells (l := l0 ++ [(s, m)]) (i := l0.length) (p := (s, m)) (by simp) j hj
    rw [← q4, List.getElem?_take_of_lt (by omega)] at h1
    simpa using h1
   unfold z3q
   rw [hf7, hf8]
   refine Qg.z0q 6 (by kernel_rfl) (by kernel_rfl) ?_
   simp only [List.take_succ_cons, List.take_zero, List.drop_succ_cons, List.drop_zero]
   refine Qg.val (by kernel_rfl) (.pointer (some ⟨b5, 1, none⟩)) (fun _ _ => by kernel_rfl) ?_
   simp only [zD]
   refine Qg.cell (by kernel_rfl) _ _ rfl Tryz.underlying69 rfl b5 1 _ rfl hb5l (z0c hY 1 rfl) ?_
   simp only [zD]
   refine Qg.val (by kernel_rfl) (.int .i64 (l0.length : Int)) (fun _ _ => by kernel_rfl) ?_
   simp only [zD]
   refine Qg.idx (by kernel_rfl) _ _ _ rfl 213 3 Tryz.underlying69 (by kernel_rfl) (by kernel_rfl) bs (l0.length + 1) cs l0.length rfl rfl (by omega) ?_
   simp only [zD]
   refine Qg.val (by kernel_rfl) (.pointer (some ⟨b7, 1, none⟩)) (fun _ _ => by kernel_rfl) ?_
   simp only [zD]
   refine Qg.cell (by kernel_rfl) _ _ rfl Tryz.underlying3 rfl b7 1 (.int .i64 x2) rfl hb7l (z0c hA 1 rfl) ?_
   simp only [zD]
   refine wpQuiet_nil ?_
   intro wc hbc
   have hmo := hS.more (s, m) (by simp)
   have hcs2 : wc.heap[bs]? = some (.cells cur0 213 (0, 0)) := (Below.block hbc bs (aL hcs)).trans hcs
   have hsee := j0c wc bs (l0.length * 3) cur0 s m x2 hcs2 (hc 1 (by omega)) (hc 2 (by omega)) (hmo.below hbc (Nat.le_refl _)) ⟨by omega, by omega⟩ (by omega)
   refine Ks.call rfl 158 #[.pointer (some ⟨bs, l0.length * 3, none⟩), .int .i64 x2] (by kernel_rfl) hsee ?_
   rintro _ wd ⟨rfl, ⟨m', hm', hb'⟩, hf⟩
   simp only [zD]
   have hSc : z1e (fun k => w.heap.size ≤ k) wc (.slice (some ⟨bs, 0, none⟩) (l0.length + 1) cs) (l0 ++ [(s, m)]) := hS.below hbc
   have hS2 := (hSc.seen hcs2 hm' hb' hf).mono (T := fun k => w.heap.size ≤ k) fun j hj => hj.elim id fun h => Nat.le_trans (Nat.le_trans hB.size (Below.size hbc)) h
   have hXc := (Below.block hbc b4 (aL hX)).trans hX
   have hYc := (Below.block hbc b5 hb5l).trans hY
   have hmc : Row (fun k => w.heap.size ≤ k) wc 3 1 m s.more.length (s.more.map inC) := hmo.below hbc (Nat.le_refl _)
   have hkeep : ∀ (j : Nat) (c : Array Value), wc.heap[j]? = some (.cells c 71 (0, 0)) → wd.heap[j]? = some (.cells c 71 (0, 0)) := fun j c hj => (hf.block j (aL hj) fun e => by
    rcases e with e | e
    ·rw [e, hcs2] at hj; cases hj
    ·exact z2e hmc hj (by decide) e).trans hj
   have hBc : Below w.heap.size w wc := hB.trans (Below.mono hbc hB.size)
   have hBd : Below w.heap.size w wd := hBc.trans (hf.below hBc.size fun j hj e => by
    rcases e with e | e
    ·have := hSc.row.2 bs rfl
     omega
    ·have := hmc.2 j e
     omega)
   refine Ks.fin ?_
   refine Ks.inb ?_
   refine Ks.reg ?_
   refine Ks.val rfl (.int .i64 ((k + 1 : Nat) : Int)) (by
    simp [execOp, go_sem]
    rw [IntWalk.i64_in _ ⟨by omega, by omega⟩]) ?_
   simp only [zD]
   refine Ks.v (.int .i64 ((k + 1 : Nat) : Int)) ?_
   simp only [zD]
   refine Ks.done ?_
   refine fin _ wd (k + 1) (.slice (some ⟨bs, 0, none⟩) (l0.length + 1) cs) (l0 ++ [(s.see x2, m')]) (by omega) hlt ⟨hkeep b4 _ hXc, hkeep b5 _ hYc, ?_, hS2, hBd⟩ rfl
   rw [htake, hs2]
   simp
 ·intro hlt
  obtain rfl : k = ks.length := by have := of_decide_eq_false hlt; omega
  rw [List.take_of_length_le (Nat.le_refl _)] at hD
  refine wp_exit ?_
  refine Ks.z3r ?_
  refine Ks.norm ?_
  refine wp_seq ?_
  refine Ks.reg ?_
  refine Ks.row rfl _ _ rfl b5 rfl hD.y Tryz.underlying71 rfl (by kernel_rfl) ?_
  simp only [zD]
  refine Ks.whole rfl _ _ _ rfl b4 #[.int .i64 F, sv] rfl rfl hD.x (by kernel_rfl) rfl (by
   have := Row.one hD.seen.row
   simp [Value.oneCell'] at this ⊢
   exact this) ?_
  intro w3 HR3 H2 H3 H4
  simp only [Act.put]
  refine Ks.done ?_
  refine wp_ret ?_
  have hseen : z1e (fun k => w.heap.size ≤ k) w3 sv l := ⟨Row.other hD.seen.row (z2e hD.seen.row hD.x (by decide)) H3.out, fun q hq => Row.other (hD.seen.more q hq) (z2e (hD.seen.more q hq) hD.x (by decide)) H3.out, hD.seen.apart⟩
  exact Own.z1g Tryz.results87 rfl b4 _ #[.int .i64 F, sv] _ _ rfl HR3.out Tryz.underlying71 rfl (by kernel_rfl) ⟨_, rfl, ⟨sv, l, rfl, hD.eq, hseen⟩, hD.below.trans ((H2.out (fun _ => False) w.heap.size (Or.inr h4)).below (Nat.le_refl _) (fun _ _ h => h))⟩
end Gt
open Go Go.RowKit
namespace Gt
open Mp Bk Tk
theorem q5p (n : Int) (w : World) : Calls Tryz.prog 84 #[.int .i64 n] w fun e w' => e = .returned (.bool (bet 0 n 15)) ∧ w' = w := by
 have H : Hid _ := z5d 0 n 15
 go_enter Tryz.func84, Tryz.ntmps84
 go_wp2_with fail
 refine (H.out _).mono ?_
 rintro _ w1 ⟨rfl, rfl⟩
 go_wp2_with fail
 exact bodyPost_ret (v := .bool (bet 0 n 15)) (by simp [results, Tryz.results84, go_sem]) rfl ⟨rfl, rfl⟩
theorem y0m (n : Int) (w : World) : Calls Tryz.prog 217 #[.int .i64 n] w fun e w' => e = .returned (.bool (bet 1 n 1000)) ∧ w' = w := by
 have H : Hid _ := z5d 1 n 1000
 go_enter Tryz.func217, Tryz.ntmps217
 go_wp2_with fail
 refine (H.out _).mono ?_
 rintro _ w1 ⟨rfl, rfl⟩
 go_wp2_with fail
 exact bodyPost_ret (v := .bool (bet 1 n 1000)) (by simp [results, Tryz.results217, go_sem]) rfl ⟨rfl, rfl⟩
def itV (x : It) : Value := .agg #[.int .i64 x.gate, .int .i64 x.adm, .int .i64 x.epoch, .int .i64 x.serial, .bool x.gone]
set_option maxHeartbeats 400000 in
theorem k1c (x y : It) (w : World) : Calls Tryz.prog 234 #[itV x, itV y] w fun e w' => e = .returned (.bool (decide (z1y x y))) ∧ Below w.heap.size w w' := by
 unfold itV
 have HB : ∀ o1 o2, Hid (Below w.heap.size w ((w.alloc o1).alloc o2)) := fun o1 o2 => ((Below.refl _ _).alloc (Nat.le_refl _) _).alloc (by simp) _
 have c1 : x.gate < y.gate → decide (z1y x y) = true := fun h => decide_eq_true (Or.inl h)
 have c2 : ¬ x.gate < y.gate → x.gate = y.gate → decide (z1y x y) = decide (x.adm < y.adm) := fun h1 h2 => by
  rw [decide_eq_decide]
  unfold z1y
  omega
 have c3 : ¬ x.gate < y.gate → ¬ x.gate = y.gate → decide (z1y x y) = false := fun h1 h2 => by
  rw [decide_eq_false_iff_not]
  unfold z1y
  omega
 go_enter Tryz.func234, Tryz.ntmps234
 go_wp2_with fail
 all_goals go_ret
 all_goals refine ⟨?_, (HB _ _).out⟩
 all_goals first | rfl | (simp; omega)
theorem k8z {S : Nat → Prop} {w : World} {g : Nat} {s : St} (h : z0h S w g s) (p : Int × Int) : Calls Tryz.prog 163 #[.pointer (some ⟨g, 3, none⟩), two p] w fun e w' => e = .returned (.bool (decide (p ∈ s.l.map It.key))) ∧ Below w.heap.size w w' := by
 obtain ⟨_, vh, vd, vu, hg, hm⟩ := h
 have hc : w.cell? ⟨g, 4, none⟩ = some vh := z0c hg 4 rfl
 have hgl := (aL hg)
 clear hg
 obtain ⟨lh, ld, lu, V1, V2, V3, H⟩ := hm.ask
 have e : Hid ((at? p lh).isSome = decide (p ∈ s.l.map It.key)) := H.has p
 clear H V2 V3 hm
 generalize decide (p ∈ s.l.map It.key) = r at e ⊢
 have HB : Hid (Below w.heap.size w (w.alloc (.cells #[.int .i64 p.1, .int .i64 p.2] 154))) := (Below.refl _ _).alloc (Nat.le_refl _) _
 have HP : Hid ((w.alloc (.cells #[.int .i64 p.1, .int .i64 p.2] 154)).heap[w.heap.size]? = some (.cells #[.int .i64 p.1, .int .i64 p.2] 154 (0, 0))) := heap_alloc_new _ _
 have HV : Hid (V (w.alloc (.cells #[.int .i64 p.1, .int .i64 p.2] 154)) vh two unit lh) := by
  rcases V1 with h1 | ⟨b, e1, h1⟩
  ·exact Or.inl h1
  ·exact Or.inr ⟨b, e1, h1.congr (HB.out.block b h1.lt)⟩
 have HC : Hid ((w.alloc (.cells #[.int .i64 p.1, .int .i64 p.2] 154)).cell? ⟨g, 4, none⟩ = some vh) := by
  show _ = _
  rw [HB.out.cell (by exact hgl)]
  exact hc
 have hG : Hid (g < (w.alloc (.cells #[.int .i64 p.1, .int .i64 p.2] 154)).heap.size) := Nat.lt_of_lt_of_le hgl HB.out.size
 unfold two
 go_enter Tryz.func163, Tryz.ntmps163
 go_wp2
 generalize World.alloc _ _ = w1 at *
 refine Qt.z9a 9 (by kernel_rfl) (by kernel_rfl) _ _ rfl rfl 194 rfl #[] (by kernel_rfl) _ _ rfl #[] (by kernel_rfl) rfl (by simp) ?_
 simp only [List.take_succ_cons, List.take_zero]
 refine Qt.z0b rfl (.pointer (some ⟨g, 3, none⟩)) (fun _ _ => by kernel_rfl) ?_
 refine Qt.z0b rfl (.pointer (some ⟨g, 3, none⟩)) (fun _ _ => by kernel_rfl) ?_
 refine Qt.z0b rfl (.pointer (some ⟨g, 4, none⟩)) (fun _ _ => by kernel_rfl) ?_
 simp only [zD]
 refine z5f rfl _ _ rfl z6d rfl g 4 vh rfl hG.out HC.out ?_
 simp only [zD]
 refine Qt.z7g rfl _ _ rfl _ rfl _ _ _ _ HP.out Tryz.underlying154 rfl (by kernel_rfl) ?_
 simp only [zD]
 refine q0c rfl _ _ _ rfl k2h z6d y7z rfl HV.out p rfl ?_
 rw [e.out, x2v]
 simp only [zD]
 refine Qt.z0b rfl (.tuple #[.agg #[], .bool r]) (fun _ _ => by kernel_rfl) ?_
 refine Qt.z0b rfl (.agg #[]) (fun _ _ => by kernel_rfl) ?_
 refine Qt.z0b rfl (.bool r) (fun _ _ => by kernel_rfl) ?_
 simp only [zD]
 refine Qt.z1a ⟨fun _ => rfl, fun _ => rfl, ?_⟩
 intro b w2 _ _ hb2
 have HB2 : Hid (Below w.heap.size w w2) := HB.out.trans (hb2.mono HB.out.size)
 clear hb2
 simp only [List.setIfInBounds_toArray, List.set_cons_zero, List.set_cons_succ]
 go_wp2
 go_ret
 exact ⟨rfl, HB2.out⟩
end Gt
end Go.Proofs.YtbojijefenfbgaaGreatDoor
namespace Go.Proofs.YtbojijefenfbgaaGreatDoor
namespace Bk
def St.keys (s : St) : List (Int × Int) := s.l.map It.key
def itm (P : Int × Int → Int × Int) (k : Int × Int) : It := ⟨k.1, k.2, (P k).1, (P k).2, false⟩
theorem y5y {f g : Int} (h : f ≤ g) (x : It) : z5e g (z5e f x) = z5e g x := by
 unfold z5e
 by_cases h1 : x.gone = false ∧ x.epoch < f
 ·rw [if_pos h1, if_neg (by simp), if_pos ⟨h1.1, by omega⟩]
 ·rw [if_neg h1]
structure z7t (P : Int × Int → Int × Int) (ow : Int → Int) (s : St) : Prop where
 inv : Inv s
 item : ∀ x ∈ s.l, x = z5e s.floor (itm P x.key)
 made : ∀ x ∈ s.l, x.adm ≤ ow x.gate
 own : s.own = ow s.number
theorem z7t.eq {P : Int × Int → Int × Int} {ow : Int → Int} {s t : St} (h : z7t P ow s) (k : z7t P ow t) (hf : s.floor = t.floor) (hk : ∀ x, x ∈ s.keys ↔ x ∈ t.keys) : s.l = t.l := by
 refine z6j (R := z1y) (fun a ha => (ha.ne rfl)) (fun h k => h.trans k) h.inv.rises k.inv.rises fun x => ?_
 constructor
 ·intro hx
  obtain ⟨y, hy, e⟩ := List.mem_map.1 ((hk x.key).1 (List.mem_map.2 ⟨x, hx, rfl⟩))
  rw [h.item x hx, hf, ← e, ← k.item y hy]
  exact hy
 ·intro hx
  obtain ⟨y, hy, e⟩ := List.mem_map.1 ((hk x.key).2 (List.mem_map.2 ⟨x, hx, rfl⟩))
  rw [k.item x hx, ← hf, ← e, ← h.item y hy]
  exact hy
theorem z7t.new {P : Int × Int → Int × Int} {ow : Int → Int} {n : Int} {k : List UInt8} (h : 0 ≤ n ∧ n ≤ 15) (ho : ow n = 0) : z7t P ow (St.new n k) :=
 ⟨Inv.new h, fun x hx => by simp [St.new] at hx, fun x hx => by simp [St.new] at hx, ho.symm⟩
structure z5a (P : Int × Int → Int × Int) (ow : Int → Int) (f : Int) (n : List It) : Prop where
 ok : z4l n = true
 item : ∀ x ∈ n, x = z5e f (itm P x.key)
 made : ∀ x ∈ n, x.adm ≤ ow x.gate
def upd {α β : Type} [DecidableEq α] (f : α → β) (a : α) (b : β) : α → β := fun x => if x = a then b else f x
theorem y7u {α β : Type} [DecidableEq α] {f : α → β} {a x : α} {b : β} (h : x ≠ a) : upd f a b x = f x := if_neg h
theorem x9y {α β : Type} [DecidableEq α] {f : α → β} {a : α} {b : β} : upd f a b a = b := if_pos rfl
theorem y8z {P : Int × Int → Int × Int} {n : Int} {o : Int} {p : Int × Int} {x : It} (hx : x.gate = n → x.adm ≤ o) : itm (upd P (n, o + 1) p) x.key = itm P x.key := by
 have : x.key ≠ (n, o + 1) := by
  intro e
  unfold It.key at e
  injection e with e1 e2
  have := hx e1
  omega
 unfold itm
 rw [y7u this]
theorem y4d {ow : Int → Int} {n : Int} {x : It} (hx : x.adm ≤ ow x.gate) : x.adm ≤ upd ow n (ow n + 1) x.gate := by
 unfold upd
 split
 ·rename_i e
  rw [e] at hx
  omega
 ·exact hx
theorem z7t.other {P : Int × Int → Int × Int} {ow : Int → Int} {s : St} (h : z7t P ow s) {n : Int} (hn : s.number ≠ n) (p : Int × Int) : z7t (upd P (n, ow n + 1) p) (upd ow n (ow n + 1)) s :=
 ⟨h.inv, fun x hx => by rw [y8z fun e => by have := h.made x hx; rwa [e] at this]; exact h.item x hx, fun x hx => y4d (h.made x hx), by rw [y7u hn]; exact h.own⟩
theorem z5a.other {P : Int × Int → Int × Int} {ow : Int → Int} {f : Int} {l : List It} (h : z5a P ow f l) (n : Int) (p : Int × Int) : z5a (upd P (n, ow n + 1) p) (upd ow n (ow n + 1)) f l :=
 ⟨h.ok, fun x hx => by rw [y8z fun e => by have := h.made x hx; rwa [e] at this]; exact h.item x hx, fun x hx => y4d (h.made x hx)⟩
theorem z7t.y3i {P : Int × Int → Int × Int} {ow : Int → Int} {s : St} (h : z7t P ow s) {t : List UInt8} (hf : ¬ z0g t < s.floor) (ho : ¬ 1000 ≤ s.own) :
  z7t (upd P (s.number, ow s.number + 1) (z0g t, z0s t)) (upd ow s.number (ow s.number + 1)) { s with own := s.own + 1, l := ins (s.fresh t) s.l } := by
 refine ⟨h.inv.y3i hf ho, fun x hx => ?_, fun x hx => ?_, ?_⟩
 ·rcases z7o.1 hx with rfl | hx
  ·have e : (s.fresh t).key = (s.number, ow s.number + 1) := by rw [← h.own]; rfl
   rw [e]
   unfold itm
   rw [x9y, ← h.own]
   show s.fresh t = z5e s.floor (s.fresh t)
   unfold z5e
   rw [if_neg fun hc => hf hc.2]
  ·rw [y8z fun e => by have := h.made x hx; rwa [e] at this]
   exact h.item x hx
 ·rcases z7o.1 hx with rfl | hx
  ·show s.own + 1 ≤ upd ow s.number (ow s.number + 1) s.number
   rw [x9y, h.own]
   exact Int.le_refl _
  ·exact y4d (h.made x hx)
 ·show s.own + 1 = _
  rw [x9y, h.own]
theorem z7t.raised {P : Int × Int → Int × Int} {ow : Int → Int} {s : St} (h : z7t P ow s) {t : List UInt8} (hf : s.floor ≤ z0g t) : z7t P ow (s.raised t) := by
 refine ⟨h.inv.raised t, fun y hy => ?_, fun y hy => ?_, h.own⟩
 ·obtain ⟨x, hx, rfl⟩ := List.mem_map.1 hy
  rw [z3w]
  conv => lhs; rw [h.item x hx, y5y hf]
  rfl
 ·obtain ⟨x, hx, rfl⟩ := List.mem_map.1 hy
  have e := z3w (z0g t) x
  unfold It.key at e
  injection e with e1 e2
  rw [e1, e2]
  exact h.made x hx
theorem y9i (s : St) (t : List UInt8) : (s.raised t).keys = s.keys := y6a _ _
theorem y9z (s : St) (x : It) (k : Int × Int) : k ∈ (z1b s x).keys ↔ k ∈ s.keys ∨ k = x.key := by
 unfold z1b
 split
 ·rename_i h
  constructor
  ·exact Or.inl
  ·rintro (h1 | rfl)
   ·exact h1
   ·exact h
 ·unfold St.keys
  rw [((z5l _ s.l).map It.key).mem_iff, List.map_cons, List.mem_cons, z3w]
  exact Or.comm
theorem z7t.take {P : Int × Int → Int × Int} {ow : Int → Int} {s : St} (h : z7t P ow s) {x : It} {f : Int} (hf : f ≤ s.floor) (hx : z8e x = true) (hi : x = z5e f (itm P x.key)) (hm : x.adm ≤ ow x.gate) : z7t P ow (z1b s x) := by
 have hI := h.inv.take hx fun e => by rw [h.own, ← e]; exact hm
 have hs := z7q s x
 refine ⟨hI, ?_, ?_, by rw [hs.1, hs.2.2.1]; exact h.own⟩
 ·rw [hs.2.1]
  intro y hy
  unfold z1b at hy
  split at hy
  ·exact h.item y hy
  ·rcases z7o.1 hy with rfl | hy
   ·rw [z3w]
    conv => lhs; rw [hi, y5y hf]
   ·exact h.item y hy
 ·intro y hy
  unfold z1b at hy
  split at hy
  ·exact h.made y hy
  ·rcases z7o.1 hy with rfl | hy
   ·have e := z3w s.floor x
    unfold It.key at e
    injection e with e1 e2
    rw [e1, e2]
    exact hm
   ·exact h.made y hy
theorem z7t.takes {P : Int × Int → Int × Int} {ow : Int → Int} {f : Int} : ∀ {n : List It} {s : St}, z7t P ow s → f ≤ s.floor → (∀ x ∈ n, z8e x = true) → (∀ x ∈ n, x = z5e f (itm P x.key)) → (∀ x ∈ n, x.adm ≤ ow x.gate) → z7t P ow (n.foldl z1b s) ∧ ∀ k, k ∈ (n.foldl z1b s).keys ↔ k ∈ s.keys ∨ k ∈ n.map It.key
 | [], s, h, _, _, _, _ => ⟨h, fun k => by simp⟩
 | x :: r, s, h, hf, h1, h2, h3 => by
  have ht := h.take hf (h1 x (by simp)) (h2 x (by simp)) (h3 x (by simp))
  obtain ⟨i1, i2⟩ := z7t.takes (n := r) ht (by rw [(z7q s x).2.1]; exact hf) (fun y hy => h1 y (List.mem_cons_of_mem x hy)) (fun y hy => h2 y (List.mem_cons_of_mem x hy)) (fun y hy => h3 y (List.mem_cons_of_mem x hy))
  refine ⟨i1, fun k => ?_⟩
  rw [List.foldl_cons, i2 k, y9z, List.map_cons, List.mem_cons, or_assoc]
theorem z7t.z4p {P : Int × Int → Int × Int} {ow : Int → Int} {f : Int} {s : St} {n : List It} (h : z7t P ow s) (hn : z5a P ow f n) : z4p s n = true := by
 unfold Bk.z4p
 rw [hn.ok, Bool.true_and, List.all_eq_true]
 intro x hx
 unfold z3v
 by_cases e : x.gate = s.number
 ·have := hn.made x hx
  rw [e, ← h.own] at this
  simp [e]
  omega
 ·simp [e]
section
variable (R : List UInt8 → List UInt8 → List UInt8 → Bool)
structure Good (k o : List UInt8) : Prop where
 len : o.length = 67
 head : o.head? = some 67
 right : R k (o.take 3) (o.drop 3) = true
theorem y3s {s : St} {o : List UInt8} (h : Good R s.key o) : clo R s o = if z0g o ≤ s.floor then (6, s) else (0, s.raised o) := by
 unfold clo
 rw [if_neg (by rw [h.len, h.head]; simp), if_neg (by rw [h.right]; simp)]
def z4d (s : St) : Prop := s.floor = 0 ∨ (Good R s.key s.order ∧ z0g s.order = s.floor)
variable {R}
theorem z4d.raised {s : St} {o : List UInt8} (h : Good R s.key o) : z4d R (s.raised o) := Or.inr ⟨h, rfl⟩
theorem z4d.takes {s : St} (h : z4d R s) (n : List It) : z4d R (n.foldl z1b s) := by
 have e := z4c n s
 unfold z4d at *
 rw [e.2.1, e.2.2.2.1, e.2.2.2.2]
 exact h
def z1m (s t : St) (most : Nat) : List It := z7f s.l (z5w t.keys) most
def z1j (s t : St) : List UInt8 := if t.floor < s.floor then s.order else []
theorem Inv.q2q {s : St} (h : Inv s) : s.keys.Pairwise Lt2 := List.pairwise_map.2 h.rises
theorem Inv.x1e {s : St} (h : Inv s) : ∀ k ∈ s.keys, (0 ≤ k.1 ∧ k.1 ≤ 15) ∧ 1 ≤ k.2 ∧ k.2 ≤ 1000 := by
 intro k hk
 obtain ⟨x, hx, rfl⟩ := List.mem_map.1 hk
 exact ⟨(h.fair x hx).gate, (h.fair x hx).adm⟩
theorem Inv.z8t {s : St} (h : Inv s) : z8t s.floor (z5w s.keys) = true := by
 unfold Bk.z8t
 rw [(q7w h.q2q h.x1e).1, Bool.and_true, decide_eq_true_eq]
 exact h.floor
theorem z8x (s t : St) (most : Nat) : (z1m s t most).Sublist s.l := (List.take_sublist _ _).trans List.filter_sublist
theorem x7v {s : St} {x : It} (f : Fair s x) : z8e x = true := by
 unfold z8e
 have := f.gate; have := f.adm; have := f.epoch; have := f.serial
 have h5 : (x.gone && decide (x.epoch ≠ 0 ∨ x.serial ≠ 0)) = false := by
  cases hg : x.gone
  ·rfl
  ·have := f.gone hg
   simp
   omega
 rw [h5]
 simp [*]
theorem z7t.news {P : Int × Int → Int × Int} {ow : Int → Int} {s : St} (h : z7t P ow s) (t : St) (most : Nat) : z5a P ow s.floor (z1m s t most) := by
 have hs := z8x s t most
 refine ⟨?_, fun x hx => h.item x (hs.subset hx), fun x hx => h.made x (hs.subset hx)⟩
 unfold z4l
 rw [Bool.and_eq_true, List.all_eq_true, decide_eq_true_eq]
 exact ⟨fun x hx => x7v (h.inv.fair x (hs.subset hx)), h.inv.rises.sublist hs⟩
theorem z5a.q9z {P : Int × Int → Int × Int} {ow : Int → Int} {f : Int} {n : List It} (h : z5a P ow f n) : ∀ x ∈ n, z8e x = true := by
 have := h.ok
 unfold z4l at this
 simp only [Bool.and_eq_true, List.all_eq_true] at this
 exact this.1
theorem meets {P : Int × Int → Int × Int} {ow : Int → Int} {s t : St} (hs : z7t P ow s) (ht : z7t P ow t) (bs : z4d R s) (bt : z4d R t) (hk : s.key = t.key) (most : Nat) :
  (z7d R t (z1j s t) (z1m s t most)).1 = 0 ∧ z7t P ow (z7d R t (z1j s t) (z1m s t most)).2 ∧ z4d R (z7d R t (z1j s t) (z1m s t most)).2 ∧
  (z7d R t (z1j s t) (z1m s t most)).2.floor = max s.floor t.floor ∧ (z7d R t (z1j s t) (z1m s t most)).2.key = t.key ∧ (z7d R t (z1j s t) (z1m s t most)).2.number = t.number ∧ (z7d R t (z1j s t) (z1m s t most)).2.own = t.own ∧
  ∀ k, k ∈ (z7d R t (z1j s t) (z1m s t most)).2.keys ↔ k ∈ t.keys ∨ k ∈ (z1m s t most).map It.key := by
 have hn := hs.news t most
 unfold z7d
 rw [if_neg (by rw [ht.z4p hn]; simp)]
 generalize z1m s t most = n at *
 unfold z1j
 by_cases hf : t.floor < s.floor
 ·rw [if_pos hf]
  have hb : Good R t.key s.order ∧ z0g s.order = s.floor := by
   rcases bs with h | h
   ·have := ht.inv.floor; omega
   ·rw [← hk]; exact h
  have hne : s.order ≠ [] := by
   intro e
   have := hb.1.len
   rw [e] at this
   cases this
  have hc : clo R t s.order = (0, t.raised s.order) := by rw [y3s R hb.1, if_neg (by rw [hb.2]; omega)]
  rw [if_neg hne, hc, if_neg (by simp)]
  have hr := ht.raised (t := s.order) (by rw [hb.2]; omega)
  have hfl : (t.raised s.order).floor = s.floor := hb.2
  obtain ⟨i1, i2⟩ := hr.takes (n := n) (f := s.floor) (by omega) hn.q9z hn.item hn.made
  have e := z4c n (t.raised s.order)
  refine ⟨rfl, i1, (z4d.raised hb.1).takes n, ?_, e.2.2.2.1, e.1, e.2.2.1, fun k => ?_⟩
  ·show (n.foldl z1b _).floor = _
   rw [e.2.1, hfl]
   omega
  ·show k ∈ (n.foldl z1b _).keys ↔ _
   rw [i2 k, y9i]
 ·rw [if_neg hf, if_pos rfl]
  obtain ⟨i1, i2⟩ := ht.takes (n := n) (f := s.floor) (by omega) hn.q9z hn.item hn.made
  have e := z4c n t
  refine ⟨rfl, i1, bt.takes n, ?_, e.2.2.2.1, e.1, e.2.2.1, i2⟩
  show (n.foldl z1b _).floor = _
  rw [e.2.1]
  omega
end
end Bk
end Go.Proofs.YtbojijefenfbgaaGreatDoor

/- A region that draws its order, with one operation that may come up at any time (the making of a new variable), n operations ahead of it that leave what was there and yield one value each, and a row of others behind all of them: one walk of the text's order serves every order. The steps of a walk in the text's order, and the regions that they serve. Drawn regions whose operations bear guards. Words of 64 bits as Go's uint64 values: each operation of the model on them is the operation on BitVec 64. math/bits' Add64, Sub64 (the model's own entries) and Mul64 (its Go text), over words of 64 bits. -/
import Derived.Test.YtbojijefenfbgaaGreatDoorGgOwn
import Derived.WalkKit
import Derived.Test.YtbojijefenfbgaaGreatDoorProg
import Derived.WalkSpells
import Derived.WalkLawsBesides
import Derived.Laws.Externs
import Derived.Laws.MathBits
import Derived.Shelf.Spec.BitsCarry
import Derived.Shelf.Bits.Mul64
import Derived.KernelRfl
namespace Go.Proofs.YtbojijefenfbgaaGreatDoor
open Go Go.RowKit
namespace Qt
def Upon (P : Program) (w : World) (v : Value) : Result Next → Prop
 | .ok (.value u) w1 => w1 = w ∧ u = v
 | .ok (.enter f args) w1 => w1 = w ∧ Calls P f args w (fun e w'' => e = .returned v ∧ Below w.heap.size w w'')
 | _ => False
def Yb (P : Program) (W : World) (o : Oper) (v : Value) (a : Act) : Prop := o.guard = none ∧ ∀ w, Below W.heap.size W w → Upon P w v ((execOp a.eval o).run P w)
theorem Yb.same {P : Program} {W : World} {o : Oper} {v : Value} {a a' : Act} (h : Yb P W o v a) (he : execOp a'.eval o = execOp a.eval o) : Yb P W o v a' := ⟨h.1, fun w hw => by rw [he]; exact h.2 w hw⟩
theorem Yb.wp {P : Program} {W w : World} {o : Oper} {v : Value} {a : Act} {Q : Exit → Act → World → Prop} {K : Act → World → Prop} (h : Yb P W o v a) (hw : Below W.heap.size W w) (hK : ∀ w', Below w.heap.size w w' → K (a.put o.dst v) w') : o.wp P a w K Q := by
 have h1 := h.2 w hw
 unfold Oper.wp
 generalize (execOp a.eval o).run P w = r at h1
 cases r with
 | halt x w' => cases h1
 | ok x w' =>
  cases x with
  | value u =>
   obtain ⟨e1, e2⟩ := h1
   subst e1 e2
   exact hK _ (Below.refl _ _)
  | enter f args =>
   obtain ⟨e1, hc⟩ := h1
   subst e1
   exact hc.mono fun e w'' ⟨he, hb⟩ => by subst he; exact hK _ hb
  | _ => cases h1
section
variable {P : Program} {ops : Array Oper} {n : Nat} {W : World}
def Still (P : Program) (ops : Array Oper) (n : Nat) (W : World) (K : Array Bool → Act → Prop) : Nat → Array Bool → Act → Prop
 | 0, listed, a => (∀ j, j < n → listed.getD j false = true) ∧ K listed a
 | f + 1, listed, a => (∃ i, i ∈ Region.ready .any ops listed ∧ i < n) ∧ ∀ i ∈ Region.ready .any ops listed, i < n → ∃ oi v, ops[i]? = some oi ∧ Yb P W oi v a ∧ Still P ops n W K f (listed.setIfInBounds i true) (a.put oi.dst v)
theorem Still.first {K : Array Bool → Act → Prop} (hsel : ∀ (j : Nat) (o : Oper) cs b, ops[j]? = some o → o.op ≠ .select cs b) {i : Nat} {oi : Oper} {v : Value} (hoi : ops[i]? = some oi) (hin : i < n) (f : Nat) :
  ∀ listed a, (∀ j oj, ops[j]? = some oj → j ≠ i → listed.getD j true = false → (∀ e ∈ oj.after, Region.binds .any e = true → e.on ≠ i) → oi.apart ops oj = true) →
   i ∈ Region.ready .any ops listed → Yb P W oi v a → Still P ops n W K f (listed.setIfInBounds i true) (a.put oi.dst v) → Still P ops n W K (f + 1) listed a := by
 induction f with
 | zero =>
  intro listed a _ hr hy H
  refine ⟨⟨i, hr, hin⟩, fun j hj hjn => ?_⟩
  by_cases e : j = i
  ·subst e; exact ⟨oi, v, hoi, hy, H⟩
  ·have h1 := H.1 j hjn
   rw [getD_set_ne false (Ne.symm e), getD_both (mem_ready.1 hj).1] at h1
   cases h1
 | succ f ih =>
  intro listed a hap hr hy H
  refine ⟨⟨i, hr, hin⟩, fun j hj hjn => ?_⟩
  by_cases e : j = i
  ·subst e; exact ⟨oi, v, hoi, hy, H⟩
  ·obtain ⟨hun, oj, hoj, hall⟩ := mem_ready.1 hj
   have hno : ∀ e ∈ oj.after, Region.binds .any e = true → e.on ≠ i := fun e he hb heq => by
    have h1 := hall e he hb
    rw [heq, getD_both (mem_ready.1 hr).1] at h1
    cases h1
   obtain ⟨h1, h2, h3⟩ := Oper.apart_spec (hap j oj hoj e hun hno)
   obtain ⟨oj', u, hoj', hyj, hS⟩ := H.2 j (ready_mono hj e) hjn
   obtain rfl : oj' = oj := Option.some.inj (hoj'.symm.trans hoj)
   refine ⟨oj', u, hoj, hyj.same (execOp_put oj' (fun cs b => hsel j oj' cs b hoj) a oi.dst v h1).symm, ?_⟩
   refine ih _ _ (fun k ok hk hki hku hkn => hap k ok hk hki ?_ hkn) (ready_mono hr (Ne.symm e)) (hy.same (execOp_put oi (fun cs b => hsel i oi cs b hoi) a oj'.dst u h3)) ?_
   ·by_cases hjk : j = k
    ·rw [← hjk]; exact hun
    ·rwa [getD_set_ne true hjk] at hku
   ·rw [Array.setIfInBounds_comm _ _ e, ← Act.put_comm a v u h2]
    exact hS
def Lex (P : Program) (W : World) (K : Act → Prop) : List Oper → Act → Prop
 | [], a => K a
 | o :: l, a => ∃ v, Yb P W o v a ∧ Lex P W K l (a.put o.dst v)
def lexF (ops : Array Oper) (B : Array Bool → Bool) : Nat → Nat → Array Bool → Bool
 | 0, _, listed => B listed
 | f + 1, k, listed => (Region.ready .any ops listed).contains k && Region.free .any ops listed k && lexF ops B f (k + 1) (listed.setIfInBounds k true)
theorem Still.lex {K : Act → Prop} {B : Array Bool → Bool} (hsel : Region.noSelect ops = true) (l : List Oper) : ∀ (k : Nat) (listed : Array Bool) (a : Act), (∀ j, j < l.length → l[j]? = ops[k + j]?) → k + l.length = n → n ≤ listed.size → (∀ j, j < k → listed.getD j false = true) →
  lexF ops B l.length k listed = true → Lex P W K l a → Still P ops n W (fun listed' a' => B listed' = true ∧ K a') l.length listed a := by
 induction l with
 | nil =>
  intro k listed a _ hk _ hall hB h
  have e : k = n := by simpa using hk
  subst e
  exact ⟨hall, hB, h⟩
 | cons o l ih =>
  intro k listed a hl hk hsz hall hB h
  have ho : ops[k]? = some o := by simpa using (hl 0 (by simp)).symm
  simp only [List.length_cons, lexF, Bool.and_eq_true] at hB hk
  obtain ⟨v, hy, hK⟩ := h
  refine Still.first (Region.noSelect_spec hsel) ho (by omega) l.length listed a (Region.free_spec ho hB.1.2) (by simpa using hB.1.1) hy ?_
  refine ih (k + 1) _ _ (fun j hj => by have := hl (j + 1) (by simp; omega); simpa [Nat.add_assoc, Nat.add_comm 1 j] using this) (by omega) (by simpa using hsz) (fun j hj => ?_) hB.2 hK
  by_cases e : k = j
  ·subst e
   simp [Array.getD_eq_getD_getElem?, show k < listed.size by omega]
  ·rw [getD_set_ne false e]
   exact hall j (by omega)
theorem ready_without {listed : Array Bool} (hw : (List.range n).all (fun i => !Region.waitsFor .any ops i n) = true) {i : Nat} (hi : i ∈ Region.ready .any ops (listed.setIfInBounds n true)) (hin : i < n) : i ∈ Region.ready .any ops listed := by
 rw [mem_ready] at *
 obtain ⟨h0, o, ho, hall⟩ := hi
 have h1 := List.all_eq_true.1 hw i (List.mem_range.2 hin)
 refine ⟨by rwa [getD_set_ne true (by omega)] at h0, o, ho, fun e he hb => ?_⟩
 have h2 := hall e he hb
 have hne : n ≠ e.on := fun h => by
  have : Region.waitsFor .any ops i n = true := by
   unfold Region.waitsFor
   simp only [ho]
   exact Array.any_eq_true'.2 ⟨e, he, by simp [hb, h]⟩
  rw [this] at h1
  cases h1
 rwa [getD_set_ne false hne] at h2
theorem Still.shift {K : Array Bool → Act → Prop} (hsel : Region.noSelect ops = true) (hw : (List.range n).all (fun i => !Region.waitsFor .any ops i n) = true) {on : Oper} (_hon : ops[n]? = some on) (hap : (List.range n).all (fun i => match ops[i]? with | some oi => oi.apart ops on | none => true) = true) (u : Value) (f : Nat) :
  ∀ listed a, n < listed.size → Still P ops n W K f listed a → Still P ops n W (fun listed' a' => ∃ l0 a0, K l0 a0 ∧ listed' = l0.setIfInBounds n true ∧ a' = a0.put on.dst u) f (listed.setIfInBounds n true) (a.put on.dst u) := by
 induction f with
 | zero =>
  intro listed a hn H
  exact ⟨fun j hj => by rw [getD_set_ne false (by omega)]; exact H.1 j hj, listed, a, H.2, rfl, rfl⟩
 | succ f ih =>
  intro listed a hn H
  obtain ⟨⟨i0, hi0, hi0n⟩, H2⟩ := H
  refine ⟨⟨i0, ready_mono hi0 (by omega), hi0n⟩, fun i hi hin => ?_⟩
  obtain ⟨oi, v, hoi, hy, hS⟩ := H2 i (ready_without hw hi hin) hin
  have h1 := List.all_eq_true.1 hap i (List.mem_range.2 hin)
  simp only [hoi] at h1
  obtain ⟨a1, a2, a3⟩ := Oper.apart_spec h1
  refine ⟨oi, v, hoi, hy.same (execOp_put oi (fun cs b => Region.noSelect_spec hsel i oi cs b hoi) a on.dst u a3), ?_⟩
  have := ih (listed.setIfInBounds i true) (a.put oi.dst v) (by simpa using hn) hS
  rw [Array.setIfInBounds_comm _ _ (by omega : i ≠ n)] at this
  rwa [Act.put_comm a v u a2] at this
theorem ready_lt {listed : Array Bool} {m i j : Nat} (hs : Region.sinkB .any ops m = true) (hc : Region.chainB .any ops m = true) (hn : m < ops.size) (inv : HeadInv .any ops m listed) (hun : listed.getD i true = false) (him : i < m) (hj : j ∈ Region.ready .any ops listed) : j < m := by
 rcases Nat.lt_or_ge j m with h | h
 ·exact h
 ·exact absurd hj (tail_waits hs hc hn inv _ i rfl him hun j h)
theorem Still.end2 {K : Array Bool → Act → Prop} {R : World → Prop} {Q : Exit → Act → World → Prop} {g : Nat} (_hg : ∀ (i : Nat) (o : Oper), ops[i]? = some o → o.guard = none) (hs : Region.sinkB .any ops (n + 1) = true) (hc : Region.chainB .any ops (n + 1) = true) (hn : n + 1 < ops.size)
  (hR : ∀ w w', R w → Below w.heap.size w w' → R w') (hK : ∀ listed a, K listed a → ∀ w, Below W.heap.size W w → R w → wpAny P .any ops Q g listed a w) (f : Nat) :
  ∀ listed a, HeadInv .any ops (n + 1) listed → listed.getD n false = true → Still P ops n W K f listed a → ∀ w, Below W.heap.size W w → R w → wpAny P .any ops Q (g + f) listed a w := by
 induction f with
 | zero => intro listed a _ _ H w hw hr; exact hK _ _ H.2 w hw hr
 | succ f ih =>
  intro listed a inv hln H w hw hr
  obtain ⟨⟨i0, hi0, hi0n⟩, H2⟩ := H
  refine ⟨fun h0 => (by rw [h0] at hi0; cases hi0), fun i hi => ?_⟩
  have hi1 := ready_lt hs hc hn inv (mem_ready.1 hi0).1 (by omega) hi
  have hin : i < n := by
   rcases Nat.lt_or_ge i n with h | h
   ·exact h
   ·obtain rfl : i = n := by omega
    have := getD_both (mem_ready.1 hi).1
    rw [hln] at this; cases this
  obtain ⟨oi, v, hoi, hy, hS⟩ := H2 i hi hin
  unfold wpOp
  simp only [hoi]
  rw [if_pos (by simp [Region.wanted, hy.1])]
  refine .inl (hy.wp hw fun w' hb => ?_)
  exact ih _ _ (inv.set hi hi1) (by rw [getD_set_ne false (by omega)]; exact hln) hS w' (hw.trans (hb.mono hw.size)) (hR w w' hr hb)
theorem Still.end1 {K : Array Bool → Act → Prop} {R : Value → World → Prop} {Q : Exit → Act → World → Prop} {g : Nat} (hsel : Region.noSelect ops = true) (hg : ∀ (i : Nat) (o : Oper), ops[i]? = some o → o.guard = none) (hs : Region.sinkB .any ops (n + 1) = true) (hc : Region.chainB .any ops (n + 1) = true) (hn : n + 1 < ops.size)
  (hwt : (List.range n).all (fun i => !Region.waitsFor .any ops i n) = true) {on : Oper} (hon : ops[n]? = some on) (hap : (List.range n).all (fun i => match ops[i]? with | some oi => oi.apart ops on | none => true) = true) (hfree : on.after = #[])
  (hR : ∀ u w w', R u w → Below w.heap.size w w' → R u w')
  (hfl : ∀ a w Kn, Below W.heap.size W w → (∀ u w', R u w' → Below W.heap.size W w' → Kn (a.put on.dst u) w') → on.wp P a w Kn Q)
  (hK : ∀ u l0 a0, K l0 a0 → ∀ w, Below W.heap.size W w → R u w → wpAny P .any ops Q g (l0.setIfInBounds n true) (a0.put on.dst u) w) (f : Nat) :
  ∀ listed a, HeadInv .any ops (n + 1) listed → listed.getD n true = false → Still P ops n W K f listed a → ∀ w, Below W.heap.size W w → wpAny P .any ops Q (g + f + 1) listed a w := by
 have hnr : ∀ listed : Array Bool, listed.getD n true = false → n ∈ Region.ready .any ops listed := fun listed h => mem_ready.2 ⟨h, on, hon, fun e he => by rw [hfree] at he; simp at he⟩
 have hfloat : ∀ f listed a, HeadInv .any ops (n + 1) listed → listed.getD n true = false → Still P ops n W K f listed a → ∀ w, Below W.heap.size W w → wpOp P ops Q n (wpAny P .any ops Q (g + f) (listed.setIfInBounds n true)) a w := by
  intro f listed a inv hln H w hw
  unfold wpOp
  simp only [hon]
  rw [if_pos (by simp [Region.wanted, hg n on hon])]
  refine .inl (hfl a w _ hw fun u w' hr hb => ?_)
  have hsz : n < listed.size := by
   rcases Nat.lt_or_ge n listed.size with h | h
   ·exact h
   ·simp [Array.getD_eq_getD_getElem?, Array.getElem?_eq_none h] at hln
  have hS := Still.shift (P := P) (W := W) hsel hwt hon hap u f listed a hsz H
  have hset : (listed.setIfInBounds n true).getD n false = true := by simp [Array.getD_eq_getD_getElem?, hsz]
  have hend : ∀ listed' a', (∃ l0 a0, K l0 a0 ∧ listed' = l0.setIfInBounds n true ∧ a' = a0.put on.dst u) → ∀ w, Below W.heap.size W w → R u w → wpAny P .any ops Q g listed' a' w := by
   rintro listed' a' ⟨l0, a0, hk, e1, e2⟩ w1 hw1 hr1
   rw [e1, e2]
   exact hK u l0 a0 hk w1 hw1 hr1
  exact Still.end2 (R := R u) hg hs hc hn (hR u) hend f _ _ (inv.set (hnr listed hln) (by omega)) hset hS w' hb hr
 induction f with
 | zero =>
  intro listed a inv hln H w hw
  refine ⟨fun h0 => (by have := hnr listed hln; rw [h0] at this; cases this), fun i hi => ?_⟩
  have hi1 := ready_lt hs hc hn inv hln (by omega) hi
  have hin : i = n := by
   rcases Nat.lt_or_ge i n with h | h
   ·have h1 := H.1 i h
    rw [getD_both (mem_ready.1 hi).1] at h1; cases h1
   ·omega
  rw [hin]
  exact hfloat 0 listed a inv hln H w hw
 | succ f ih =>
  intro listed a inv hln H w hw
  refine ⟨fun h0 => (by have := hnr listed hln; rw [h0] at this; cases this), fun i hi => ?_⟩
  have hi1 := ready_lt hs hc hn inv hln (by omega) hi
  by_cases e : i = n
  ·rw [e]; exact hfloat (f + 1) listed a inv hln H w hw
  ·have hin : i < n := by omega
   obtain ⟨oi, v, hoi, hy, hS⟩ := H.2 i hi hin
   unfold wpOp
   simp only [hoi]
   rw [if_pos (by simp [Region.wanted, hy.1])]
   refine .inl (hy.wp hw fun w' hb => ?_)
   exact ih _ _ (inv.set hi hi1) (by rw [getD_set_ne true e]; exact hln) hS w' (hw.trans (hb.mono hw.size))
end
def floatB (ops : Array Oper) (n : Nat) : Bool :=
 Region.noSelect ops && decide (n + 1 < ops.size) && ops.all (fun o => o.guard.isNone) && Region.sinkB .any ops (n + 1) && Region.chainB .any ops (n + 1) && (List.range n).all (fun i => !Region.waitsFor .any ops i n) &&
 (List.range n).all (fun i => match ops[i]?, ops[n]? with | some oi, some on => oi.apart ops on | _, _ => true) && (match ops[n]? with | some on => on.after.isEmpty | none => false) &&
 lexF ops (fun listed => Region.seqB .any ops (ops.size - (n + 1)) (n + 1) (listed.setIfInBounds n true)) n 0 (Array.replicate ops.size false)
theorem wp_region_float {P : Program} {id : Nat} {Q : Exit → Act → World → Prop} {a : Act} {w : World} {l : List Oper} {R : Value → World → Prop} (n : Nat) (hm : P.follows .mixedOrders = true) (hB : floatB l.toArray n = true) (on : Oper) (hon : l[n]? = some on)
  (hR : ∀ u w w', R u w → Below w.heap.size w w' → R u w')
  (hfl : ∀ a w1 Kn, Below w.heap.size w w1 → (∀ u w', R u w' → Below w.heap.size w w' → Kn (a.put on.dst u) w') → on.wp P a w1 Kn Q)
  (h : Lex P w (fun a' => ∀ u w', Below w.heap.size w w' → R u w' → wpList P l.toArray Q (l.drop (n + 1)) (a'.put on.dst u) w') (l.take n) a) : (Code.region id l.toArray true).wp P Q a w := by
 simp only [floatB, Bool.and_eq_true, decide_eq_true_eq] at hB
 obtain ⟨⟨⟨⟨⟨⟨⟨⟨hsel, hn⟩, hgd⟩, hs⟩, hc⟩, hwt⟩, hap⟩, hfr⟩, hlex⟩ := hB
 have hon' : l.toArray[n]? = some on := by simpa using hon
 have hn' : n + 1 < l.length := by simpa using hn
 have htl : (l.take n).length = n := by simp; omega
 have hdl : (l.drop (n + 1)).length = l.toArray.size - (n + 1) := by simp
 have inv0 : HeadInv .any l.toArray (n + 1) (Array.replicate l.toArray.size false) :=
  ⟨by simp, fun j oj _ hl => (by rw [getD_replicate_false] at hl; cases hl), fun t _ ht => getD_in (by simpa using ht) (getD_replicate_false _ _)⟩
 have hguard : ∀ (i : Nat) (o : Oper), l.toArray[i]? = some o → o.guard = none := fun i o ho => by
  have h1 := Array.all_eq_true_iff_forall_mem.1 hgd o (Array.mem_of_getElem? ho)
  simpa using h1
 have hS := Still.lex (P := P) (W := w) (n := n) hsel (l.take n) 0 (Array.replicate l.toArray.size false) a (fun j hj => by rw [htl] at hj; simp [hj]) (by rw [htl]; simp) (by simp; omega) (fun j hj => absurd hj (by omega)) (by rw [htl]; exact hlex) h
 rw [htl] at hS
 simp only [hon'] at hap hfr
 refine wp_region_any hm ?_
 have hK : ∀ (u : Value) (l0 : Array Bool) (a0 : Act), ((fun listed : Array Bool => Region.seqB .any l.toArray (l.toArray.size - (n + 1)) (n + 1) (listed.setIfInBounds n true)) l0 = true ∧ ∀ u w', Below w.heap.size w w' → R u w' → wpList P l.toArray Q (l.drop (n + 1)) (a0.put on.dst u) w') →
   ∀ w1, Below w.heap.size w w1 → R u w1 → wpAny P .any l.toArray Q (l.toArray.size - (n + 1)) (l0.setIfInBounds n true) (a0.put on.dst u) w1 := fun u l0 a0 hk w1 hw1 hr1 => by
  have := wpAny_of_seq (md := .any) (Q' := Q) (l.drop (n + 1)) (n + 1) (l0.setIfInBounds n true) (a0.put on.dst u) w1 (fun j => by simp [List.getElem?_drop]) (by rw [hdl]; exact hk.1) (hk.2 u w1 hw1 hr1)
  rwa [hdl] at this
 have := Still.end1 (P := P) (W := w) (R := R) (Q := Q) (g := l.toArray.size - (n + 1)) hsel hguard hs hc hn hwt hon' (by
  rw [List.all_eq_true] at hap ⊢
  intro i hi
  have := hap i hi
  cases hoi : l.toArray[i]? with
  | none => rfl
  | some oi => rw [hoi] at this; exact this) (by simpa using hfr) hR hfl hK n _ a inv0 (getD_in (by simp; omega) (getD_replicate_false _ _)) hS { w with drawn := w.drawn + 1 } ⟨rfl, rfl, rfl, Nat.le_refl _, fun _ _ => rfl⟩
 rwa [show l.toArray.size - (n + 1) + n + 1 = l.toArray.size by omega] at this
end Qt
end Go.Proofs.YtbojijefenfbgaaGreatDoor
namespace Go.Proofs.YtbojijefenfbgaaGreatDoor
open Go Go.RowKit
namespace Qt
section
variable {P : Program} {W : World} {K : Act → Prop} {l : List Oper} {o : Oper} {a : Act}
theorem y_nil (h : K a) : Lex P W K [] a := h
theorem y_val (hg : o.guard = none) (v : Value) (hv : ∀ w', Below W.heap.size W w' → (execOp a.eval o).run P w' = .ok (.value v) w') (h : Lex P W K l (a.put o.dst v)) : Lex P W K (o :: l) a :=
 ⟨v, ⟨hg, fun w' hw' => by rw [hv w' hw']; exact ⟨rfl, rfl⟩⟩, h⟩
theorem y_call (hg : o.guard = none) (f : FuncId) (args : Array Value) (v : Value) (hv : ∀ w', (execOp a.eval o).run P w' = .ok (.enter f args) w') (hc : ∀ w', Below W.heap.size W w' → Calls P f args w' fun e w'' => e = .returned v ∧ Below w'.heap.size w' w'')
  (h : Lex P W K l (a.put o.dst v)) : Lex P W K (o :: l) a :=
 ⟨v, ⟨hg, fun w' hw' => by rw [hv w']; exact ⟨rfl, hc w' hw'⟩⟩, h⟩
theorem y_row (hg : o.guard = none) (ty : TypeId) (x : Operand) (ho : o.op = .load ty x) (g : Nat) (hx : a.eval x = .pointer (some ⟨g, 0, none⟩)) (t : TypeId) (cs : Array Value) (fr : Nat × Nat) (d : TypeDesc) (hb : W.heap[g]? = some (.cells cs t fr))
  (hu : P.underlying ty = some d) (hd : (match d with | .struct _ | .array _ _ => true | _ => false) = true) (hi : (P.info? ty).map (·.size) = some cs.size)
  (h : Lex P W K l (a.put o.dst (.agg cs))) : Lex P W K (o :: l) a := by
 refine y_val hg (.agg cs) (fun w' hw' => ?_) h
 have hlt : g < W.heap.size := (Array.getElem?_eq_some_iff.1 hb).1
 unfold execOp
 simp only [ho, hx, Instr.loadAt, Instr.sureAddr, Sem.run_bind, Sem.run_pure, Result.andThen_ok, run_loadVar_row w' g t ty cs fr d ((hw'.block g hlt).trans hb) hu hd hi]
theorem y_mid (hg : o.guard = none) (ty : TypeId) (x : Operand) (ho : o.op = .load ty x) (b off : Nat) (hx : a.eval x = .pointer (some ⟨b, off, none⟩)) (cs : List Value) (d : TypeDesc) (hb : b < W.heap.size) (hc : W.rangeAt b off cs)
  (hu : P.underlying ty = some d) (hd : d.isRow = true) (hi : (P.info? ty).map (·.size) = some cs.length)
  (h : Lex P W K l (a.put o.dst (.agg cs.toArray))) : Lex P W K (o :: l) a := by
 refine y_val hg (.agg cs.toArray) (fun w' hw' => ?_) h
 unfold execOp
 simp only [ho, hx, Instr.loadAt, Instr.sureAddr, Sem.run_bind, Sem.run_pure, Result.andThen_ok, run_loadVar_mid w' b off ty cs d (fun j v hj => by rw [hw'.cell (by exact hb)]; exact hc j v hj) hu hd hi]
theorem Lex.quiet {ops : Array Oper} (h : Lex P W K l a) : wpQuiet P ops (BW W) K l a := by
 induction l generalizing a with
 | nil => exact h
 | cons o l ih =>
  obtain ⟨v, hy, hl⟩ := h
  unfold wpQuiet
  rw [if_pos (by simp [Region.wanted, hy.1])]
  refine ⟨v, fun w' hw' => ?_, ih hl⟩
  have h0 : Below W.heap.size W w' := hw'
  have h1 := hy.2 w' h0
  unfold Oper.quietAt
  generalize (execOp a.eval o).run P w' = r at h1 ⊢
  cases r with
  | halt x w1 => cases h1
  | ok x w1 =>
   cases x with
   | value u => exact h1
   | enter f args => exact ⟨h1.1, h1.2.mono fun e w'' ⟨he, hb⟩ => ⟨he, h0.trans (hb.mono h0.size)⟩⟩
   | _ => cases h1
end
theorem wp_tail {P : Program} {id : Nat} {Q : Exit → Act → World → Prop} {a : Act} {w : World} {l : List Oper} (n : Nat) (hm : P.follows .mixedOrders = true) (hB : Region.lexTailB .any l.toArray n = true)
  (h : Lex P w (fun a' => ∀ w', Below w.heap.size w w' → wpList P l.toArray Q (l.drop n) a' w') (l.take n) a) : (Code.region id l.toArray true).wp P Q a w := wp_region_below_tail n hm hB h.quiet
theorem wp_all {P : Program} {id : Nat} {Q : Exit → Act → World → Prop} {a : Act} {w : World} {l : List Oper} (hm : P.follows .mixedOrders = true) (hB : Region.lexB .any l.toArray = true)
  (h : Lex P w (fun a' => ∀ w', Below w.heap.size w w' → Q .normal a' w') l a) : (Code.region id l.toArray true).wp P Q a w := wp_region_below hm hB h.quiet
theorem wp_head {P : Program} {ops : Array Oper} {Q : Exit → Act → World → Prop} {r : List Oper} (l : List Oper) : ∀ (a : Act) (w w0 : World), Below w0.heap.size w0 w → Lex P w0 (fun a' => ∀ w', Below w0.heap.size w0 w' → wpList P ops Q r a' w') l a → wpList P ops Q (l ++ r) a w := by
 induction l with
 | nil => intro a w w0 hw h; exact h w hw
 | cons o l ih =>
  intro a w w0 hw h
  obtain ⟨v, hy, hl⟩ := h
  refine wpList_plain hy.1 fun K' hK' => ?_
  refine hy.wp hw fun w' hb => hK' _ _ ?_
  exact ih _ w' w0 (hw.trans (hb.mono hw.size)) hl
theorem wp_plain {P : Program} {id : Nat} {Q : Exit → Act → World → Prop} {a : Act} {w : World} {l : List Oper} (n : Nat) (h : Lex P w (fun a' => ∀ w', Below w.heap.size w w' → wpList P l.toArray Q (l.drop n) a' w') (l.take n) a) : (Code.region id l.toArray false).wp P Q a w := by
 refine wp_region_list ?_
 have := wp_head (ops := l.toArray) (Q := Q) (r := l.drop n) (l.take n) a w w (Below.refl _ _) h
 rwa [List.take_append_drop] at this
theorem wp_let {P : Program} {id : Nat} {Q : Exit → Act → World → Prop} {a : Act} {w : World} {l : List Oper} (n : Nat) (hm : P.follows .mixedOrders = true) (hB : floatB l.toArray n = true) (on : Oper) (hon : l[n]? = some on) (T : TypeId) (hop : on.op = .alloc T) (zs : Array Value) (hz : (P.info? T).map (fun i => i.zero) = some (some (.agg zs)))
  (h : Lex P w (fun a' => ∀ b w', Below w.heap.size w w' → w.heap.size ≤ b → w'.heap[b]? = some (.cells zs T (0, 0)) → wpList P l.toArray Q (l.drop (n + 1)) (a'.put on.dst (.pointer (some ⟨b, 0, none⟩))) w') (l.take n) a) : (Code.region id l.toArray true).wp P Q a w := by
 refine wp_region_float (R := fun u w' => ∃ b, u = .pointer (some ⟨b, 0, none⟩) ∧ w.heap.size ≤ b ∧ w'.heap[b]? = some (.cells zs T (0, 0))) n hm hB on hon ?_ ?_ ?_
 ·rintro u w1 w2 ⟨b, e, hb, hr⟩ h12
  exact ⟨b, e, hb, (h12.block b (Array.getElem?_eq_some_iff.1 hr).1).trans hr⟩
 ·intro a' w1 Kn hw1 hK
  obtain ⟨i, hi, hzi⟩ := Option.map_eq_some_iff.1 hz
  unfold Oper.wp
  simp [execOp, hop, Instr.alloc, zeroValue, typeInfo, hi, hzi, newVar, newRow, Value.cells, Result.andThen]
  exact hK _ _ ⟨w1.heap.size, rfl, hw1.size, heap_alloc_new _ _⟩ (hw1.alloc hw1.size _)
 ·have hmono : ∀ (l' : List Oper) (a : Act) (K K' : Act → Prop), (∀ a, K a → K' a) → Lex P w K l' a → Lex P w K' l' a := by
   intro l'
   induction l' with
   | nil => intro a K K' hk h; exact hk _ h
   | cons o l' ih => intro a K K' hk ⟨v, hy, hl⟩; exact ⟨v, hy, ih _ K K' hk hl⟩
  refine hmono _ _ _ _ (fun a' ha' u w' hw' ⟨b, e, hb, hr⟩ => ?_) h
  rw [e]
  exact ha' b w' hw' hb hr
theorem wp_plainL {P : Program} {Q : Exit → Act → World → Prop} {a : Act} {w : World} {l : List Oper} (n : Nat) (h : Lex P w (fun a' => ∀ w', Below w.heap.size w w' → wpList P l.toArray Q (l.drop n) a' w') (l.take n) a) : wpList P l.toArray Q l a w := by
 have := wp_head (ops := l.toArray) (Q := Q) (r := l.drop n) (l.take n) a w w (Below.refl _ _) h
 rwa [List.take_append_drop] at this
theorem done {P : Program} {ops : Array Oper} {K : Act → World → Prop} {Q : Exit → Act → World → Prop} {a : Act} {w : World} (h : K a w) : wpList P ops (Exit.then K Q) [] a w := h
theorem wp_letL {P : Program} {Q : Exit → Act → World → Prop} {a : Act} {w : World} {l : List Oper} (n : Nat) (on : Oper) (hon : l[n]? = some on) (T : TypeId) (hop : on.op = .alloc T) (zs : Array Value) (hz : (P.info? T).map (fun i => i.zero) = some (some (.agg zs))) (hgn : on.guard = none)
  (h : Lex P w (fun a' => ∀ b w', Below w.heap.size w w' → w.heap.size ≤ b → w'.heap[b]? = some (.cells zs T (0, 0)) → wpList P l.toArray Q (l.drop (n + 1)) (a'.put on.dst (.pointer (some ⟨b, 0, none⟩))) w') (l.take n) a) : wpList P l.toArray Q l a w := by
 refine wp_plainL n ?_
 have hd : l.drop n = on :: l.drop (n + 1) := by
  have hlt : n < l.length := (List.getElem?_eq_some_iff.1 hon).1
  rw [List.drop_eq_getElem_cons hlt]
  congr 1
  exact (List.getElem?_eq_some_iff.1 hon).2
 have hmono : ∀ (l' : List Oper) (a : Act) (K K' : Act → Prop), (∀ a, K a → K' a) → Lex P w K l' a → Lex P w K' l' a := by
  intro l'
  induction l' with
  | nil => intro a K K' hk h; exact hk _ h
  | cons o l' ih => intro a K K' hk ⟨v, hy, hl⟩; exact ⟨v, hy, ih _ K K' hk hl⟩
 refine hmono _ _ _ _ (fun a' ha' w' hw' => ?_) h
 rw [hd]
 refine Own.wpList_alloc_at _ hgn T hop zs hz ?_
 exact ha' w'.heap.size _ (hw'.alloc hw'.size _) hw'.size (heap_alloc_new _ _)
theorem wp_letU {P : Program} {id : Nat} {Q : Exit → Act → World → Prop} {a : Act} {w : World} {l : List Oper} (n : Nat) (on : Oper) (hon : l[n]? = some on) (T : TypeId) (hop : on.op = .alloc T) (zs : Array Value) (hz : (P.info? T).map (fun i => i.zero) = some (some (.agg zs))) (hgn : on.guard = none)
  (h : Lex P w (fun a' => ∀ b w', Below w.heap.size w w' → w.heap.size ≤ b → w'.heap[b]? = some (.cells zs T (0, 0)) → wpList P l.toArray Q (l.drop (n + 1)) (a'.put on.dst (.pointer (some ⟨b, 0, none⟩))) w') (l.take n) a) : (Code.region id l.toArray false).wp P Q a w :=
 wp_region_list (wp_letL n on hon T hop zs hz hgn h)
end Qt
end Go.Proofs.YtbojijefenfbgaaGreatDoor
namespace Go.Proofs.YtbojijefenfbgaaGreatDoor
open Go Go.RowKit
namespace Qg
open Qt
variable {P : Program} {ops : Array Oper} {w : World} {Q : Act → Prop} {rest : List Oper} {o : Oper} {a : Act}
theorem off (hw : Region.wanted o (yielded ops a.tmps) = false) (h : wpQuiet P ops (BW w) Q rest (a.put o.dst undef)) : wpQuiet P ops (BW w) Q (o :: rest) a := by
 unfold wpQuiet
 rw [if_neg (by rw [hw]; decide)]
 exact h
theorem val (hw : Region.wanted o (yielded ops a.tmps) = true) (v : Value) (hv : ∀ w', Below w.heap.size w w' → (execOp a.eval o).run P w' = .ok (.value v) w') (h : wpQuiet P ops (BW w) Q rest (a.put o.dst v)) : wpQuiet P ops (BW w) Q (o :: rest) a := by
 unfold wpQuiet
 rw [if_pos hw]
 refine ⟨v, fun w' hw' => ?_, h⟩
 unfold Oper.quietAt
 rw [hv w' hw']
 exact ⟨rfl, rfl⟩
theorem call (hw : Region.wanted o (yielded ops a.tmps) = true) (f : FuncId) (args : Array Value) (v : Value) (hv : ∀ w', (execOp a.eval o).run P w' = .ok (.enter f args) w') (hc : ∀ w', Below w.heap.size w w' → Calls P f args w' fun e w'' => e = .returned v ∧ Below w'.heap.size w' w'') (h : wpQuiet P ops (BW w) Q rest (a.put o.dst v)) : wpQuiet P ops (BW w) Q (o :: rest) a := by
 unfold wpQuiet
 rw [if_pos hw]
 refine ⟨v, fun w' hw' => ?_, h⟩
 unfold Oper.quietAt
 rw [hv w']
 exact ⟨rfl, (hc w' hw').mono fun e w'' ⟨he, hb⟩ => ⟨he, Below.trans hw' (hb.mono (Below.size hw'))⟩⟩
theorem row (hw : Region.wanted o (yielded ops a.tmps) = true) (ty : TypeId) (x : Operand) (ho : o.op = .load ty x) (g : Nat) (hx : a.eval x = .pointer (some ⟨g, 0, none⟩)) (t : TypeId) (cs : Array Value) (fr : Nat × Nat) (d : TypeDesc) (hb : w.heap[g]? = some (.cells cs t fr))
  (hu : P.underlying ty = some d) (hd : (match d with | .struct _ | .array _ _ => true | _ => false) = true) (hi : (P.info? ty).map (·.size) = some cs.size)
  (h : wpQuiet P ops (BW w) Q rest (a.put o.dst (.agg cs))) : wpQuiet P ops (BW w) Q (o :: rest) a := by
 refine val hw (.agg cs) (fun w' hw' => ?_) h
 have hlt : g < w.heap.size := (Array.getElem?_eq_some_iff.1 hb).1
 unfold execOp
 simp only [ho, hx, Instr.loadAt, Instr.sureAddr, Sem.run_bind, Sem.run_pure, Result.andThen_ok, run_loadVar_row w' g t ty cs fr d ((hw'.block g hlt).trans hb) hu hd hi]
end Qg
end Go.Proofs.YtbojijefenfbgaaGreatDoor
namespace Go.Proofs.YtbojijefenfbgaaGreatDoor
def un (x : BitVec 64) : Int := (x.toNat : Int)
namespace UV
theorem un_lo (x : BitVec 64) : 0 ≤ un x := by unfold un; omega
theorem un_ofNat (n : Nat) (h : n < 18446744073709551616) : un (BitVec.ofNat 64 n) = (n : Int) := by
 unfold un; rw [BitVec.toNat_ofNat]; rw [Nat.mod_eq_of_lt (by omega)]
theorem u_wrap (n : Nat) : IntKind.u64.wrap (n : Int) = un (BitVec.ofNat 64 n) := by
 unfold un; rw [IntKind.wrap_u64, BitVec.toNat_ofNat]; rfl
theorem u_wrap_un (x : BitVec 64) : IntKind.u64.wrap (un x) = un x := by
 unfold un; rw [IntKind.wrap_u64]; have := x.isLt; omega
theorem u_add (x y : BitVec 64) : IntKind.u64.wrap (un x + un y) = un (x + y) := by
 unfold un; rw [IntKind.wrap_u64, BitVec.toNat_add]; rfl
theorem u_mul (x y : BitVec 64) : IntKind.u64.wrap (un x * un y) = un (x * y) := by
 unfold un; rw [IntKind.wrap_u64, BitVec.toNat_mul]; rfl
theorem u_sub (x y : BitVec 64) : IntKind.u64.wrap (un x - un y) = un (x - y) := by
 unfold un; rw [IntKind.wrap_u64, BitVec.toNat_sub]; have := x.isLt; have := y.isLt; omega
theorem u_xor (x y : BitVec 64) : bits .xor .u64 (un x) (un y) = un (x ^^^ y) := by
 unfold un; rw [bits_xor_u64_nat _ _ x.isLt y.isLt, BitVec.toNat_xor]
theorem u_and (x y : BitVec 64) : bits .and .u64 (un x) (un y) = un (x &&& y) := by
 unfold un; rw [bits_and_u64_nat _ _ x.isLt y.isLt, BitVec.toNat_and]
theorem u_or (x y : BitVec 64) : bits .or .u64 (un x) (un y) = un (x ||| y) := by
 unfold un; rw [bits_or_u64_nat _ _ x.isLt y.isLt, BitVec.toNat_or]
theorem u_shr (x : BitVec 64) (n : Nat) : un x / 2 ^ n = un (x >>> n) := by
 unfold un; rw [BitVec.toNat_ushiftRight, Nat.shiftRight_eq_div_pow, Int.natCast_ediv]; simp
theorem u_shl (x : BitVec 64) (n : Nat) : IntKind.u64.wrap (un x * 2 ^ n) = un (x <<< n) := by
 unfold un; rw [IntKind.wrap_u64, BitVec.toNat_shiftLeft, Nat.shiftLeft_eq]
 have : ((x.toNat : Int) * 2 ^ n) = ((x.toNat * 2 ^ n : Nat) : Int) := by simp
 rw [this]; rfl
theorem u_not (x : BitVec 64) : bits .xor .u64 18446744073709551615 (un x) = un (~~~ x) := by
 unfold un
 have := bits_xor_u64_nat 18446744073709551615 x.toNat (by omega) x.isLt
 rw [show ((18446744073709551615 : Nat) : Int) = 18446744073709551615 from rfl] at this
 rw [this]
 have h : ~~~ x = BitVec.ofNat 64 18446744073709551615 ^^^ x := by
  rw [show BitVec.ofNat 64 18446744073709551615 = BitVec.allOnes 64 from rfl, BitVec.allOnes_xor]
 rw [h, BitVec.toNat_xor]; rfl
theorem u_notm (x : BitVec 64) : bits .xor .u64 IntKind.u64.max (un x) = un (~~~ x) := by rw [show IntKind.u64.max = 18446744073709551615 from rfl, u_not]
theorem u_mul_lit (n : Nat) (x : BitVec 64) : IntKind.u64.wrap ((OfNat.ofNat n : Int) * un x) = un (BitVec.ofNat 64 n * x) := by
 unfold un; rw [IntKind.wrap_u64, BitVec.toNat_mul, BitVec.toNat_ofNat]
 show ((n : Int) * (x.toNat : Int)) % 18446744073709551616 = _
 rw [Nat.mod_mul_mod]
 have : ((n : Int) * (x.toNat : Int)) = ((n * x.toNat : Nat) : Int) := by simp
 rw [this]; rfl
theorem un_inj {x y : BitVec 64} (h : un x = un y) : x = y := by
 unfold un at h; exact BitVec.eq_of_toNat_eq (by omega)
end UV
end Go.Proofs.YtbojijefenfbgaaGreatDoor
namespace Go.Proofs.YtbojijefenfbgaaGreatDoor
open Go.RowKit
namespace Bt
def bv (b : Bool) : BitVec 64 := if b then 1#64 else 0#64
theorem bv_toNat (b : Bool) : (bv b).toNat = if b then 1 else 0 := by cases b <;> rfl
theorem bv_le (b : Bool) : (bv b).toNat ≤ 1 := by cases b <;> decide
def carry (x y : BitVec 64) (b : Bool) : Bool := decide (18446744073709551616 ≤ x.toNat + y.toNat + (bv b).toNat)
def borrow (x y : BitVec 64) (b : Bool) : Bool := decide (x.toNat < y.toNat + (bv b).toNat)
theorem add_val (x y : BitVec 64) (b : Bool) : (x + y + bv b).toNat + 18446744073709551616 * (bv (carry x y b)).toNat = x.toNat + y.toNat + (bv b).toNat := by
 have h1 := x.isLt
 have h2 := y.isLt
 have h3 := bv_le b
 rw [bv_toNat (carry x y b), BitVec.toNat_add, BitVec.toNat_add]
 unfold carry
 by_cases h : 18446744073709551616 ≤ x.toNat + y.toNat + (bv b).toNat
 ·rw [decide_eq_true h]; simp only [if_true]; omega
 ·rw [decide_eq_false h]; simp only [Bool.false_eq_true, if_false]; omega
theorem sub_val (x y : BitVec 64) (b : Bool) : (x - y - bv b).toNat + y.toNat + (bv b).toNat = x.toNat + 18446744073709551616 * (bv (borrow x y b)).toNat := by
 have h1 := x.isLt
 have h2 := y.isLt
 have h3 := bv_le b
 rw [bv_toNat (borrow x y b), BitVec.toNat_sub, BitVec.toNat_sub]
 unfold borrow
 by_cases h : x.toNat < y.toNat + (bv b).toNat
 ·rw [decide_eq_true h]; simp only [if_true]; omega
 ·rw [decide_eq_false h]; simp only [Bool.false_eq_true, if_false]; omega
theorem run_Add64 (x y : BitVec 64) (b : Bool) (w : World) :
  Sem.run Tryz.prog (callFunc 243 #[.int .u64 (un x), .int .u64 (un y), .int .u64 (un (bv b))]) w =
   .ok (.value (.tuple #[.int .u64 (un (x + y + bv b)), .int .u64 (un (bv (carry x y b)))])) w := by
 have h1 := UV.un_lo x
 have h2 := UV.un_lo y
 have h3 := UV.un_lo (bv b)
 have h4 : un (bv b) ≤ 1 := by unfold un; have := bv_le b; omega
 rw [run_callFunc_extern Tryz.func243 (by kernel_rfl) (by kernel_rfl) (by kernel_rfl) (e := add64Entry) (by kernel_rfl), run_add64 _ _ _ h1 h2 h3 h4]
 have hv := add_val x y b
 have hlt := (x + y + bv b).isLt
 have hb := bv_le (carry x y b)
 have e1 : (un x + un y + un (bv b)) % 18446744073709551616 = un (x + y + bv b) := by unfold un; omega
 have e2 : (un x + un y + un (bv b)) / 18446744073709551616 = un (bv (carry x y b)) := by unfold un; omega
 rw [e1, e2]
 rfl
theorem run_Sub64 (x y : BitVec 64) (b : Bool) (w : World) :
  Sem.run Tryz.prog (callFunc 235 #[.int .u64 (un x), .int .u64 (un y), .int .u64 (un (bv b))]) w =
   .ok (.value (.tuple #[.int .u64 (un (x - y - bv b)), .int .u64 (un (bv (borrow x y b)))])) w := by
 have hb1 := bv_le b
 have hr := run_sub64 (P := Tryz.prog) x.toNat y.toNat (bv b).toNat hb1 w
 have e0 : (#[Value.int .u64 (un x), .int .u64 (un y), .int .u64 (un (bv b))] : Array Value) = #[.int .u64 ((x.toNat : Nat) : Int), .int .u64 ((y.toNat : Nat) : Int), .int .u64 (((bv b).toNat : Nat) : Int)] := rfl
 rw [run_callFunc_extern Tryz.func235 (by kernel_rfl) (by kernel_rfl) (by kernel_rfl) (e := sub64Entry) (by kernel_rfl), e0, hr]
 have hv := sub_val x y b
 have hlt := (x - y - bv b).isLt
 have hx := x.isLt
 have hy := y.isLt
 have hb := bv_le (borrow x y b)
 have e1 : (x.toNat + 18446744073709551616 - y.toNat - (bv b).toNat) % 18446744073709551616 = (x - y - bv b).toNat := by omega
 have e2 : (if x.toNat < y.toNat + (bv b).toNat then 1 else 0 : Nat) = (bv (borrow x y b)).toNat := by
  rw [bv_toNat (borrow x y b)]
  unfold borrow
  by_cases h : x.toNat < y.toNat + (bv b).toNat
  ·rw [decide_eq_true h, if_pos h]; rfl
  ·rw [decide_eq_false h, if_neg h]; rfl
 rw [e1, e2]
 rfl
def mulH (x y : BitVec 64) : BitVec 64 := BitVec.ofNat 64 (x.toNat * y.toNat / 18446744073709551616)
theorem mul_val (x y : BitVec 64) : (x * y).toNat + 18446744073709551616 * (mulH x y).toNat = x.toNat * y.toNat := by
 have h1 := x.isLt
 have h2 := y.isLt
 have hlt : x.toNat * y.toNat < 18446744073709551616 * 18446744073709551616 := Nat.mul_lt_mul'' h1 h2
 have hq : x.toNat * y.toNat / 18446744073709551616 < 18446744073709551616 := Nat.div_lt_of_lt_mul hlt
 unfold mulH
 rw [BitVec.toNat_mul, BitVec.toNat_ofNat, Nat.mod_eq_of_lt (show x.toNat * y.toNat / 18446744073709551616 < 2 ^ 64 from hq)]
 omega
set_option maxHeartbeats 1000000 in
theorem mul64_nat (x y : Nat) (hx : x < 18446744073709551616) (hy : y < 18446744073709551616) (w : World) :
  Calls Tryz.prog 274 #[.int .u64 (x : Int), .int .u64 (y : Int)] w fun e w' => e = .returned (.tuple #[.int .u64 ((x * y / 18446744073709551616 : Nat) : Int), .int .u64 ((x * y % 18446744073709551616 : Nat) : Int)]) ∧ w' = w := by
 obtain ⟨d1, d2, d3, hhi⟩ := Lib.mul64_hi x y hx hy
 have g1 := Lib.half_mul_le (a := x / 4294967296) (b := y / 4294967296) (by omega) (by omega)
 have g2 := Lib.half_mul_le (a := x / 4294967296) (b := y % 4294967296) (by omega) (by omega)
 have g3 := Lib.half_mul_le (a := x % 4294967296) (b := y / 4294967296) (by omega) (by omega)
 have l1 : x / 4294967296 * (y / 4294967296) < 18446744073709551616 := by omega
 have l2 : x / 4294967296 * (y % 4294967296) < 18446744073709551616 := by omega
 have l3 : x % 4294967296 * (y / 4294967296) < 18446744073709551616 := by omega
 have l4 : x / 4294967296 * (y / 4294967296) + (x / 4294967296 * (y % 4294967296) + x % 4294967296 * (y % 4294967296) / 4294967296) / 4294967296 < 18446744073709551616 := by omega
 have l5 : x / 4294967296 * (y / 4294967296) + (x / 4294967296 * (y % 4294967296) + x % 4294967296 * (y % 4294967296) / 4294967296) / 4294967296 + ((x / 4294967296 * (y % 4294967296) + x % 4294967296 * (y % 4294967296) / 4294967296) % 4294967296 + x % 4294967296 * (y / 4294967296)) / 4294967296 < 18446744073709551616 := by omega
 go_enter Tryz.func274, Tryz.ntmps274
 go_wp2
 simp only [Mul64.maskN x hx, Mul64.maskN y hy, Mul64.divN, Mul64.mulN, Mul64.addN, Mul64.wrapN _ d1, Mul64.wrapN _ l2, Mul64.wrapN _ d2, Mul64.maskN _ d2, Mul64.wrapN _ l3, Mul64.wrapN _ d3, Mul64.wrapN _ l1, Mul64.wrapN _ l4, Mul64.wrapN _ l5, Mul64.wrapM (x * y)]
 rw [hhi]
 go_ret2
 exact ⟨rfl, rfl⟩
theorem mul64_any (x y : BitVec 64) (w : World) :
  Calls Tryz.prog 274 #[.int .u64 (un x), .int .u64 (un y)] w fun e w' => e = .returned (.tuple #[.int .u64 (un (mulH x y)), .int .u64 (un (x * y))]) ∧ w' = w := by
 have h := mul64_nat x.toNat y.toNat x.isLt y.isLt w
 have hv := mul_val x y
 have h1 := (x * y).isLt
 have e1 : x.toNat * y.toNat / 18446744073709551616 = (mulH x y).toNat := by omega
 have e2 : x.toNat * y.toNat % 18446744073709551616 = (x * y).toNat := by omega
 rw [e1, e2] at h
 exact h
end Bt
end Go.Proofs.YtbojijefenfbgaaGreatDoor

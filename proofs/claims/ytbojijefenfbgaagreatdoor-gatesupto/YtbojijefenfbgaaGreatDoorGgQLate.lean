/- As QFloat, of a region 'x, y := f(..)': the last operation of the head may also come up behind the first store. A region 'return x, f(x)': a store that may come up before the last operations of the head, which ask nothing of the world. -/
import Derived.Test.YtbojijefenfbgaaGreatDoorGgQFloat
namespace Go.Proofs.YtbojijefenfbgaaGreatDoor
open Go Go.RowKit
namespace Qt
section
variable {P : Program} {ops : Array Oper} {n : Nat} {W : World}
theorem not_ready_chain {listed : Array Bool} (hc : Region.chainB .any ops (n + 1) = true) (inv : HeadInv .any ops (n + 1) listed) {t : Nat} (ht : n + 1 < t) : t ∉ Region.ready .any ops listed := fun hr => by
 obtain ⟨_, ot, hot, hall⟩ := mem_ready.1 hr
 have htlt : t < ops.size := (Array.getElem?_eq_some_iff.1 hot).1
 have h1 := List.all_eq_true.1 hc t (List.mem_range.2 htlt)
 simp only [Bool.or_eq_true, decide_eq_true_eq] at h1
 rcases h1 with h1 | h1
 ·omega
 ·obtain ⟨o', ho', e, he, hb, hon⟩ := Region.waitsFor_spec h1
  obtain rfl : o' = ot := Option.some.inj (ho'.symm.trans hot)
  have h2 := hall e he hb
  rw [hon, getD_both (inv.tail (t - 1) (by omega) (by omega))] at h2
  cases h2
def storeB (ops : Array Oper) (n : Nat) : Bool := (List.range (n + 1)).all fun i => decide (i + 1 = n) || Region.waitsFor .any ops (n + 1) i
theorem store_waits {listed : Array Bool} (hs : storeB ops n = true) (hr : n + 1 ∈ Region.ready .any ops listed) {i : Nat} (hi : i < n + 1) (hne : i + 1 ≠ n) : listed.getD i false = true := by
 obtain ⟨_, os, hos, hall⟩ := mem_ready.1 hr
 have h1 := List.all_eq_true.1 hs i (List.mem_range.2 hi)
 simp only [Bool.or_eq_true, decide_eq_true_eq] at h1
 rcases h1 with h1 | h1
 ·exact absurd h1 hne
 ·obtain ⟨o', ho', e, he, hb, hon⟩ := Region.waitsFor_spec h1
  obtain rfl : o' = os := Option.some.inj (ho'.symm.trans hos)
  have h2 := hall e he hb
  rwa [hon] at h2
theorem Still.end2L {K : Array Bool → Act → Prop} {R : World → Prop} {Q : Exit → Act → World → Prop} {g : Nat} (hs : storeB ops n = true) (hc : Region.chainB .any ops (n + 1) = true)
  (hR : ∀ w w', R w → Below w.heap.size w w' → R w') (hK : ∀ listed a, K listed a → ∀ w, Below W.heap.size W w → R w → wpAny P .any ops Q (g + 1) listed a w)
  (hS : ∀ listed a oe v, HeadInv .any ops (n + 1) listed → listed.getD n false = true → listed.getD (n - 1) true = false → ops[n - 1]? = some oe → Yb P W oe v a → (∀ j, j < n → (listed.setIfInBounds (n - 1) true).getD j false = true) → K (listed.setIfInBounds (n - 1) true) (a.put oe.dst v) → ∀ w, Below W.heap.size W w → R w →
   wpOp P ops Q (n + 1) (wpAny P .any ops Q (g + 1) (listed.setIfInBounds (n + 1) true)) a w) (f : Nat) :
  ∀ listed a, HeadInv .any ops (n + 1) listed → listed.getD n false = true → Still P ops n W K f listed a → ∀ w, Below W.heap.size W w → R w → wpAny P .any ops Q (g + 1 + f) listed a w := by
 induction f with
 | zero => intro listed a _ _ H w hw hr; exact hK _ _ H.2 w hw hr
 | succ f ih =>
  intro listed a inv hln H w hw hr
  obtain ⟨⟨i0, hi0, hi0n⟩, H2⟩ := H
  refine ⟨fun h0 => (by rw [h0] at hi0; cases hi0), fun i hi => ?_⟩
  rcases Nat.lt_or_ge i n with hin | hin
  ·obtain ⟨oi, v, hoi, hy, hS'⟩ := H2 i hi hin
   unfold wpOp
   simp only [hoi]
   rw [if_pos (by simp [Region.wanted, hy.1])]
   refine .inl (hy.wp hw fun w' hb => ?_)
   exact ih _ _ (inv.set hi (by omega)) (by rw [getD_set_ne false (by omega)]; exact hln) hS' w' (hw.trans (hb.mono hw.size)) (hR w w' hr hb)
  ·by_cases e1 : i = n
   ·subst e1
    have := getD_both (mem_ready.1 hi).1
    rw [hln] at this; cases this
   ·by_cases e2 : i = n + 1
    ·subst e2
     have hall : ∀ j, j < n → j + 1 ≠ n → listed.getD j false = true := fun j hj hne => store_waits hs hi (by omega) hne
     have hi0e : i0 = n - 1 := by
      by_cases h : i0 + 1 = n
      ·omega
      ·have h1 := hall i0 hi0n h
       rw [getD_both (mem_ready.1 hi0).1] at h1; cases h1
     obtain ⟨oe, v, hoe, hy, hS'⟩ := H2 i0 hi0 hi0n
     rw [hi0e] at hoe hS' hi0
     have hfull : ∀ j, j < n → (listed.setIfInBounds (n - 1) true).getD j false = true := fun j hj => by
      by_cases h : n - 1 = j
      ·subst h
       have hsz : n - 1 < listed.size := by
        have := (mem_ready.1 hi0).1
        rcases Nat.lt_or_ge (n - 1) listed.size with h | h
        ·exact h
        ·simp [Array.getD_eq_getD_getElem?, Array.getElem?_eq_none h] at this
       simp [Array.getD_eq_getD_getElem?, hsz]
      ·rw [getD_set_ne false h]
       exact hall j hj (by omega)
     cases f with
     | zero => exact hS listed a oe v inv hln (mem_ready.1 hi0).1 hoe hy hfull hS'.2 w hw hr
     | succ f =>
      obtain ⟨⟨i1, hi1, hi1n⟩, _⟩ := hS'
      have h1 := hfull i1 hi1n
      rw [getD_both (mem_ready.1 hi1).1] at h1; cases h1
    ·exact absurd hi (not_ready_chain hc inv (by omega))
theorem Still.end1L {K : Array Bool → Act → Prop} {R : Value → World → Prop} {Q : Exit → Act → World → Prop} {g : Nat} (hsel : Region.noSelect ops = true) (hg : ∀ (i : Nat) (o : Oper), ops[i]? = some o → o.guard = none) (hs : storeB ops n = true) (hc : Region.chainB .any ops (n + 1) = true)
  (hwt : (List.range n).all (fun i => !Region.waitsFor .any ops i n) = true) {on : Oper} (hon : ops[n]? = some on) (hap : (List.range n).all (fun i => match ops[i]? with | some oi => oi.apart ops on | none => true) = true) (hfree : on.after = #[])
  (hfl : ∀ a w Kn, Below W.heap.size W w → (∀ u w', R u w' → Below W.heap.size W w' → Kn (a.put on.dst u) w') → on.wp P a w Kn Q)
  (hE : ∀ u f listed a, HeadInv .any ops (n + 1) listed → listed.getD n false = true → Still P ops n W (fun listed' a' => ∃ l0 a0, K l0 a0 ∧ listed' = l0.setIfInBounds n true ∧ a' = a0.put on.dst u) f listed a → ∀ w, Below W.heap.size W w → R u w → wpAny P .any ops Q (g + 1 + f) listed a w) (f : Nat) :
  ∀ listed a, HeadInv .any ops (n + 1) listed → listed.getD n true = false → Still P ops n W K f listed a → ∀ w, Below W.heap.size W w → wpAny P .any ops Q (g + 1 + f + 1) listed a w := by
 have hnr : ∀ listed : Array Bool, listed.getD n true = false → n ∈ Region.ready .any ops listed := fun listed h => mem_ready.2 ⟨h, on, hon, fun e he => by rw [hfree] at he; simp at he⟩
 have hfloat : ∀ f listed a, HeadInv .any ops (n + 1) listed → listed.getD n true = false → Still P ops n W K f listed a → ∀ w, Below W.heap.size W w → wpOp P ops Q n (wpAny P .any ops Q (g + 1 + f) (listed.setIfInBounds n true)) a w := by
  intro f listed a inv hln H w hw
  unfold wpOp
  simp only [hon]
  rw [if_pos (by simp [Region.wanted, hg n on hon])]
  refine .inl (hfl a w _ hw fun u w' hr hb => ?_)
  have hsz : n < listed.size := by
   rcases Nat.lt_or_ge n listed.size with h | h
   ·exact h
   ·simp [Array.getD_eq_getD_getElem?, Array.getElem?_eq_none h] at hln
  have hS := Still.shift (P := P) (W := W) hsel hwt hon hap u f listed a hsz H
  have hset : (listed.setIfInBounds n true).getD n false = true := by simp [Array.getD_eq_getD_getElem?, hsz]
  exact hE u f _ _ (inv.set (hnr listed hln) (by omega)) hset hS w' hb hr
 have hlt : ∀ listed : Array Bool, HeadInv .any ops (n + 1) listed → listed.getD n true = false → ∀ i ∈ Region.ready .any ops listed, i ≤ n := by
  intro listed inv hln i hi
  rcases Nat.lt_or_ge n i with h | h
  ·by_cases e : i = n + 1
   ·subst e
    have h1 := store_waits hs hi (i := n) (by omega) (by omega)
    rw [getD_both hln] at h1; cases h1
   ·exact absurd hi (not_ready_chain hc inv (by omega))
  ·exact h
 induction f with
 | zero =>
  intro listed a inv hln H w hw
  refine ⟨fun h0 => (by have := hnr listed hln; rw [h0] at this; cases this), fun i hi => ?_⟩
  have hi1 := hlt listed inv hln i hi
  have hin : i = n := by
   rcases Nat.lt_or_ge i n with h | h
   ·have h1 := H.1 i h
    rw [getD_both (mem_ready.1 hi).1] at h1; cases h1
   ·omega
  rw [hin]
  exact hfloat 0 listed a inv hln H w hw
 | succ f ih =>
  intro listed a inv hln H w hw
  refine ⟨fun h0 => (by have := hnr listed hln; rw [h0] at this; cases this), fun i hi => ?_⟩
  have hi1 := hlt listed inv hln i hi
  by_cases e : i = n
  ·rw [e]; exact hfloat (f + 1) listed a inv hln H w hw
  ·have hin : i < n := by omega
   obtain ⟨oi, v, hoi, hy, hS⟩ := H.2 i hi hin
   unfold wpOp
   simp only [hoi]
   rw [if_pos (by simp [Region.wanted, hy.1])]
   refine .inl (hy.wp hw fun w' hb => ?_)
   exact ih _ _ (inv.set hi (by omega)) (by rw [getD_set_ne true e]; exact hln) hS w' (hw.trans (hb.mono hw.size))
end
def lateEnd (ops : Array Oper) (n : Nat) (listed : Array Bool) : Bool :=
 decide (Region.ready .any ops (listed.setIfInBounds n true) = [n + 1]) && Region.seqB .any ops (ops.size - (n + 2)) (n + 2) ((listed.setIfInBounds n true).setIfInBounds (n + 1) true) &&
 decide (Region.ready .any ops (((listed.setIfInBounds n true).setIfInBounds (n - 1) false).setIfInBounds (n + 1) true) = [n - 1])
def lateB (ops : Array Oper) (n : Nat) : Bool :=
 Region.noSelect ops && decide (0 < n) && decide (n + 2 ≤ ops.size) && ops.all (fun o => o.guard.isNone) && storeB ops n && Region.chainB .any ops (n + 1) && (List.range n).all (fun i => !Region.waitsFor .any ops i n) &&
 (List.range n).all (fun i => match ops[i]?, ops[n]? with | some oi, some on => oi.apart ops on | _, _ => true) && (match ops[n]? with | some on => on.after.isEmpty | none => false) &&
 (match ops[n - 1]?, ops[n + 1]? with | some oe, some os => oe.apart ops os && os.dst.isNone | _, _ => false) &&
 lexF ops (lateEnd ops n) n 0 (Array.replicate ops.size false)
theorem set_back {l : Array Bool} {e : Nat} (h : l.getD e true = false) : (l.setIfInBounds e true).setIfInBounds e false = l := by
 apply Array.ext_getElem?
 intro j
 rw [Array.getElem?_setIfInBounds, Array.getElem?_setIfInBounds]
 by_cases hj : e = j
 ·subst hj
  rcases Nat.lt_or_ge e l.size with h1 | h1
  ·simp [h1, Array.getD_eq_getD_getElem?] at h ⊢
   exact h
  ·simp [Array.getD_eq_getD_getElem?, Array.getElem?_eq_none h1] at h
 ·simp [hj]
theorem wp_region_late {P : Program} {id : Nat} {Q : Exit → Act → World → Prop} {a : Act} {w : World} {l : List Oper} {R R2 : Value → World → Prop} (n : Nat) (hm : P.follows .mixedOrders = true) (hB : lateB l.toArray n = true) (on os : Oper) (hon : l[n]? = some on) (hos : l[n + 1]? = some os)
  (hR : ∀ u w w', R u w → Below w.heap.size w w' → R u w') (hR2 : ∀ u w w', R2 u w → Below w.heap.size w w' → R2 u w')
  (hfl : ∀ a w1 Kn, Below w.heap.size w w1 → (∀ u w', R u w' → Below w.heap.size w w' → Kn (a.put on.dst u) w') → on.wp P a w1 Kn Q)
  (h : Lex P w (fun a' => ∀ u w', Below w.heap.size w w' → R u w' → ∃ st, (execOp (a'.put on.dst u).eval os).run P w' = .ok .skip st ∧ Below w.heap.size w st ∧ R2 u st ∧ ∀ w2, Below w.heap.size w w2 → R2 u w2 → wpList P l.toArray Q (l.drop (n + 2)) (a'.put on.dst u) w2) (l.take n) a) : (Code.region id l.toArray true).wp P Q a w := by
 simp only [lateB, Bool.and_eq_true, decide_eq_true_eq] at hB
 obtain ⟨⟨⟨⟨⟨⟨⟨⟨⟨⟨hsel, hn0⟩, hn⟩, hgd⟩, hs⟩, hc⟩, hwt⟩, hap⟩, hfr⟩, hes⟩, hlex⟩ := hB
 have hon' : l.toArray[n]? = some on := by simpa using hon
 have hos' : l.toArray[n + 1]? = some os := by simpa using hos
 have hn' : n + 2 ≤ l.length := by simpa using hn
 have htl : (l.take n).length = n := by simp; omega
 have hdl : (l.drop (n + 2)).length = l.toArray.size - (n + 2) := by simp
 have inv0 : HeadInv .any l.toArray (n + 1) (Array.replicate l.toArray.size false) :=
  ⟨by simp, fun j oj _ hl => (by rw [getD_replicate_false] at hl; cases hl), fun t _ ht => getD_in (by simpa using ht) (getD_replicate_false _ _)⟩
 have hguard : ∀ (i : Nat) (o : Oper), l.toArray[i]? = some o → o.guard = none := fun i o ho => by
  have h1 := Array.all_eq_true_iff_forall_mem.1 hgd o (Array.mem_of_getElem? ho)
  simpa using h1
 have hS := Still.lex (P := P) (W := w) (n := n) hsel (l.take n) 0 (Array.replicate l.toArray.size false) a (fun j hj => by rw [htl] at hj; simp [hj]) (by rw [htl]; simp) (by simp; omega) (fun j hj => absurd hj (by omega)) (by rw [htl]; exact hlex) h
 rw [htl] at hS
 simp only [hon'] at hap hfr
 simp only [hos'] at hes
 have tail : ∀ (u : Value) (l0 : Array Bool) (a0 : Act), lateEnd l.toArray n l0 = true → (∀ w2, Below w.heap.size w w2 → R2 u w2 → wpList P l.toArray Q (l.drop (n + 2)) (a0.put on.dst u) w2) → ∀ w2, Below w.heap.size w w2 → R2 u w2 →
   wpAny P .any l.toArray Q (l.toArray.size - (n + 2)) ((l0.setIfInBounds n true).setIfInBounds (n + 1) true) (a0.put on.dst u) w2 := fun u l0 a0 hb ht w2 hw2 hr2 => by
  simp only [lateEnd, Bool.and_eq_true, decide_eq_true_eq] at hb
  have := wpAny_of_seq (md := .any) (Q' := Q) (l.drop (n + 2)) (n + 2) ((l0.setIfInBounds n true).setIfInBounds (n + 1) true) (a0.put on.dst u) w2 (fun j => by simp [List.getElem?_drop]) (by rw [hdl]; exact hb.1.2) (ht w2 hw2 hr2)
  rwa [hdl] at this
 have hdst : os.dst = none := by
  cases hoe : l.toArray[n - 1]? with
  | none => rw [hoe] at hes; cases hes
  | some oe => rw [hoe] at hes; simp only [Bool.and_eq_true] at hes; simpa using hes.2
 refine wp_region_any hm ?_
 have hE : ∀ (u : Value) (f : Nat) (listed : Array Bool) (a : Act), HeadInv .any l.toArray (n + 1) listed → listed.getD n false = true → Still P l.toArray n w (fun listed' a' => ∃ (l0 : Array Bool) (a0 : Act), (lateEnd l.toArray n l0 = true ∧ ∀ u w', Below w.heap.size w w' → R u w' → ∃ st, (execOp (a0.put on.dst u).eval os).run P w' = .ok .skip st ∧ Below w.heap.size w st ∧ R2 u st ∧ ∀ w2, Below w.heap.size w w2 → R2 u w2 → wpList P l.toArray Q (l.drop (n + 2)) (a0.put on.dst u) w2) ∧ listed' = l0.setIfInBounds n true ∧ a' = a0.put on.dst u) f listed a →
   ∀ w1, Below w.heap.size w w1 → R u w1 → wpAny P .any l.toArray Q (l.toArray.size - (n + 2) + 1 + f) listed a w1 := by
  intro u
  refine Still.end2L hs hc (hR u) ?_ ?_
  ·rintro listed a' ⟨l0, a0, ⟨hb, hk⟩, e1, e2⟩ w1 hw1 hr1
   obtain ⟨st, hrun, hst, hr2, ht⟩ := hk u w1 hw1 hr1
   have hb' := hb
   simp only [lateEnd, Bool.and_eq_true, decide_eq_true_eq] at hb'
   rw [e1, e2]
   refine ⟨fun h0 => (by rw [hb'.1.1] at h0; cases h0), fun i hi => ?_⟩
   rw [hb'.1.1] at hi
   obtain rfl : i = n + 1 := by simpa using hi
   unfold wpOp
   simp only [hos']
   rw [if_pos (by simp [Region.wanted, hguard _ os hos'])]
   refine .inl ?_
   unfold Oper.wp
   rw [hrun]
   show wpAny _ _ _ _ _ _ ((a0.put on.dst u).put os.dst undef) st
   rw [hdst]
   exact tail u l0 a0 hb ht st hst hr2
  ·intro listed a' oe v inv hln hun hoe hy hfull hKK w1 hw1 hr1
   obtain ⟨l0, a0, ⟨hb, hk⟩, e1, e2⟩ := hKK
   obtain ⟨st, hrun, hst, hr2, ht⟩ := hk u w1 hw1 hr1
   have hb' := hb
   simp only [lateEnd, Bool.and_eq_true, decide_eq_true_eq] at hb'
   rw [hoe] at hes
   simp only [Bool.and_eq_true] at hes
   obtain ⟨x1, x2, x3⟩ := Oper.apart_spec hes.1
   have hlst : listed = (l0.setIfInBounds n true).setIfInBounds (n - 1) false := by rw [← e1]; exact (set_back hun).symm
   have hrun' : (execOp a'.eval os).run P w1 = .ok .skip st := by
    rw [← hrun, ← e2, execOp_put os (fun cs b => Region.noSelect_spec hsel (n + 1) os cs b hos') a' oe.dst v x1]
   unfold wpOp
   simp only [hos']
   rw [if_pos (by simp [Region.wanted, hguard _ os hos'])]
   refine .inl ?_
   unfold Oper.wp
   rw [hrun']
   show wpAny _ _ _ _ _ _ (a'.put os.dst undef) st
   rw [hdst]
   refine ⟨fun h0 => (by rw [hlst, hb'.2] at h0; cases h0), fun i hi => ?_⟩
   rw [hlst, hb'.2] at hi
   obtain rfl : i = n - 1 := by simpa using hi
   unfold wpOp
   simp only [hoe]
   rw [if_pos (by simp [Region.wanted, hy.1])]
   refine .inl (hy.wp hst fun w3 hb3 => ?_)
   have e3 : ((listed.setIfInBounds (n + 1) true).setIfInBounds (n - 1) true) = (l0.setIfInBounds n true).setIfInBounds (n + 1) true := by
    rw [Array.setIfInBounds_comm _ _ (by omega : n + 1 ≠ n - 1), e1]
   show wpAny _ _ _ _ _ _ (Act.put (Act.put a' none undef) oe.dst v) w3
   rw [e3, show Act.put a' none undef = a' from rfl, e2]
   exact tail u l0 a0 hb ht w3 (hst.trans (hb3.mono hst.size)) (hR2 u st w3 hr2 hb3)
 have := Still.end1L (P := P) (W := w) (R := R) (Q := Q) (g := l.toArray.size - (n + 2)) hsel hguard hs hc hwt hon' (by
  rw [List.all_eq_true] at hap ⊢
  intro i hi
  have := hap i hi
  cases hoi : l.toArray[i]? with
  | none => rfl
  | some oi => rw [hoi] at this; exact this) (by simpa using hfr) hfl hE n _ a inv0 (getD_in (by simp; omega) (getD_replicate_false _ _)) hS { w with drawn := w.drawn + 1 } ⟨rfl, rfl, rfl, Nat.le_refl _, fun _ _ => rfl⟩
 rwa [show l.toArray.size - (n + 2) + 1 + n + 1 = l.toArray.size by simp; omega] at this
theorem wp_late {P : Program} {id : Nat} {Q : Exit → Act → World → Prop} {a : Act} {w : World} {l : List Oper} (n : Nat) (hm : P.follows .mixedOrders = true) (hB : lateB l.toArray n = true) (on os : Oper) (hon : l[n]? = some on) (hos : l[n + 1]? = some os) (T : TypeId) (hop : on.op = .alloc T) (zs : Array Value) (hz : (P.info? T).map (fun i => i.zero) = some (some (.agg zs)))
  (x y : Operand) (hs : os.op = .store T x y) (cs : Array Value) (hi : (P.info? T).map (·.size) = some cs.size) (hold : zs.size = cs.size) (h1 : cs.all (·.oneCell') = true)
  (h : Lex P w (fun a' => (∀ b, (a'.put on.dst (.pointer (some ⟨b, 0, none⟩))).eval x = .pointer (some ⟨b, 0, none⟩)) ∧ (∀ b, (a'.put on.dst (.pointer (some ⟨b, 0, none⟩))).eval y = .agg cs) ∧
   ∀ b w2, w.heap.size ≤ b → w2.heap[b]? = some (.cells cs T (0, 0)) → Below w.heap.size w w2 → wpList P l.toArray Q (l.drop (n + 2)) (a'.put on.dst (.pointer (some ⟨b, 0, none⟩))) w2) (l.take n) a) : (Code.region id l.toArray true).wp P Q a w := by
 refine wp_region_late (R := fun u w' => ∃ b, u = .pointer (some ⟨b, 0, none⟩) ∧ w.heap.size ≤ b ∧ w'.heap[b]? = some (.cells zs T (0, 0))) (R2 := fun u w' => ∃ b, u = .pointer (some ⟨b, 0, none⟩) ∧ w.heap.size ≤ b ∧ w'.heap[b]? = some (.cells cs T (0, 0))) n hm hB on os hon hos ?_ ?_ ?_ ?_
 ·rintro u w1 w2 ⟨b, e, hb, hr⟩ h12
  exact ⟨b, e, hb, (h12.block b (Array.getElem?_eq_some_iff.1 hr).1).trans hr⟩
 ·rintro u w1 w2 ⟨b, e, hb, hr⟩ h12
  exact ⟨b, e, hb, (h12.block b (Array.getElem?_eq_some_iff.1 hr).1).trans hr⟩
 ·intro a' w1 Kn hw1 hK
  obtain ⟨i, hi, hzi⟩ := Option.map_eq_some_iff.1 hz
  unfold Oper.wp
  simp [execOp, hop, Instr.alloc, zeroValue, typeInfo, hi, hzi, newVar, newRow, Value.cells, Result.andThen]
  exact hK _ _ ⟨w1.heap.size, rfl, hw1.size, heap_alloc_new _ _⟩ (hw1.alloc hw1.size _)
 ·have hmono : ∀ (l' : List Oper) (a : Act) (K K' : Act → Prop), (∀ a, K a → K' a) → Lex P w K l' a → Lex P w K' l' a := by
   intro l'
   induction l' with
   | nil => intro a K K' hk h; exact hk _ h
   | cons o l' ih => intro a K K' hk ⟨v, hy, hl⟩; exact ⟨v, hy, ih _ K K' hk hl⟩
  refine hmono _ _ _ _ (fun a' ha' u w' hw' ⟨b, e, hb, hr⟩ => ?_) h
  subst e
  obtain ⟨hx, hy, ht⟩ := ha'
  refine ⟨w'.setRow b cs, ?_, hw'.trans ⟨rfl, rfl, rfl, by simp [World.setRow], fun k hk => setRow_other _ _ _ _ (by omega)⟩, ⟨b, rfl, hb, setRow_heap _ _ _ _ _ _ hr⟩, fun w2 hw2 ⟨c, e2, hc, hr2⟩ => ?_⟩
  ·unfold execOp
   simp only [hs, hx b, hy b, Instr.storeAt, Instr.sureAddr, Sem.run_bind, Sem.run_pure, Result.andThen_ok, run_storeVar_row w' b T T zs cs hr hi hold h1]
  ·obtain rfl : b = c := by simpa using e2
   exact ht b w2 hb hr2 hw2
end Qt
end Go.Proofs.YtbojijefenfbgaaGreatDoor
namespace Go.Proofs.YtbojijefenfbgaaGreatDoor
open Go Go.RowKit
namespace Qt
def Yt (P : Program) (o : Oper) (v : Value) (a : Act) : Prop := o.guard = none ∧ ∀ w, (execOp a.eval o).run P w = .ok (.value v) w
theorem Yt.yb {P : Program} {W : World} {o : Oper} {v : Value} {a : Act} (h : Yt P o v a) : Yb P W o v a := ⟨h.1, fun w _ => by rw [h.2 w]; exact ⟨rfl, rfl⟩⟩
def Yp (P : Program) (W : World) (p i : Nat) (o : Oper) (v : Value) (a : Act) : Prop := if i < p then Yb P W o v a else Yt P o v a
theorem Yp.same {P : Program} {W : World} {p i : Nat} {o : Oper} {v : Value} {a a' : Act} (h : Yp P W p i o v a) (he : execOp a'.eval o = execOp a.eval o) : Yp P W p i o v a' := by
 unfold Yp at *
 split
 ·rename_i hi; rw [if_pos hi] at h; exact h.same he
 ·rename_i hi; rw [if_neg hi] at h; exact ⟨h.1, fun w => by rw [he]; exact h.2 w⟩
theorem Yp.yb {P : Program} {W : World} {p i : Nat} {o : Oper} {v : Value} {a : Act} (h : Yp P W p i o v a) : Yb P W o v a := by
 unfold Yp at h
 split at h
 ·exact h
 ·exact h.yb
section
variable {P : Program} {ops : Array Oper} {n p : Nat} {W : World}
def StillP (P : Program) (ops : Array Oper) (n p : Nat) (W : World) (K : Array Bool → Act → Prop) : Nat → Array Bool → Act → Prop
 | 0, listed, a => (∀ j, j < n → listed.getD j false = true) ∧ K listed a
 | f + 1, listed, a => (∃ i, i ∈ Region.ready .any ops listed ∧ i < n) ∧ ∀ i ∈ Region.ready .any ops listed, i < n → ∃ oi v, ops[i]? = some oi ∧ Yp P W p i oi v a ∧ StillP P ops n p W K f (listed.setIfInBounds i true) (a.put oi.dst v)
theorem StillP.first {K : Array Bool → Act → Prop} (hsel : ∀ (j : Nat) (o : Oper) cs b, ops[j]? = some o → o.op ≠ .select cs b) {i : Nat} {oi : Oper} {v : Value} (hoi : ops[i]? = some oi) (hin : i < n) (f : Nat) :
  ∀ listed a, (∀ j oj, ops[j]? = some oj → j ≠ i → listed.getD j true = false → (∀ e ∈ oj.after, Region.binds .any e = true → e.on ≠ i) → oi.apart ops oj = true) →
   i ∈ Region.ready .any ops listed → Yp P W p i oi v a → StillP P ops n p W K f (listed.setIfInBounds i true) (a.put oi.dst v) → StillP P ops n p W K (f + 1) listed a := by
 induction f with
 | zero =>
  intro listed a _ hr hy H
  refine ⟨⟨i, hr, hin⟩, fun j hj hjn => ?_⟩
  by_cases e : j = i
  ·subst e; exact ⟨oi, v, hoi, hy, H⟩
  ·have h1 := H.1 j hjn
   rw [getD_set_ne false (Ne.symm e), getD_both (mem_ready.1 hj).1] at h1
   cases h1
 | succ f ih =>
  intro listed a hap hr hy H
  refine ⟨⟨i, hr, hin⟩, fun j hj hjn => ?_⟩
  by_cases e : j = i
  ·subst e; exact ⟨oi, v, hoi, hy, H⟩
  ·obtain ⟨hun, oj, hoj, hall⟩ := mem_ready.1 hj
   have hno : ∀ e ∈ oj.after, Region.binds .any e = true → e.on ≠ i := fun e he hb heq => by
    have h1 := hall e he hb
    rw [heq, getD_both (mem_ready.1 hr).1] at h1
    cases h1
   obtain ⟨h1, h2, h3⟩ := Oper.apart_spec (hap j oj hoj e hun hno)
   obtain ⟨oj', u, hoj', hyj, hS⟩ := H.2 j (ready_mono hj e) hjn
   obtain rfl : oj' = oj := Option.some.inj (hoj'.symm.trans hoj)
   refine ⟨oj', u, hoj, hyj.same (execOp_put oj' (fun cs b => hsel j oj' cs b hoj) a oi.dst v h1).symm, ?_⟩
   refine ih _ _ (fun k ok hk hki hku hkn => hap k ok hk hki ?_ hkn) (ready_mono hr (Ne.symm e)) (hy.same (execOp_put oi (fun cs b => hsel i oi cs b hoi) a oj'.dst u h3)) ?_
   ·by_cases hjk : j = k
    ·rw [← hjk]; exact hun
    ·rwa [getD_set_ne true hjk] at hku
   ·rw [Array.setIfInBounds_comm _ _ e, ← Act.put_comm a v u h2]
    exact hS
def LexP (P : Program) (W : World) (p : Nat) (K : Act → Prop) : Nat → List Oper → Act → Prop
 | _, [], a => K a
 | k, o :: l, a => ∃ v, Yp P W p k o v a ∧ LexP P W p K (k + 1) l (a.put o.dst v)
theorem StillP.lex {K : Act → Prop} {B : Array Bool → Bool} (hsel : Region.noSelect ops = true) (l : List Oper) : ∀ (k : Nat) (listed : Array Bool) (a : Act), (∀ j, j < l.length → l[j]? = ops[k + j]?) → k + l.length = n → n ≤ listed.size → (∀ j, j < k → listed.getD j false = true) →
  lexF ops B l.length k listed = true → LexP P W p K k l a → StillP P ops n p W (fun listed' a' => B listed' = true ∧ K a') l.length listed a := by
 induction l with
 | nil =>
  intro k listed a _ hk _ hall hB h
  have e : k = n := by simpa using hk
  subst e
  exact ⟨hall, hB, h⟩
 | cons o l ih =>
  intro k listed a hl hk hsz hall hB h
  have ho : ops[k]? = some o := by simpa using (hl 0 (by simp)).symm
  simp only [List.length_cons, lexF, Bool.and_eq_true] at hB hk
  obtain ⟨v, hy, hK⟩ := h
  refine StillP.first (Region.noSelect_spec hsel) ho (by omega) l.length listed a (Region.free_spec ho hB.1.2) (by simpa using hB.1.1) hy ?_
  refine ih (k + 1) _ _ (fun j hj => by have := hl (j + 1) (by simp; omega); simpa [Nat.add_assoc, Nat.add_comm 1 j] using this) (by omega) (by simpa using hsz) (fun j hj => ?_) hB.2 hK
  by_cases e : k = j
  ·subst e
   simp [Array.getD_eq_getD_getElem?, show k < listed.size by omega]
  ·rw [getD_set_ne false e]
   exact hall j (by omega)
theorem StillP.end2 {K : Array Bool → Act → Prop} {Q : Exit → Act → World → Prop} {g : Nat} (hwt : (List.range n).all (fun i => !Region.waitsFor .any ops i n) = true) (hs : Region.sinkB .any ops (n + 1) = true) (hc : Region.chainB .any ops (n + 1) = true) (hn : n + 1 < ops.size) (w : World) (f : Nat) :
  ∀ listed a, n < listed.size → (∀ j, j < p → j < n → listed.getD j false = true) → HeadInv .any ops (n + 1) (listed.setIfInBounds n true) → (∀ l0 a0, K l0 a0 → wpAny P .any ops Q g (l0.setIfInBounds n true) a0 w) → StillP P ops n p W K f listed a → wpAny P .any ops Q (g + f) (listed.setIfInBounds n true) a w := by
 induction f with
 | zero => intro listed a _ _ _ hK H; exact hK _ _ H.2
 | succ f ih =>
  intro listed a hsz hp inv hK H
  obtain ⟨⟨i0, hi0, hi0n⟩, H2⟩ := H
  refine ⟨fun h0 => (by have := ready_mono hi0 (show i0 ≠ n by omega); rw [h0] at this; cases this), fun i hi => ?_⟩
  have hun0 : (listed.setIfInBounds n true).getD i0 true = false := (mem_ready.1 (ready_mono hi0 (show i0 ≠ n by omega))).1
  have hi1 := ready_lt hs hc hn inv hun0 (by omega) hi
  have hin : i < n := by
   rcases Nat.lt_or_ge i n with h | h
   ·exact h
   ·obtain rfl : i = n := by omega
    have := (mem_ready.1 hi).1
    simp [Array.getD_eq_getD_getElem?, hsz] at this
  have hi' := ready_without hwt hi hin
  obtain ⟨oi, v, hoi, hy, hS⟩ := H2 i hi' hin
  have hip : ¬ i < p := fun h => by
   have h1 := hp i h hin
   rw [getD_both (mem_ready.1 hi').1] at h1; cases h1
  unfold Yp at hy
  rw [if_neg hip] at hy
  unfold wpOp
  simp only [hoi]
  rw [if_pos (by simp [Region.wanted, hy.1])]
  refine .inl ?_
  unfold Oper.wp
  rw [hy.2 w]
  show wpAny _ _ _ _ _ ((listed.setIfInBounds n true).setIfInBounds i true) _ w
  rw [Array.setIfInBounds_comm _ _ (by omega : n ≠ i)]
  refine ih _ _ (by simpa using hsz) (fun j hj hjn => ?_) ?_ hK hS
  ·by_cases e : i = j
   ·subst e; exact absurd hj hip
   ·rw [getD_set_ne false e]; exact hp j hj hjn
  ·rw [← Array.setIfInBounds_comm _ _ (by omega : n ≠ i)]
   exact inv.set hi hi1
theorem StillP.back {K : Array Bool → Act → Prop} (hsel : Region.noSelect ops = true) {os : Oper} (hos : ops[n]? = some os) (hap : (List.range n).all (fun j => Region.waitsFor .any ops n j || match ops[j]? with | some oj => oj.apart ops os | none => true) = true) (f : Nat) :
  ∀ listed a, (∀ j, j < n → listed.getD j true = false → Region.waitsFor .any ops n j = false) → StillP P ops n p W K f listed a → ∃ l0 a0, K l0 a0 ∧ execOp a.eval os = execOp a0.eval os := by
 induction f with
 | zero => intro listed a _ H; exact ⟨listed, a, H.2, rfl⟩
 | succ f ih =>
  intro listed a hun H
  obtain ⟨⟨i, hi, hin⟩, H2⟩ := H
  obtain ⟨oi, v, hoi, hy, hS⟩ := H2 i hi hin
  have h1 := hun i hin (mem_ready.1 hi).1
  have h2 := List.all_eq_true.1 hap i (List.mem_range.2 hin)
  simp only [h1, hoi, Bool.false_or] at h2
  obtain ⟨x1, x2, x3⟩ := Oper.apart_spec h2
  obtain ⟨l0, a0, hk, he⟩ := ih _ _ (fun j hj hju => by
   by_cases e : i = j
   ·subst e; exact h1
   ·rw [getD_set_ne true e] at hju; exact hun j hj hju) hS
  exact ⟨l0, a0, hk, by rw [← he, execOp_put os (fun cs b => Region.noSelect_spec hsel n os cs b hos) a oi.dst v x1]⟩
theorem StillP.end1 {K : Array Bool → Act → Prop} {R : World → Prop} {Q : Exit → Act → World → Prop} {g : Nat} (hsel : Region.noSelect ops = true) (hg : ∀ (i : Nat) (o : Oper), ops[i]? = some o → o.guard = none) (hwt : (List.range n).all (fun i => !Region.waitsFor .any ops i n) = true) (hs : Region.sinkB .any ops (n + 1) = true) (hc : Region.chainB .any ops (n + 1) = true) (hn : n + 1 < ops.size)
  (hpw : (List.range n).all (fun j => decide (p ≤ j) || (Region.waitsFor .any ops n j || (List.range n).any fun k => Region.waitsFor .any ops n k && Region.waitsFor .any ops k j)) = true) {os : Oper} (hos : ops[n]? = some os) (hdst : os.dst = none) (haf : os.after.all (fun e => !Region.binds .any e || decide (e.on < n)) = true) (hap : (List.range n).all (fun j => Region.waitsFor .any ops n j || match ops[j]? with | some oj => oj.apart ops os | none => true) = true)
  (hR : ∀ w w', R w → Below w.heap.size w w' → R w') (st : World → World)
  (hst : ∀ l0 a0, K l0 a0 → ∀ w, Below W.heap.size W w → R w → (execOp a0.eval os).run P w = .ok .skip (st w))
  (hK : ∀ l0 a0, K l0 a0 → ∀ w, Below W.heap.size W w → R w → wpAny P .any ops Q g (l0.setIfInBounds n true) a0 (st w)) (f : Nat) :
  ∀ listed a, HeadInv .any ops (n + 1) listed → listed.getD n true = false → StillP P ops n p W K f listed a → ∀ w, Below W.heap.size W w → R w → (f = 0 → n ∈ Region.ready .any ops listed) → wpAny P .any ops Q (g + f + 1) listed a w := by
 have hstore : ∀ f listed a, HeadInv .any ops (n + 1) listed → listed.getD n true = false → n ∈ Region.ready .any ops listed → StillP P ops n p W K f listed a → ∀ w, Below W.heap.size W w → R w → wpOp P ops Q n (wpAny P .any ops Q (g + f) (listed.setIfInBounds n true)) a w := by
  intro f listed a inv hln hnr H w hw hr
  have hw1 : ∀ j, j < n → listed.getD j true = false → Region.waitsFor .any ops n j = false := fun j hj hju => by
   cases hwf : Region.waitsFor .any ops n j with
   | false => rfl
   | true =>
    obtain ⟨_, o', ho', hall⟩ := mem_ready.1 hnr
    obtain ⟨o2, ho2, e, he, hb, hon⟩ := Region.waitsFor_spec hwf
    obtain rfl : o2 = o' := Option.some.inj (ho2.symm.trans ho')
    have h2 := hall e he hb
    rw [hon, getD_both hju] at h2; cases h2
  obtain ⟨l0, a0, hk, he⟩ := StillP.back hsel hos hap f listed a hw1 H
  have hsz : n < listed.size := by
   rcases Nat.lt_or_ge n listed.size with h | h
   ·exact h
   ·simp [Array.getD_eq_getD_getElem?, Array.getElem?_eq_none h] at hln
  unfold wpOp
  simp only [hos]
  rw [if_pos (by simp [Region.wanted, hg n os hos])]
  refine .inl ?_
  unfold Oper.wp
  rw [he, hst l0 a0 hk w hw hr]
  show wpAny _ _ _ _ _ _ (a.put os.dst undef) (st w)
  rw [hdst]
  refine StillP.end2 (p := p) hwt hs hc hn (st w) f listed a hsz (fun j hj hjn => ?_) (inv.set hnr (by omega)) (fun l1 a1 h1 => hK l1 a1 h1 w hw hr) H
  have h1 := List.all_eq_true.1 hpw j (List.mem_range.2 hjn)
  simp only [Bool.or_eq_true, decide_eq_true_eq] at h1
  have hdone : ∀ k, k < n → Region.waitsFor .any ops n k = true → listed.getD k false = true := fun k hkn hwk => by
   cases hl : listed.getD k false with
   | true => rfl
   | false =>
    have := hw1 k hkn (getD_in (by omega) hl)
    rw [hwk] at this; cases this
  rcases h1 with h1 | h1 | h1
  ·omega
  ·exact hdone j hjn h1
  ·obtain ⟨k, hk, hkk⟩ := List.any_eq_true.1 h1
   simp only [Bool.and_eq_true] at hkk
   have hlk := hdone k (List.mem_range.1 hk) hkk.1
   obtain ⟨ok, hok, e, he, hb, hon⟩ := Region.waitsFor_spec hkk.2
   have h2 := inv.closed k ok hok hlk e he hb
   rwa [hon] at h2
 induction f with
 | zero =>
  intro listed a inv hln H w hw hr h0r
  have hnr := h0r rfl
  refine ⟨fun h0 => (by rw [h0] at hnr; cases hnr), fun i hi => ?_⟩
  have hi1 := ready_lt hs hc hn inv hln (by omega) hi
  have hin : i = n := by
   rcases Nat.lt_or_ge i n with h | h
   ·have h1 := H.1 i h
    rw [getD_both (mem_ready.1 hi).1] at h1; cases h1
   ·omega
  rw [hin]
  exact hstore 0 listed a inv hln hnr H w hw hr
 | succ f ih =>
  intro listed a inv hln H w hw hr _
  obtain ⟨⟨i0, hi0, hi0n⟩, H2⟩ := H
  refine ⟨fun h0 => (by rw [h0] at hi0; cases hi0), fun i hi => ?_⟩
  have hi1 := ready_lt hs hc hn inv hln (by omega) hi
  by_cases e : i = n
  ·subst e; exact hstore (f + 1) listed a inv hln hi ⟨⟨i0, hi0, hi0n⟩, H2⟩ w hw hr
  ·have hin : i < n := by omega
   obtain ⟨oi, v, hoi, hy, hS⟩ := H2 i hi hin
   have hyb := hy.yb
   unfold wpOp
   simp only [hoi]
   rw [if_pos (by simp [Region.wanted, hyb.1])]
   refine .inl (hyb.wp hw fun w' hb => ?_)
   refine ih _ _ (inv.set hi hi1) (by rw [getD_set_ne true e]; exact hln) hS w' (hw.trans (hb.mono hw.size)) (hR w w' hr hb) (fun hf => ?_)
   subst hf
   refine mem_ready.2 ⟨by rw [getD_set_ne true e]; exact hln, os, hos, fun e' he' hb' => ?_⟩
   have h3 := Array.all_eq_true_iff_forall_mem.1 haf e' he'
   rw [hb'] at h3
   simp only [Bool.not_true, Bool.false_or, decide_eq_true_eq] at h3
   exact hS.1 _ h3
end
def storeRB (ops : Array Oper) (n p : Nat) : Bool :=
 Region.noSelect ops && decide (0 < n) && decide (n + 1 < ops.size) && ops.all (fun o => o.guard.isNone) && (List.range n).all (fun i => !Region.waitsFor .any ops i n) && Region.sinkB .any ops (n + 1) && Region.chainB .any ops (n + 1) && (List.range n).all (fun j => decide (p ≤ j) || (Region.waitsFor .any ops n j || (List.range n).any fun k => Region.waitsFor .any ops n k && Region.waitsFor .any ops k j)) &&
 (match ops[n]? with | some os => os.dst.isNone && os.after.all (fun e => !Region.binds .any e || decide (e.on < n)) && (List.range n).all (fun j => Region.waitsFor .any ops n j || match ops[j]? with | some oj => oj.apart ops os | none => true) | none => false) &&
 lexF ops (fun listed => Region.seqB .any ops (ops.size - (n + 1)) (n + 1) (listed.setIfInBounds n true)) n 0 (Array.replicate ops.size false)
theorem wp_region_store {P : Program} {id : Nat} {Q : Exit → Act → World → Prop} {a : Act} {w : World} {l : List Oper} {R : World → Prop} (n p : Nat) (hm : P.follows .mixedOrders = true) (hB : storeRB l.toArray n p = true) (os : Oper) (hos : l[n]? = some os)
  (hR : ∀ w w', R w → Below w.heap.size w w' → R w') (hR0 : R { w with drawn := w.drawn + 1 }) (st : World → World)
  (h : LexP P w p (fun a' => ∀ w', Below w.heap.size w w' → R w' → (execOp a'.eval os).run P w' = .ok .skip (st w') ∧ wpList P l.toArray Q (l.drop (n + 1)) a' (st w')) 0 (l.take n) a) : (Code.region id l.toArray true).wp P Q a w := by
 simp only [storeRB, Bool.and_eq_true, decide_eq_true_eq] at hB
 obtain ⟨⟨⟨⟨⟨⟨⟨⟨⟨hsel, hn0⟩, hn⟩, hgd⟩, hwt⟩, hs⟩, hc⟩, hpw⟩, hss⟩, hlex⟩ := hB
 have hos' : l.toArray[n]? = some os := by simpa using hos
 simp only [hos', Bool.and_eq_true] at hss
 have hn' : n + 1 < l.length := by simpa using hn
 have htl : (l.take n).length = n := by simp; omega
 have hdl : (l.drop (n + 1)).length = l.toArray.size - (n + 1) := by simp
 have inv0 : HeadInv .any l.toArray (n + 1) (Array.replicate l.toArray.size false) :=
  ⟨by simp, fun j oj _ hl => (by rw [getD_replicate_false] at hl; cases hl), fun t _ ht => getD_in (by simpa using ht) (getD_replicate_false _ _)⟩
 have hguard : ∀ (i : Nat) (o : Oper), l.toArray[i]? = some o → o.guard = none := fun i o ho => by
  have h1 := Array.all_eq_true_iff_forall_mem.1 hgd o (Array.mem_of_getElem? ho)
  simpa using h1
 have hS := StillP.lex (P := P) (W := w) (n := n) (p := p) hsel (l.take n) 0 (Array.replicate l.toArray.size false) a (fun j hj => by rw [htl] at hj; simp [hj]) (by rw [htl]; simp) (by simp; omega) (fun j hj => absurd hj (by omega)) (by rw [htl]; exact hlex) h
 rw [htl] at hS
 refine wp_region_any hm ?_
 have := StillP.end1 (P := P) (W := w) (R := R) (Q := Q) (g := l.toArray.size - (n + 1)) hsel hguard hwt hs hc hn hpw hos' (by simpa using hss.1.1) hss.1.2 hss.2 hR st (fun l0 a0 hk w1 hw1 hr1 => (hk.2 w1 hw1 hr1).1)
  (fun l0 a0 hk w1 hw1 hr1 => by
   have := wpAny_of_seq (md := .any) (Q' := Q) (l.drop (n + 1)) (n + 1) (l0.setIfInBounds n true) a0 (st w1) (fun j => by simp [List.getElem?_drop]) (by rw [hdl]; exact hk.1) (hk.2 w1 hw1 hr1).2
   rwa [hdl] at this) n _ a inv0 (getD_in (by simp; omega) (getD_replicate_false _ _)) hS { w with drawn := w.drawn + 1 } ⟨rfl, rfl, rfl, Nat.le_refl _, fun _ _ => rfl⟩ hR0 (fun h0 => by omega)
 rwa [show l.toArray.size - (n + 1) + n + 1 = l.toArray.size by omega] at this
section
variable {P : Program} {W : World} {K : Act → Prop} {l : List Oper} {o : Oper} {a : Act} {p k : Nat}
theorem p_nil (h : K a) : LexP P W p K k [] a := h
theorem p_t (hk : ¬ k < p) (hg : o.guard = none) (v : Value) (hv : ∀ w', (execOp a.eval o).run P w' = .ok (.value v) w') (h : LexP P W p K (k + 1) l (a.put o.dst v)) : LexP P W p K k (o :: l) a := ⟨v, by unfold Yp; rw [if_neg hk]; exact ⟨hg, hv⟩, h⟩
theorem p_lex (r : List Oper) : ∀ (l : List Oper) (k : Nat) (a : Act), k + l.length = p → Lex P W (fun a' => LexP P W p K p r a') l a → LexP P W p K k (l ++ r) a := by
 intro l
 induction l with
 | nil => intro k a hk h; simp at hk; subst hk; exact h
 | cons o l ih =>
  intro k a hk h
  obtain ⟨v, hy, hl⟩ := h
  simp only [List.length_cons] at hk
  exact ⟨v, by unfold Yp; rw [if_pos (by omega)]; exact hy, ih (k + 1) _ (by omega) hl⟩
end
theorem wp_store {P : Program} {id : Nat} {Q : Exit → Act → World → Prop} {a : Act} {w : World} {l : List Oper} (n p : Nat) (hm : P.follows .mixedOrders = true) (hB : storeRB l.toArray n p = true) (hp : p ≤ n) (hnl : n ≤ l.length) (os : Oper) (hos : l[n]? = some os) (T : TypeId) (x y : Operand) (hs : os.op = .store T x y) (r : Nat) (old cs : Array Value) (hr : w.heap[r]? = some (.cells old T (0, 0)))
  (hi : (P.info? T).map (·.size) = some cs.size) (hold : old.size = cs.size) (h1 : cs.all (·.oneCell') = true)
  (h : Lex P w (fun a' => LexP P w p (fun a'' => a''.eval x = .pointer (some ⟨r, 0, none⟩) ∧ a''.eval y = .agg cs ∧ ∀ w', Below w.heap.size w w' → wpList P l.toArray Q (l.drop (n + 1)) a'' (w'.setRow r cs)) p ((l.take n).drop p) a') ((l.take n).take p) a) : (Code.region id l.toArray true).wp P Q a w := by
 have hlt : r < w.heap.size := (Array.getElem?_eq_some_iff.1 hr).1
 refine wp_region_store (R := fun w' => w'.heap[r]? = some (.cells old T (0, 0))) n p hm hB os hos (fun w1 w2 h1 h12 => (h12.block r (Array.getElem?_eq_some_iff.1 h1).1).trans h1) hr (fun w' => w'.setRow r cs) ?_
 have h2 := p_lex (P := P) (W := w) (p := p) (K := fun a'' => a''.eval x = .pointer (some ⟨r, 0, none⟩) ∧ a''.eval y = .agg cs ∧ ∀ w', Below w.heap.size w w' → wpList P l.toArray Q (l.drop (n + 1)) a'' (w'.setRow r cs)) ((l.take n).drop p) ((l.take n).take p) 0 a (by simp; omega) h
 rw [List.take_append_drop] at h2
 have hmono : ∀ (l' : List Oper) (k : Nat) (a : Act) (K K' : Act → Prop), (∀ a, K a → K' a) → LexP P w p K k l' a → LexP P w p K' k l' a := by
  intro l'
  induction l' with
  | nil => intro k a K K' hk h; exact hk _ h
  | cons o l' ih => intro k a K K' hk ⟨v, hy, hl⟩; exact ⟨v, hy, ih _ _ K K' hk hl⟩
 refine hmono _ _ _ _ _ (fun a' ⟨hx, hy, ht⟩ w' hw' hr' => ⟨?_, ht w' hw'⟩) h2
 unfold execOp
 simp only [hs, hx, hy, Instr.storeAt, Instr.sureAddr, Sem.run_bind, Sem.run_pure, Result.andThen_ok, run_storeVar_row w' r T T old cs hr' hi hold h1]
end Qt
end Go.Proofs.YtbojijefenfbgaaGreatDoor

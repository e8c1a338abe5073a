/- As QFloat, of a region 'x, y := f(..)': the last operation of the head may also come up behind the first store. -/
import Derived.Test.YtbojijefenfbgaaGreatDoorTkQLet
namespace Go.Proofs.YtbojijefenfbgaaGreatDoor
open Go Go.RowKit
namespace Qt
section
variable {P : Program} {ops : Array Oper} {n : Nat} {W : World}

theorem not_ready_chain {listed : Array Bool} (hc : Region.chainB .any ops (n + 1) = true) (inv : HeadInv .any ops (n + 1) listed) {t : Nat} (ht : n + 1 < t) : t ∉ Region.ready .any ops listed := fun hr => by
  obtain ⟨_, ot, hot, hall⟩ := mem_ready.1 hr
  have htlt : t < ops.size := (Array.getElem?_eq_some_iff.1 hot).1
  have h1 := List.all_eq_true.1 hc t (List.mem_range.2 htlt)
  simp only [Bool.or_eq_true, decide_eq_true_eq] at h1
  rcases h1 with h1 | h1
  · omega
  · obtain ⟨o', ho', e, he, hb, hon⟩ := Region.waitsFor_spec h1
    obtain rfl : o' = ot := Option.some.inj (ho'.symm.trans hot)
    have h2 := hall e he hb
    rw [hon, getD_both (inv.tail (t - 1) (by omega) (by omega))] at h2
    cases h2
/-- The first store waits for all but the last of the head. -/
def storeB (ops : Array Oper) (n : Nat) : Bool := (List.range (n + 1)).all fun i => decide (i + 1 = n) || Region.waitsFor .any ops (n + 1) i
theorem store_waits {listed : Array Bool} (hs : storeB ops n = true) (hr : n + 1 ∈ Region.ready .any ops listed) {i : Nat} (hi : i < n + 1) (hne : i + 1 ≠ n) : listed.getD i false = true := by
  obtain ⟨_, os, hos, hall⟩ := mem_ready.1 hr
  have h1 := List.all_eq_true.1 hs i (List.mem_range.2 hi)
  simp only [Bool.or_eq_true, decide_eq_true_eq] at h1
  rcases h1 with h1 | h1
  · exact absurd h1 hne
  · obtain ⟨o', ho', e, he, hb, hon⟩ := Region.waitsFor_spec h1
    obtain rfl : o' = os := Option.some.inj (ho'.symm.trans hos)
    have h2 := hall e he hb
    rwa [hon] at h2

theorem Still.end2L {K : Array Bool → Act → Prop} {R : World → Prop} {Q : Exit → Act → World → Prop} {g : Nat} (hs : storeB ops n = true) (hc : Region.chainB .any ops (n + 1) = true)
    (hR : ∀ w w', R w → Below w.heap.size w w' → R w') (hK : ∀ listed a, K listed a → ∀ w, Below W.heap.size W w → R w → wpAny P .any ops Q (g + 1) listed a w)
    (hS : ∀ listed a oe v, HeadInv .any ops (n + 1) listed → listed.getD n false = true → listed.getD (n - 1) true = false → ops[n - 1]? = some oe → Yb P W oe v a → (∀ j, j < n → (listed.setIfInBounds (n - 1) true).getD j false = true) → K (listed.setIfInBounds (n - 1) true) (a.put oe.dst v) → ∀ w, Below W.heap.size W w → R w →
      wpOp P ops Q (n + 1) (wpAny P .any ops Q (g + 1) (listed.setIfInBounds (n + 1) true)) a w) (f : Nat) :
    ∀ listed a, HeadInv .any ops (n + 1) listed → listed.getD n false = true → Still P ops n W K f listed a → ∀ w, Below W.heap.size W w → R w → wpAny P .any ops Q (g + 1 + f) listed a w := by
  induction f with
  | zero => intro listed a _ _ H w hw hr; exact hK _ _ H.2 w hw hr
  | succ f ih =>
    intro listed a inv hln H w hw hr
    obtain ⟨⟨i0, hi0, hi0n⟩, H2⟩ := H
    refine ⟨fun h0 => (by rw [h0] at hi0; cases hi0), fun i hi => ?_⟩
    rcases Nat.lt_or_ge i n with hin | hin
    · obtain ⟨oi, v, hoi, hy, hS'⟩ := H2 i hi hin
      unfold wpOp
      simp only [hoi]
      rw [if_pos (by simp [Region.wanted, hy.1])]
      refine .inl (hy.wp hw fun w' hb => ?_)
      exact ih _ _ (inv.set hi (by omega)) (by rw [getD_set_ne false (by omega)]; exact hln) hS' w' (hw.trans (hb.mono hw.size)) (hR w w' hr hb)
    · by_cases e1 : i = n
      · subst e1
        have := getD_both (mem_ready.1 hi).1
        rw [hln] at this; cases this
      · by_cases e2 : i = n + 1
        · subst e2
          have hall : ∀ j, j < n → j + 1 ≠ n → listed.getD j false = true := fun j hj hne => store_waits hs hi (by omega) hne
          have hi0e : i0 = n - 1 := by
            by_cases h : i0 + 1 = n
            · omega
            · have h1 := hall i0 hi0n h
              rw [getD_both (mem_ready.1 hi0).1] at h1; cases h1
          obtain ⟨oe, v, hoe, hy, hS'⟩ := H2 i0 hi0 hi0n
          rw [hi0e] at hoe hS' hi0
          have hfull : ∀ j, j < n → (listed.setIfInBounds (n - 1) true).getD j false = true := fun j hj => by
            by_cases h : n - 1 = j
            · subst h
              have hsz : n - 1 < listed.size := by
                have := (mem_ready.1 hi0).1
                rcases Nat.lt_or_ge (n - 1) listed.size with h | h
                · exact h
                · simp [Array.getD_eq_getD_getElem?, Array.getElem?_eq_none h] at this
              simp [Array.getD_eq_getD_getElem?, hsz]
            · rw [getD_set_ne false h]
              exact hall j hj (by omega)
          cases f with
          | zero => exact hS listed a oe v inv hln (mem_ready.1 hi0).1 hoe hy hfull hS'.2 w hw hr
          | succ f =>
            obtain ⟨⟨i1, hi1, hi1n⟩, _⟩ := hS'
            have h1 := hfull i1 hi1n
            rw [getD_both (mem_ready.1 hi1).1] at h1; cases h1
        · exact absurd hi (not_ready_chain hc inv (by omega))

theorem Still.end1L {K : Array Bool → Act → Prop} {R : Value → World → Prop} {Q : Exit → Act → World → Prop} {g : Nat} (hsel : Region.noSelect ops = true) (hg : ∀ (i : Nat) (o : Oper), ops[i]? = some o → o.guard = none) (hs : storeB ops n = true) (hc : Region.chainB .any ops (n + 1) = true)
    (hwt : (List.range n).all (fun i => !Region.waitsFor .any ops i n) = true) {on : Oper} (hon : ops[n]? = some on) (hap : (List.range n).all (fun i => match ops[i]? with | some oi => oi.apart ops on | none => true) = true) (hfree : on.after = #[])
    (hfl : ∀ a w Kn, Below W.heap.size W w → (∀ u w', R u w' → Below W.heap.size W w' → Kn (a.put on.dst u) w') → on.wp P a w Kn Q)
    (hE : ∀ u f listed a, HeadInv .any ops (n + 1) listed → listed.getD n false = true → Still P ops n W (fun listed' a' => ∃ l0 a0, K l0 a0 ∧ listed' = l0.setIfInBounds n true ∧ a' = a0.put on.dst u) f listed a → ∀ w, Below W.heap.size W w → R u w → wpAny P .any ops Q (g + 1 + f) listed a w) (f : Nat) :
    ∀ listed a, HeadInv .any ops (n + 1) listed → listed.getD n true = false → Still P ops n W K f listed a → ∀ w, Below W.heap.size W w → wpAny P .any ops Q (g + 1 + f + 1) listed a w := by
  have hnr : ∀ listed : Array Bool, listed.getD n true = false → n ∈ Region.ready .any ops listed := fun listed h => mem_ready.2 ⟨h, on, hon, fun e he => by rw [hfree] at he; simp at he⟩
  have hfloat : ∀ f listed a, HeadInv .any ops (n + 1) listed → listed.getD n true = false → Still P ops n W K f listed a → ∀ w, Below W.heap.size W w → wpOp P ops Q n (wpAny P .any ops Q (g + 1 + f) (listed.setIfInBounds n true)) a w := by
    intro f listed a inv hln H w hw
    unfold wpOp
    simp only [hon]
    rw [if_pos (by simp [Region.wanted, hg n on hon])]
    refine .inl (hfl a w _ hw fun u w' hr hb => ?_)
    have hsz : n < listed.size := by
      rcases Nat.lt_or_ge n listed.size with h | h
      · exact h
      · simp [Array.getD_eq_getD_getElem?, Array.getElem?_eq_none h] at hln
    have hS := Still.shift (P := P) (W := W) hsel hwt hon hap u f listed a hsz H
    have hset : (listed.setIfInBounds n true).getD n false = true := by simp [Array.getD_eq_getD_getElem?, hsz]
    exact hE u f _ _ (inv.set (hnr listed hln) (by omega)) hset hS w' hb hr
  have hlt : ∀ listed : Array Bool, HeadInv .any ops (n + 1) listed → listed.getD n true = false → ∀ i ∈ Region.ready .any ops listed, i ≤ n := by
    intro listed inv hln i hi
    rcases Nat.lt_or_ge n i with h | h
    · by_cases e : i = n + 1
      · subst e
        have h1 := store_waits hs hi (i := n) (by omega) (by omega)
        rw [getD_both hln] at h1; cases h1
      · exact absurd hi (not_ready_chain hc inv (by omega))
    · exact h
  induction f with
  | zero =>
    intro listed a inv hln H w hw
    refine ⟨fun h0 => (by have := hnr listed hln; rw [h0] at this; cases this), fun i hi => ?_⟩
    have hi1 := hlt listed inv hln i hi
    have hin : i = n := by
      rcases Nat.lt_or_ge i n with h | h
      · have h1 := H.1 i h
        rw [getD_both (mem_ready.1 hi).1] at h1; cases h1
      · omega
    rw [hin]
    exact hfloat 0 listed a inv hln H w hw
  | succ f ih =>
    intro listed a inv hln H w hw
    refine ⟨fun h0 => (by have := hnr listed hln; rw [h0] at this; cases this), fun i hi => ?_⟩
    have hi1 := hlt listed inv hln i hi
    by_cases e : i = n
    · rw [e]; exact hfloat (f + 1) listed a inv hln H w hw
    · have hin : i < n := by omega
      obtain ⟨oi, v, hoi, hy, hS⟩ := H.2 i hi hin
      unfold wpOp
      simp only [hoi]
      rw [if_pos (by simp [Region.wanted, hy.1])]
      refine .inl (hy.wp hw fun w' hb => ?_)
      exact ih _ _ (inv.set hi (by omega)) (by rw [getD_set_ne true e]; exact hln) hS w' (hw.trans (hb.mono hw.size))
end

/-- What is asked of what has come up at the head's end. -/
def lateEnd (ops : Array Oper) (n : Nat) (listed : Array Bool) : Bool :=
  decide (Region.ready .any ops (listed.setIfInBounds n true) = [n + 1]) && Region.seqB .any ops (ops.size - (n + 2)) (n + 2) ((listed.setIfInBounds n true).setIfInBounds (n + 1) true) &&
  decide (Region.ready .any ops (((listed.setIfInBounds n true).setIfInBounds (n - 1) false).setIfInBounds (n + 1) true) = [n - 1])
def lateB (ops : Array Oper) (n : Nat) : Bool :=
  Region.noSelect ops && decide (0 < n) && decide (n + 2 ≤ ops.size) && ops.all (fun o => o.guard.isNone) && storeB ops n && Region.chainB .any ops (n + 1) && (List.range n).all (fun i => !Region.waitsFor .any ops i n) &&
  (List.range n).all (fun i => match ops[i]?, ops[n]? with | some oi, some on => oi.apart ops on | _, _ => true) && (match ops[n]? with | some on => on.after.isEmpty | none => false) &&
  (match ops[n - 1]?, ops[n + 1]? with | some oe, some os => oe.apart ops os && os.dst.isNone | _, _ => false) &&
  lexF ops (lateEnd ops n) n 0 (Array.replicate ops.size false)
theorem set_back {l : Array Bool} {e : Nat} (h : l.getD e true = false) : (l.setIfInBounds e true).setIfInBounds e false = l := by
  apply Array.ext_getElem?
  intro j
  rw [Array.getElem?_setIfInBounds, Array.getElem?_setIfInBounds]
  by_cases hj : e = j
  · subst hj
    rcases Nat.lt_or_ge e l.size with h1 | h1
    · simp [h1, Array.getD_eq_getD_getElem?] at h ⊢
      exact h
    · simp [Array.getD_eq_getD_getElem?, Array.getElem?_eq_none h1] at h
  · simp [hj]
theorem wp_region_late {P : Program} {id : Nat} {Q : Exit → Act → World → Prop} {a : Act} {w : World} {l : List Oper} {R R2 : Value → World → Prop} (n : Nat) (hm : P.follows .mixedOrders = true) (hB : lateB l.toArray n = true) (on os : Oper) (hon : l[n]? = some on) (hos : l[n + 1]? = some os)
    (hR : ∀ u w w', R u w → Below w.heap.size w w' → R u w') (hR2 : ∀ u w w', R2 u w → Below w.heap.size w w' → R2 u w')
    (hfl : ∀ a w1 Kn, Below w.heap.size w w1 → (∀ u w', R u w' → Below w.heap.size w w' → Kn (a.put on.dst u) w') → on.wp P a w1 Kn Q)
    (h : Lex P w (fun a' => ∀ u w', Below w.heap.size w w' → R u w' → ∃ st, (execOp (a'.put on.dst u).eval os).run P w' = .ok .skip st ∧ Below w.heap.size w st ∧ R2 u st ∧ ∀ w2, Below w.heap.size w w2 → R2 u w2 → wpList P l.toArray Q (l.drop (n + 2)) (a'.put on.dst u) w2) (l.take n) a) : (Code.region id l.toArray true).wp P Q a w := by
  simp only [lateB, Bool.and_eq_true, decide_eq_true_eq] at hB
  obtain ⟨⟨⟨⟨⟨⟨⟨⟨⟨⟨hsel, hn0⟩, hn⟩, hgd⟩, hs⟩, hc⟩, hwt⟩, hap⟩, hfr⟩, hes⟩, hlex⟩ := hB
  have hon' : l.toArray[n]? = some on := by simpa using hon
  have hos' : l.toArray[n + 1]? = some os := by simpa using hos
  have hn' : n + 2 ≤ l.length := by simpa using hn
  have htl : (l.take n).length = n := by simp; omega
  have hdl : (l.drop (n + 2)).length = l.toArray.size - (n + 2) := by simp
  have inv0 : HeadInv .any l.toArray (n + 1) (Array.replicate l.toArray.size false) :=
    ⟨by simp, fun j oj _ hl => (by rw [getD_replicate_false] at hl; cases hl), fun t _ ht => getD_in (by simpa using ht) (getD_replicate_false _ _)⟩
  have hguard : ∀ (i : Nat) (o : Oper), l.toArray[i]? = some o → o.guard = none := fun i o ho => by
    have h1 := Array.all_eq_true_iff_forall_mem.1 hgd o (Array.mem_of_getElem? ho)
    simpa using h1
  have hS := Still.lex (P := P) (W := w) (n := n) hsel (l.take n) 0 (Array.replicate l.toArray.size false) a (fun j hj => by rw [htl] at hj; simp [hj]) (by rw [htl]; simp) (by simp; omega) (fun j hj => absurd hj (by omega)) (by rw [htl]; exact hlex) h
  rw [htl] at hS
  simp only [hon'] at hap hfr
  simp only [hos'] at hes
  -- the tail, in a world where the store is done
  have tail : ∀ (u : Value) (l0 : Array Bool) (a0 : Act), lateEnd l.toArray n l0 = true → (∀ w2, Below w.heap.size w w2 → R2 u w2 → wpList P l.toArray Q (l.drop (n + 2)) (a0.put on.dst u) w2) → ∀ w2, Below w.heap.size w w2 → R2 u w2 →
      wpAny P .any l.toArray Q (l.toArray.size - (n + 2)) ((l0.setIfInBounds n true).setIfInBounds (n + 1) true) (a0.put on.dst u) w2 := fun u l0 a0 hb ht w2 hw2 hr2 => by
    simp only [lateEnd, Bool.and_eq_true, decide_eq_true_eq] at hb
    have := wpAny_of_seq (md := .any) (Q' := Q) (l.drop (n + 2)) (n + 2) ((l0.setIfInBounds n true).setIfInBounds (n + 1) true) (a0.put on.dst u) w2 (fun j => by simp [List.getElem?_drop]) (by rw [hdl]; exact hb.1.2) (ht w2 hw2 hr2)
    rwa [hdl] at this
  have hdst : os.dst = none := by
    cases hoe : l.toArray[n - 1]? with
    | none => rw [hoe] at hes; cases hes
    | some oe => rw [hoe] at hes; simp only [Bool.and_eq_true] at hes; simpa using hes.2
  refine wp_region_any hm ?_
  have hE : ∀ (u : Value) (f : Nat) (listed : Array Bool) (a : Act), HeadInv .any l.toArray (n + 1) listed → listed.getD n false = true → Still P l.toArray n w (fun listed' a' => ∃ (l0 : Array Bool) (a0 : Act), (lateEnd l.toArray n l0 = true ∧ ∀ u w', Below w.heap.size w w' → R u w' → ∃ st, (execOp (a0.put on.dst u).eval os).run P w' = .ok .skip st ∧ Below w.heap.size w st ∧ R2 u st ∧ ∀ w2, Below w.heap.size w w2 → R2 u w2 → wpList P l.toArray Q (l.drop (n + 2)) (a0.put on.dst u) w2) ∧ listed' = l0.setIfInBounds n true ∧ a' = a0.put on.dst u) f listed a →
      ∀ w1, Below w.heap.size w w1 → R u w1 → wpAny P .any l.toArray Q (l.toArray.size - (n + 2) + 1 + f) listed a w1 := by
    intro u
    refine Still.end2L hs hc (hR u) ?_ ?_
    · rintro listed a' ⟨l0, a0, ⟨hb, hk⟩, e1, e2⟩ w1 hw1 hr1
      obtain ⟨st, hrun, hst, hr2, ht⟩ := hk u w1 hw1 hr1
      have hb' := hb
      simp only [lateEnd, Bool.and_eq_true, decide_eq_true_eq] at hb'
      rw [e1, e2]
      refine ⟨fun h0 => (by rw [hb'.1.1] at h0; cases h0), fun i hi => ?_⟩
      rw [hb'.1.1] at hi
      obtain rfl : i = n + 1 := by simpa using hi
      unfold wpOp
      simp only [hos']
      rw [if_pos (by simp [Region.wanted, hguard _ os hos'])]
      refine .inl ?_
      unfold Oper.wp
      rw [hrun]
      show wpAny _ _ _ _ _ _ ((a0.put on.dst u).put os.dst undef) st
      rw [hdst]
      exact tail u l0 a0 hb ht st hst hr2
    · intro listed a' oe v inv hln hun hoe hy hfull hKK w1 hw1 hr1
      obtain ⟨l0, a0, ⟨hb, hk⟩, e1, e2⟩ := hKK
      obtain ⟨st, hrun, hst, hr2, ht⟩ := hk u w1 hw1 hr1
      have hb' := hb
      simp only [lateEnd, Bool.and_eq_true, decide_eq_true_eq] at hb'
      rw [hoe] at hes
      simp only [Bool.and_eq_true] at hes
      obtain ⟨x1, x2, x3⟩ := Oper.apart_spec hes.1
      have hlst : listed = (l0.setIfInBounds n true).setIfInBounds (n - 1) false := by rw [← e1]; exact (set_back hun).symm
      have hrun' : (execOp a'.eval os).run P w1 = .ok .skip st := by
        rw [← hrun, ← e2, execOp_put os (fun cs b => Region.noSelect_spec hsel (n + 1) os cs b hos') a' oe.dst v x1]
      unfold wpOp
      simp only [hos']
      rw [if_pos (by simp [Region.wanted, hguard _ os hos'])]
      refine .inl ?_
      unfold Oper.wp
      rw [hrun']
      show wpAny _ _ _ _ _ _ (a'.put os.dst undef) st
      rw [hdst]
      refine ⟨fun h0 => (by rw [hlst, hb'.2] at h0; cases h0), fun i hi => ?_⟩
      rw [hlst, hb'.2] at hi
      obtain rfl : i = n - 1 := by simpa using hi
      unfold wpOp
      simp only [hoe]
      rw [if_pos (by simp [Region.wanted, hy.1])]
      refine .inl (hy.wp hst fun w3 hb3 => ?_)
      have e3 : ((listed.setIfInBounds (n + 1) true).setIfInBounds (n - 1) true) = (l0.setIfInBounds n true).setIfInBounds (n + 1) true := by
        rw [Array.setIfInBounds_comm _ _ (by omega : n + 1 ≠ n - 1), e1]
      show wpAny _ _ _ _ _ _ (Act.put (Act.put a' none undef) oe.dst v) w3
      rw [e3, show Act.put a' none undef = a' from rfl, e2]
      exact tail u l0 a0 hb ht w3 (hst.trans (hb3.mono hst.size)) (hR2 u st w3 hr2 hb3)
  have := Still.end1L (P := P) (W := w) (R := R) (Q := Q) (g := l.toArray.size - (n + 2)) hsel hguard hs hc hwt hon' (by
    rw [List.all_eq_true] at hap ⊢
    intro i hi
    have := hap i hi
    cases hoi : l.toArray[i]? with
    | none => rfl
    | some oi => rw [hoi] at this; exact this) (by simpa using hfr) hfl hE n _ a inv0 (getD_in (by simp; omega) (getD_replicate_false _ _)) hS { w with drawn := w.drawn + 1 } ⟨rfl, rfl, rfl, Nat.le_refl _, fun _ _ => rfl⟩
  rwa [show l.toArray.size - (n + 2) + 1 + n + 1 = l.toArray.size by simp; omega] at this
/-- 'x, y := ..': the first in a new block. -/
theorem wp_late {P : Program} {id : Nat} {Q : Exit → Act → World → Prop} {a : Act} {w : World} {l : List Oper} (n : Nat) (hm : P.follows .mixedOrders = true) (hB : lateB l.toArray n = true) (on os : Oper) (hon : l[n]? = some on) (hos : l[n + 1]? = some os) (T : TypeId) (hop : on.op = .alloc T) (zs : Array Value) (hz : (P.info? T).map (fun i => i.zero) = some (some (.agg zs)))
    (x y : Operand) (hs : os.op = .store T x y) (cs : Array Value) (hi : (P.info? T).map (·.size) = some cs.size) (hold : zs.size = cs.size) (h1 : cs.all (·.oneCell') = true)
    (h : Lex P w (fun a' => (∀ b, (a'.put on.dst (.pointer (some ⟨b, 0, none⟩))).eval x = .pointer (some ⟨b, 0, none⟩)) ∧ (∀ b, (a'.put on.dst (.pointer (some ⟨b, 0, none⟩))).eval y = .agg cs) ∧
      ∀ b w2, w.heap.size ≤ b → w2.heap[b]? = some (.cells cs T (0, 0)) → Below w.heap.size w w2 → wpList P l.toArray Q (l.drop (n + 2)) (a'.put on.dst (.pointer (some ⟨b, 0, none⟩))) w2) (l.take n) a) : (Code.region id l.toArray true).wp P Q a w := by
  refine wp_region_late (R := fun u w' => ∃ b, u = .pointer (some ⟨b, 0, none⟩) ∧ w.heap.size ≤ b ∧ w'.heap[b]? = some (.cells zs T (0, 0))) (R2 := fun u w' => ∃ b, u = .pointer (some ⟨b, 0, none⟩) ∧ w.heap.size ≤ b ∧ w'.heap[b]? = some (.cells cs T (0, 0))) n hm hB on os hon hos ?_ ?_ ?_ ?_
  · rintro u w1 w2 ⟨b, e, hb, hr⟩ h12
    exact ⟨b, e, hb, (h12.block b (Array.getElem?_eq_some_iff.1 hr).1).trans hr⟩
  · rintro u w1 w2 ⟨b, e, hb, hr⟩ h12
    exact ⟨b, e, hb, (h12.block b (Array.getElem?_eq_some_iff.1 hr).1).trans hr⟩
  · intro a' w1 Kn hw1 hK
    obtain ⟨i, hi, hzi⟩ := Option.map_eq_some_iff.1 hz
    unfold Oper.wp
    simp [execOp, hop, Instr.alloc, zeroValue, typeInfo, hi, hzi, newVar, newRow, Value.cells, Result.andThen]
    exact hK _ _ ⟨w1.heap.size, rfl, hw1.size, heap_alloc_new _ _⟩ (hw1.alloc hw1.size _)
  · have hmono : ∀ (l' : List Oper) (a : Act) (K K' : Act → Prop), (∀ a, K a → K' a) → Lex P w K l' a → Lex P w K' l' a := by
      intro l'
      induction l' with
      | nil => intro a K K' hk h; exact hk _ h
      | cons o l' ih => intro a K K' hk ⟨v, hy, hl⟩; exact ⟨v, hy, ih _ K K' hk hl⟩
    refine hmono _ _ _ _ (fun a' ha' u w' hw' ⟨b, e, hb, hr⟩ => ?_) h
    subst e
    obtain ⟨hx, hy, ht⟩ := ha'
    refine ⟨w'.setRow b cs, ?_, hw'.trans ⟨rfl, rfl, rfl, by simp [World.setRow], fun k hk => setRow_other _ _ _ _ (by omega)⟩, ⟨b, rfl, hb, setRow_heap _ _ _ _ _ _ hr⟩, fun w2 hw2 ⟨c, e2, hc, hr2⟩ => ?_⟩
    · unfold execOp
      simp only [hs, hx b, hy b, Instr.storeAt, Instr.sureAddr, Sem.run_bind, Sem.run_pure, Result.andThen_ok, run_storeVar_row w' b T T zs cs hr hi hold h1]
    · obtain rfl : b = c := by simpa using e2
      exact ht b w2 hb hr2 hw2
end Qt
end Go.Proofs.YtbojijefenfbgaaGreatDoor

/- As QStore, where the last operations of the head may read what the store leaves: S is what they ask of the world. Two numbers of the document's reckoning compared; root. The x of a point by its y, in the document's manner: a root of u / v. -/
import Derived.Test.YtbojijefenfbgaaGreatDoorGgShort
import Derived.Test.YtbojijefenfbgaaGreatDoorGgQLate
import Derived.Test.YtbojijefenfbgaaGreatDoorGgDocL
import Derived.Test.YtbojijefenfbgaaGreatDoorGgExt
import Derived.ChangeKeysEq
namespace Go.Proofs.YtbojijefenfbgaaGreatDoor
open Go Go.RowKit
namespace Qu
open Qt
def Yt (P : Program) (S : World → Prop) (o : Oper) (v : Value) (a : Act) : Prop := o.guard = none ∧ ∀ w, S w → (execOp a.eval o).run P w = .ok (.value v) w
theorem Yt.yb {P : Program} {S : World → Prop} {W : World} (hSW : ∀ w, Below W.heap.size W w → S w) {o : Oper} {v : Value} {a : Act} (h : Yt P S o v a) : Yb P W o v a := ⟨h.1, fun w hw => by rw [h.2 w (hSW w hw)]; exact ⟨rfl, rfl⟩⟩
def Yp (P : Program) (S : World → Prop) (W : World) (p i : Nat) (o : Oper) (v : Value) (a : Act) : Prop := if i < p then Yb P W o v a else Yt P S o v a
theorem Yp.same {P : Program} {S : World → Prop} {W : World} {p i : Nat} {o : Oper} {v : Value} {a a' : Act} (h : Yp P S W p i o v a) (he : execOp a'.eval o = execOp a.eval o) : Yp P S W p i o v a' := by
 unfold Yp at *
 split
 ·rename_i hi; rw [if_pos hi] at h; exact h.same he
 ·rename_i hi; rw [if_neg hi] at h; exact ⟨h.1, fun w hw => by rw [he]; exact h.2 w hw⟩
theorem Yp.yb {P : Program} {S : World → Prop} {W : World} (hSW : ∀ w, Below W.heap.size W w → S w) {p i : Nat} {o : Oper} {v : Value} {a : Act} (h : Yp P S W p i o v a) : Yb P W o v a := by
 unfold Yp at h
 split at h
 ·exact h
 ·exact h.yb hSW
section
variable {P : Program} {S : World → Prop} {ops : Array Oper} {n p : Nat} {W : World}
def StillP (P : Program) (S : World → Prop) (ops : Array Oper) (n p : Nat) (W : World) (K : Array Bool → Act → Prop) : Nat → Array Bool → Act → Prop
 | 0, listed, a => (∀ j, j < n → listed.getD j false = true) ∧ K listed a
 | f + 1, listed, a => (∃ i, i ∈ Region.ready .any ops listed ∧ i < n) ∧ ∀ i ∈ Region.ready .any ops listed, i < n → ∃ oi v, ops[i]? = some oi ∧ Yp P S W p i oi v a ∧ StillP P S ops n p W K f (listed.setIfInBounds i true) (a.put oi.dst v)
theorem StillP.first {K : Array Bool → Act → Prop} (hsel : ∀ (j : Nat) (o : Oper) cs b, ops[j]? = some o → o.op ≠ .select cs b) {i : Nat} {oi : Oper} {v : Value} (hoi : ops[i]? = some oi) (hin : i < n) (f : Nat) :
  ∀ listed a, (∀ j oj, ops[j]? = some oj → j ≠ i → listed.getD j true = false → (∀ e ∈ oj.after, Region.binds .any e = true → e.on ≠ i) → oi.apart ops oj = true) →
   i ∈ Region.ready .any ops listed → Yp P S W p i oi v a → StillP P S ops n p W K f (listed.setIfInBounds i true) (a.put oi.dst v) → StillP P S ops n p W K (f + 1) listed a := by
 induction f with
 | zero =>
  intro listed a _ hr hy H
  refine ⟨⟨i, hr, hin⟩, fun j hj hjn => ?_⟩
  by_cases e : j = i
  ·subst e; exact ⟨oi, v, hoi, hy, H⟩
  ·have h1 := H.1 j hjn
   rw [getD_set_ne false (Ne.symm e), getD_both (mem_ready.1 hj).1] at h1
   cases h1
 | succ f ih =>
  intro listed a hap hr hy H
  refine ⟨⟨i, hr, hin⟩, fun j hj hjn => ?_⟩
  by_cases e : j = i
  ·subst e; exact ⟨oi, v, hoi, hy, H⟩
  ·obtain ⟨hun, oj, hoj, hall⟩ := mem_ready.1 hj
   have hno : ∀ e ∈ oj.after, Region.binds .any e = true → e.on ≠ i := fun e he hb heq => by
    have h1 := hall e he hb
    rw [heq, getD_both (mem_ready.1 hr).1] at h1
    cases h1
   obtain ⟨h1, h2, h3⟩ := Oper.apart_spec (hap j oj hoj e hun hno)
   obtain ⟨oj', u, hoj', hyj, hS⟩ := H.2 j (ready_mono hj e) hjn
   obtain rfl : oj' = oj := Option.some.inj (hoj'.symm.trans hoj)
   refine ⟨oj', u, hoj, hyj.same (execOp_put oj' (fun cs b => hsel j oj' cs b hoj) a oi.dst v h1).symm, ?_⟩
   refine ih _ _ (fun k ok hk hki hku hkn => hap k ok hk hki ?_ hkn) (ready_mono hr (Ne.symm e)) (hy.same (execOp_put oi (fun cs b => hsel i oi cs b hoi) a oj'.dst u h3)) ?_
   ·by_cases hjk : j = k
    ·rw [← hjk]; exact hun
    ·rwa [getD_set_ne true hjk] at hku
   ·rw [Array.setIfInBounds_comm _ _ e, ← Act.put_comm a v u h2]
    exact hS
def LexP (P : Program) (S : World → Prop) (W : World) (p : Nat) (K : Act → Prop) : Nat → List Oper → Act → Prop
 | _, [], a => K a
 | k, o :: l, a => ∃ v, Yp P S W p k o v a ∧ LexP P S W p K (k + 1) l (a.put o.dst v)
theorem StillP.lex {K : Act → Prop} {B : Array Bool → Bool} (hsel : Region.noSelect ops = true) (l : List Oper) : ∀ (k : Nat) (listed : Array Bool) (a : Act), (∀ j, j < l.length → l[j]? = ops[k + j]?) → k + l.length = n → n ≤ listed.size → (∀ j, j < k → listed.getD j false = true) →
  lexF ops B l.length k listed = true → LexP P S W p K k l a → StillP P S ops n p W (fun listed' a' => B listed' = true ∧ K a') l.length listed a := by
 induction l with
 | nil =>
  intro k listed a _ hk _ hall hB h
  have e : k = n := by simpa using hk
  subst e
  exact ⟨hall, hB, h⟩
 | cons o l ih =>
  intro k listed a hl hk hsz hall hB h
  have ho : ops[k]? = some o := by simpa using (hl 0 (by simp)).symm
  simp only [List.length_cons, lexF, Bool.and_eq_true] at hB hk
  obtain ⟨v, hy, hK⟩ := h
  refine StillP.first (Region.noSelect_spec hsel) ho (by omega) l.length listed a (Region.free_spec ho hB.1.2) (by simpa using hB.1.1) hy ?_
  refine ih (k + 1) _ _ (fun j hj => by have := hl (j + 1) (by simp; omega); simpa [Nat.add_assoc, Nat.add_comm 1 j] using this) (by omega) (by simpa using hsz) (fun j hj => ?_) hB.2 hK
  by_cases e : k = j
  ·subst e
   simp [Array.getD_eq_getD_getElem?, show k < listed.size by omega]
  ·rw [getD_set_ne false e]
   exact hall j (by omega)
theorem StillP.end2 {K : Array Bool → Act → Prop} {Q : Exit → Act → World → Prop} {g : Nat} (hwt : (List.range n).all (fun i => !Region.waitsFor .any ops i n) = true) (hs : Region.sinkB .any ops (n + 1) = true) (hc : Region.chainB .any ops (n + 1) = true) (hn : n + 1 < ops.size) (w : World) (hSw : S w) (f : Nat) :
  ∀ listed a, n < listed.size → (∀ j, j < p → j < n → listed.getD j false = true) → HeadInv .any ops (n + 1) (listed.setIfInBounds n true) → (∀ l0 a0, K l0 a0 → wpAny P .any ops Q g (l0.setIfInBounds n true) a0 w) → StillP P S ops n p W K f listed a → wpAny P .any ops Q (g + f) (listed.setIfInBounds n true) a w := by
 induction f with
 | zero => intro listed a _ _ _ hK H; exact hK _ _ H.2
 | succ f ih =>
  intro listed a hsz hp inv hK H
  obtain ⟨⟨i0, hi0, hi0n⟩, H2⟩ := H
  refine ⟨fun h0 => (by have := ready_mono hi0 (show i0 ≠ n by omega); rw [h0] at this; cases this), fun i hi => ?_⟩
  have hun0 : (listed.setIfInBounds n true).getD i0 true = false := (mem_ready.1 (ready_mono hi0 (show i0 ≠ n by omega))).1
  have hi1 := ready_lt hs hc hn inv hun0 (by omega) hi
  have hin : i < n := by
   rcases Nat.lt_or_ge i n with h | h
   ·exact h
   ·obtain rfl : i = n := by omega
    have := (mem_ready.1 hi).1
    simp [Array.getD_eq_getD_getElem?, hsz] at this
  have hi' := ready_without hwt hi hin
  obtain ⟨oi, v, hoi, hy, hS⟩ := H2 i hi' hin
  have hip : ¬ i < p := fun h => by
   have h1 := hp i h hin
   rw [getD_both (mem_ready.1 hi').1] at h1; cases h1
  unfold Yp at hy
  rw [if_neg hip] at hy
  unfold wpOp
  simp only [hoi]
  rw [if_pos (by simp [Region.wanted, hy.1])]
  refine .inl ?_
  unfold Oper.wp
  rw [hy.2 w hSw]
  show wpAny _ _ _ _ _ ((listed.setIfInBounds n true).setIfInBounds i true) _ w
  rw [Array.setIfInBounds_comm _ _ (by omega : n ≠ i)]
  refine ih _ _ (by simpa using hsz) (fun j hj hjn => ?_) ?_ hK hS
  ·by_cases e : i = j
   ·subst e; exact absurd hj hip
   ·rw [getD_set_ne false e]; exact hp j hj hjn
  ·rw [← Array.setIfInBounds_comm _ _ (by omega : n ≠ i)]
   exact inv.set hi hi1
theorem StillP.back {K : Array Bool → Act → Prop} (hsel : Region.noSelect ops = true) {os : Oper} (hos : ops[n]? = some os) (hap : (List.range n).all (fun j => Region.waitsFor .any ops n j || match ops[j]? with | some oj => oj.apart ops os | none => true) = true) (f : Nat) :
  ∀ listed a, (∀ j, j < n → listed.getD j true = false → Region.waitsFor .any ops n j = false) → StillP P S ops n p W K f listed a → ∃ l0 a0, K l0 a0 ∧ execOp a.eval os = execOp a0.eval os := by
 induction f with
 | zero => intro listed a _ H; exact ⟨listed, a, H.2, rfl⟩
 | succ f ih =>
  intro listed a hun H
  obtain ⟨⟨i, hi, hin⟩, H2⟩ := H
  obtain ⟨oi, v, hoi, hy, hS⟩ := H2 i hi hin
  have h1 := hun i hin (mem_ready.1 hi).1
  have h2 := List.all_eq_true.1 hap i (List.mem_range.2 hin)
  simp only [h1, hoi, Bool.false_or] at h2
  obtain ⟨x1, x2, x3⟩ := Oper.apart_spec h2
  obtain ⟨l0, a0, hk, he⟩ := ih _ _ (fun j hj hju => by
   by_cases e : i = j
   ·subst e; exact h1
   ·rw [getD_set_ne true e] at hju; exact hun j hj hju) hS
  exact ⟨l0, a0, hk, by rw [← he, execOp_put os (fun cs b => Region.noSelect_spec hsel n os cs b hos) a oi.dst v x1]⟩
theorem StillP.end1 {K : Array Bool → Act → Prop} {R : World → Prop} {Q : Exit → Act → World → Prop} {g : Nat} (hsel : Region.noSelect ops = true) (hg : ∀ (i : Nat) (o : Oper), ops[i]? = some o → o.guard = none) (hwt : (List.range n).all (fun i => !Region.waitsFor .any ops i n) = true) (hs : Region.sinkB .any ops (n + 1) = true) (hc : Region.chainB .any ops (n + 1) = true) (hn : n + 1 < ops.size)
  (hpw : (List.range n).all (fun j => decide (p ≤ j) || (Region.waitsFor .any ops n j || (List.range n).any fun k => Region.waitsFor .any ops n k && Region.waitsFor .any ops k j)) = true) {os : Oper} (hos : ops[n]? = some os) (hdst : os.dst = none) (haf : os.after.all (fun e => !Region.binds .any e || decide (e.on < n)) = true) (hap : (List.range n).all (fun j => Region.waitsFor .any ops n j || match ops[j]? with | some oj => oj.apart ops os | none => true) = true)
  (hR : ∀ w w', R w → Below w.heap.size w w' → R w') (st : World → World) (hSW : ∀ w, Below W.heap.size W w → S w) (hSst : ∀ w, Below W.heap.size W w → R w → S (st w))
  (hst : ∀ l0 a0, K l0 a0 → ∀ w, Below W.heap.size W w → R w → (execOp a0.eval os).run P w = .ok .skip (st w))
  (hK : ∀ l0 a0, K l0 a0 → ∀ w, Below W.heap.size W w → R w → wpAny P .any ops Q g (l0.setIfInBounds n true) a0 (st w)) (f : Nat) :
  ∀ listed a, HeadInv .any ops (n + 1) listed → listed.getD n true = false → StillP P S ops n p W K f listed a → ∀ w, Below W.heap.size W w → R w → (f = 0 → n ∈ Region.ready .any ops listed) → wpAny P .any ops Q (g + f + 1) listed a w := by
 have hstore : ∀ f listed a, HeadInv .any ops (n + 1) listed → listed.getD n true = false → n ∈ Region.ready .any ops listed → StillP P S ops n p W K f listed a → ∀ w, Below W.heap.size W w → R w → wpOp P ops Q n (wpAny P .any ops Q (g + f) (listed.setIfInBounds n true)) a w := by
  intro f listed a inv hln hnr H w hw hr
  have hw1 : ∀ j, j < n → listed.getD j true = false → Region.waitsFor .any ops n j = false := fun j hj hju => by
   cases hwf : Region.waitsFor .any ops n j with
   | false => rfl
   | true =>
    obtain ⟨_, o', ho', hall⟩ := mem_ready.1 hnr
    obtain ⟨o2, ho2, e, he, hb, hon⟩ := Region.waitsFor_spec hwf
    obtain rfl : o2 = o' := Option.some.inj (ho2.symm.trans ho')
    have h2 := hall e he hb
    rw [hon, getD_both hju] at h2; cases h2
  obtain ⟨l0, a0, hk, he⟩ := StillP.back hsel hos hap f listed a hw1 H
  have hsz : n < listed.size := by
   rcases Nat.lt_or_ge n listed.size with h | h
   ·exact h
   ·simp [Array.getD_eq_getD_getElem?, Array.getElem?_eq_none h] at hln
  unfold wpOp
  simp only [hos]
  rw [if_pos (by simp [Region.wanted, hg n os hos])]
  refine .inl ?_
  unfold Oper.wp
  rw [he, hst l0 a0 hk w hw hr]
  show wpAny _ _ _ _ _ _ (a.put os.dst undef) (st w)
  rw [hdst]
  refine StillP.end2 (p := p) hwt hs hc hn (st w) (hSst w hw hr) f listed a hsz (fun j hj hjn => ?_) (inv.set hnr (by omega)) (fun l1 a1 h1 => hK l1 a1 h1 w hw hr) H
  have h1 := List.all_eq_true.1 hpw j (List.mem_range.2 hjn)
  simp only [Bool.or_eq_true, decide_eq_true_eq] at h1
  have hdone : ∀ k, k < n → Region.waitsFor .any ops n k = true → listed.getD k false = true := fun k hkn hwk => by
   cases hl : listed.getD k false with
   | true => rfl
   | false =>
    have := hw1 k hkn (getD_in (by omega) hl)
    rw [hwk] at this; cases this
  rcases h1 with h1 | h1 | h1
  ·omega
  ·exact hdone j hjn h1
  ·obtain ⟨k, hk, hkk⟩ := List.any_eq_true.1 h1
   simp only [Bool.and_eq_true] at hkk
   have hlk := hdone k (List.mem_range.1 hk) hkk.1
   obtain ⟨ok, hok, e, he, hb, hon⟩ := Region.waitsFor_spec hkk.2
   have h2 := inv.closed k ok hok hlk e he hb
   rwa [hon] at h2
 induction f with
 | zero =>
  intro listed a inv hln H w hw hr h0r
  have hnr := h0r rfl
  refine ⟨fun h0 => (by rw [h0] at hnr; cases hnr), fun i hi => ?_⟩
  have hi1 := ready_lt hs hc hn inv hln (by omega) hi
  have hin : i = n := by
   rcases Nat.lt_or_ge i n with h | h
   ·have h1 := H.1 i h
    rw [getD_both (mem_ready.1 hi).1] at h1; cases h1
   ·omega
  rw [hin]
  exact hstore 0 listed a inv hln hnr H w hw hr
 | succ f ih =>
  intro listed a inv hln H w hw hr _
  obtain ⟨⟨i0, hi0, hi0n⟩, H2⟩ := H
  refine ⟨fun h0 => (by rw [h0] at hi0; cases hi0), fun i hi => ?_⟩
  have hi1 := ready_lt hs hc hn inv hln (by omega) hi
  by_cases e : i = n
  ·subst e; exact hstore (f + 1) listed a inv hln hi ⟨⟨i0, hi0, hi0n⟩, H2⟩ w hw hr
  ·have hin : i < n := by omega
   obtain ⟨oi, v, hoi, hy, hS⟩ := H2 i hi hin
   have hyb := hy.yb hSW
   unfold wpOp
   simp only [hoi]
   rw [if_pos (by simp [Region.wanted, hyb.1])]
   refine .inl (hyb.wp hw fun w' hb => ?_)
   refine ih _ _ (inv.set hi hi1) (by rw [getD_set_ne true e]; exact hln) hS w' (hw.trans (hb.mono hw.size)) (hR w w' hr hb) (fun hf => ?_)
   subst hf
   refine mem_ready.2 ⟨by rw [getD_set_ne true e]; exact hln, os, hos, fun e' he' hb' => ?_⟩
   have h3 := Array.all_eq_true_iff_forall_mem.1 haf e' he'
   rw [hb'] at h3
   simp only [Bool.not_true, Bool.false_or, decide_eq_true_eq] at h3
   exact hS.1 _ h3
end
def storeRB (ops : Array Oper) (n p : Nat) : Bool :=
 Region.noSelect ops && decide (0 < n) && decide (n + 1 < ops.size) && ops.all (fun o => o.guard.isNone) && (List.range n).all (fun i => !Region.waitsFor .any ops i n) && Region.sinkB .any ops (n + 1) && Region.chainB .any ops (n + 1) && (List.range n).all (fun j => decide (p ≤ j) || (Region.waitsFor .any ops n j || (List.range n).any fun k => Region.waitsFor .any ops n k && Region.waitsFor .any ops k j)) &&
 (match ops[n]? with | some os => os.dst.isNone && os.after.all (fun e => !Region.binds .any e || decide (e.on < n)) && (List.range n).all (fun j => Region.waitsFor .any ops n j || match ops[j]? with | some oj => oj.apart ops os | none => true) | none => false) &&
 lexF ops (fun listed => Region.seqB .any ops (ops.size - (n + 1)) (n + 1) (listed.setIfInBounds n true)) n 0 (Array.replicate ops.size false)
theorem wp_region_store {P : Program} {S : World → Prop} {id : Nat} {Q : Exit → Act → World → Prop} {a : Act} {w : World} {l : List Oper} {R : World → Prop} (n p : Nat) (hm : P.follows .mixedOrders = true) (hB : storeRB l.toArray n p = true) (os : Oper) (hos : l[n]? = some os)
  (hR : ∀ w w', R w → Below w.heap.size w w' → R w') (hR0 : R { w with drawn := w.drawn + 1 }) (st : World → World) (hSW : ∀ w1, Below w.heap.size w w1 → S w1) (hSst : ∀ w1, Below w.heap.size w w1 → R w1 → S (st w1))
  (h : LexP P S w p (fun a' => ∀ w', Below w.heap.size w w' → R w' → (execOp a'.eval os).run P w' = .ok .skip (st w') ∧ wpList P l.toArray Q (l.drop (n + 1)) a' (st w')) 0 (l.take n) a) : (Code.region id l.toArray true).wp P Q a w := by
 simp only [storeRB, Bool.and_eq_true, decide_eq_true_eq] at hB
 obtain ⟨⟨⟨⟨⟨⟨⟨⟨⟨hsel, hn0⟩, hn⟩, hgd⟩, hwt⟩, hs⟩, hc⟩, hpw⟩, hss⟩, hlex⟩ := hB
 have hos' : l.toArray[n]? = some os := by simpa using hos
 simp only [hos', Bool.and_eq_true] at hss
 have hn' : n + 1 < l.length := by simpa using hn
 have htl : (l.take n).length = n := by simp; omega
 have hdl : (l.drop (n + 1)).length = l.toArray.size - (n + 1) := by simp
 have inv0 : HeadInv .any l.toArray (n + 1) (Array.replicate l.toArray.size false) :=
  ⟨by simp, fun j oj _ hl => (by rw [getD_replicate_false] at hl; cases hl), fun t _ ht => getD_in (by simpa using ht) (getD_replicate_false _ _)⟩
 have hguard : ∀ (i : Nat) (o : Oper), l.toArray[i]? = some o → o.guard = none := fun i o ho => by
  have h1 := Array.all_eq_true_iff_forall_mem.1 hgd o (Array.mem_of_getElem? ho)
  simpa using h1
 have hS := StillP.lex (P := P) (S := S) (W := w) (n := n) (p := p) hsel (l.take n) 0 (Array.replicate l.toArray.size false) a (fun j hj => by rw [htl] at hj; simp [hj]) (by rw [htl]; simp) (by simp; omega) (fun j hj => absurd hj (by omega)) (by rw [htl]; exact hlex) h
 rw [htl] at hS
 refine wp_region_any hm ?_
 have := StillP.end1 (P := P) (S := S) (W := w) (R := R) (Q := Q) (g := l.toArray.size - (n + 1)) hsel hguard hwt hs hc hn hpw hos' (by simpa using hss.1.1) hss.1.2 hss.2 hR st hSW hSst (fun l0 a0 hk w1 hw1 hr1 => (hk.2 w1 hw1 hr1).1)
  (fun l0 a0 hk w1 hw1 hr1 => by
   have := wpAny_of_seq (md := .any) (Q' := Q) (l.drop (n + 1)) (n + 1) (l0.setIfInBounds n true) a0 (st w1) (fun j => by simp [List.getElem?_drop]) (by rw [hdl]; exact hk.1) (hk.2 w1 hw1 hr1).2
   rwa [hdl] at this) n _ a inv0 (getD_in (by simp; omega) (getD_replicate_false _ _)) hS { w with drawn := w.drawn + 1 } ⟨rfl, rfl, rfl, Nat.le_refl _, fun _ _ => rfl⟩ hR0 (fun h0 => by omega)
 rwa [show l.toArray.size - (n + 1) + n + 1 = l.toArray.size by omega] at this
section
variable {P : Program} {S : World → Prop} {W : World} {K : Act → Prop} {l : List Oper} {o : Oper} {a : Act} {p k : Nat}
theorem p_nil (h : K a) : LexP P S W p K k [] a := h
theorem p_t (hk : ¬ k < p) (hg : o.guard = none) (v : Value) (hv : ∀ w', S w' → (execOp a.eval o).run P w' = .ok (.value v) w') (h : LexP P S W p K (k + 1) l (a.put o.dst v)) : LexP P S W p K k (o :: l) a := ⟨v, by unfold Yp; rw [if_neg hk]; exact ⟨hg, hv⟩, h⟩
theorem p_lex (r : List Oper) : ∀ (l : List Oper) (k : Nat) (a : Act), k + l.length = p → Lex P W (fun a' => LexP P S W p K p r a') l a → LexP P S W p K k (l ++ r) a := by
 intro l
 induction l with
 | nil => intro k a hk h; simp at hk; subst hk; exact h
 | cons o l ih =>
  intro k a hk h
  obtain ⟨v, hy, hl⟩ := h
  simp only [List.length_cons] at hk
  exact ⟨v, by unfold Yp; rw [if_pos (by omega)]; exact hy, ih (k + 1) _ (by omega) hl⟩
end
theorem wp_store {P : Program} (S : World → Prop) {id : Nat} {Q : Exit → Act → World → Prop} {a : Act} {w : World} {l : List Oper} (n p : Nat) (hm : P.follows .mixedOrders = true) (hB : storeRB l.toArray n p = true) (hp : p ≤ n) (hnl : n ≤ l.length) (os : Oper) (hos : l[n]? = some os) (T : TypeId) (x y : Operand) (hs : os.op = .store T x y) (r : Nat) (old cs : Array Value) (hr : w.heap[r]? = some (.cells old T (0, 0)))
  (hi : (P.info? T).map (·.size) = some cs.size) (hold : old.size = cs.size) (h1 : cs.all (·.oneCell') = true) (hSW : ∀ w1, Below w.heap.size w w1 → S w1) (hSst : ∀ w1, Below w.heap.size w w1 → S (w1.setRow r cs))
  (h : Lex P w (fun a' => LexP P S w p (fun a'' => a''.eval x = .pointer (some ⟨r, 0, none⟩) ∧ a''.eval y = .agg cs ∧ ∀ w', Below w.heap.size w w' → wpList P l.toArray Q (l.drop (n + 1)) a'' (w'.setRow r cs)) p ((l.take n).drop p) a') ((l.take n).take p) a) : (Code.region id l.toArray true).wp P Q a w := by
 have hlt : r < w.heap.size := (Array.getElem?_eq_some_iff.1 hr).1
 refine wp_region_store (R := fun w' => w'.heap[r]? = some (.cells old T (0, 0))) n p hm hB os hos (fun w1 w2 h1 h12 => (h12.block r (Array.getElem?_eq_some_iff.1 h1).1).trans h1) hr (fun w' => w'.setRow r cs) hSW (fun w1 h1 _ => hSst w1 h1) ?_
 have h2 := p_lex (P := P) (S := S) (W := w) (p := p) (K := fun a'' => a''.eval x = .pointer (some ⟨r, 0, none⟩) ∧ a''.eval y = .agg cs ∧ ∀ w', Below w.heap.size w w' → wpList P l.toArray Q (l.drop (n + 1)) a'' (w'.setRow r cs)) ((l.take n).drop p) ((l.take n).take p) 0 a (by simp; omega) h
 rw [List.take_append_drop] at h2
 have hmono : ∀ (l' : List Oper) (k : Nat) (a : Act) (K K' : Act → Prop), (∀ a, K a → K' a) → LexP P S w p K k l' a → LexP P S w p K' k l' a := by
  intro l'
  induction l' with
  | nil => intro k a K K' hk h; exact hk _ h
  | cons o l' ih => intro k a K K' hk ⟨v, hy, hl⟩; exact ⟨v, hy, ih _ _ K K' hk hl⟩
 refine hmono _ _ _ _ _ (fun a' ⟨hx, hy, ht⟩ w' hw' hr' => ⟨?_, ht w' hw'⟩) h2
 unfold execOp
 simp only [hs, hx, hy, Instr.storeAt, Instr.sureAddr, Sem.run_bind, Sem.run_pure, Result.andThen_ok, run_storeVar_row w' r T T old cs hr' hi hold h1]
end Qu
end Go.Proofs.YtbojijefenfbgaaGreatDoor
namespace Go.Proofs.YtbojijefenfbgaaGreatDoor
open Go.RowKit
namespace Dc
open Bt Ed
theorem dg_zero (a : Int) : dg a 0 = a % 65536 := by
 unfold dg
 rw [Int.pow_zero, Int.ediv_one]
theorem dg_succ (a : Int) (j : Nat) : dg a (j + 1) = dg (a / 65536) j := by
 unfold dg
 rw [Int.pow_succ, Int.mul_comm, Int.ediv_ediv_of_nonneg (by decide)]
theorem dg_inj (k : Nat) : ∀ a b : Int, 0 ≤ a → a < 65536 ^ k → 0 ≤ b → b < 65536 ^ k → (∀ j, j < k → dg a j = dg b j) → a = b := by
 induction k with
 | zero =>
  intro a b h0 h1 h2 h3 _
  rw [Int.pow_zero] at h1 h3
  omega
 | succ k ih =>
  intro a b h0 h1 h2 h3 h
  rw [Int.pow_succ] at h1 h3
  have e0 := h 0 (by omega)
  rw [dg_zero, dg_zero] at e0
  have e1 := ih (a / 65536) (b / 65536) (by omega) (by omega) (by omega) (by omega) fun j hj => by
   rw [← dg_succ, ← dg_succ]
   exact h (j + 1) (by omega)
  omega
theorem eq_ints (w : World) (xs ys : Array Value) (f g : Nat → Int) (l : List Nat) (hx : ∀ i ∈ l, xs[i]? = some (.int .i64 (f i))) (hy : ∀ i ∈ l, ys[i]? = some (.int .i64 (g i))) :
  (Op.eqItems 9999 3 1 xs ys l).run Tryz.prog w = .ok (l.all fun i => decide (f i = g i)) w := by
 induction l with
 | nil => simp [Op.eqItems]
 | cons i l ih =>
  have ih := ih (fun j hj => hx j (by simp [hj])) (fun j hj => hy j (by simp [hj]))
  have e1 := run_part_plain (P := Tryz.prog) w (e := 3) (by kernel_rfl) (hx i (by simp))
  have e2 := run_part_plain (P := Tryz.prog) w (e := 3) (by kernel_rfl) (hy i (by simp))
  have e3 := run_equalIn_int (P := Tryz.prog) (w := w) 9998 3 .i64 .i64 (f i) (g i) Tryz.underlying3
  simp only [Op.eqItems, Nat.mul_one, Sem.run_bind, e1, e2, e3, Result.andThen_ok]
  by_cases h : f i = g i
  ·have hb : (f i == g i) = true := by rw [h]; simp
   rw [hb]
   simp only [Bool.not_true, Bool.false_eq_true, if_false, ih, List.all_cons, h, decide_true, Bool.true_and]
  ·have hb : (f i == g i) = false := by
    rw [beq_eq_false_iff_ne]
    exact h
   rw [hb]
   simp [h]
theorem eq_num (f g : Nat → Int) (w : World) : Sem.run Tryz.prog (Op.equalIn 10000 95 (.agg (num f)) (.agg (num g))) w = .ok ((List.range 16).all fun i => decide (f i = g i)) w := by
 obtain ⟨i, hi⟩ := Option.isSome_iff_exists.1 (show (Tryz.prog.info? 3).isSome = true by kernel_rfl)
 have h1 := run_equalIn_array (P := Tryz.prog) w 9999 (t := 95) (e := 3) (n := 16) (num f) (num g) Tryz.underlying95 hi
 rw [h1, show Tryz.prog.cellsOf 3 = 1 by kernel_rfl]
 exact eq_ints w _ _ f g _ (fun i h => Own.mkRow_get (List.mem_range.1 h)) (fun i h => Own.mkRow_get (List.mem_range.1 h))
theorem eq_d (x y : F) (w : World) : Sem.run Tryz.prog (Op.equalIn 10000 95 (.agg (rn x)) (.agg (rn y))) w = .ok (decide (x = y)) w := by
 rw [rn_def, rn_def]
 refine (eq_num _ _ w).trans ?_
 congr 1
 by_cases h : x = y
 ·subst h
  simp
 ·rw [decide_eq_false h, Bool.eq_false_iff]
  intro ha
  rw [List.all_eq_true] at ha
  have hP : ∀ z : F, (z.val : Int) < 65536 ^ 16 := fun z => Int.lt_trans (Int.ofNat_lt.2 z.isLt) (of_decide_eq_true (by kernel_rfl))
  have e := dg_inj 16 (x.val : Int) (y.val : Int) (Int.natCast_nonneg _) (hP x) (Int.natCast_nonneg _) (hP y) fun j hj => of_decide_eq_true (ha j (List.mem_range.2 hj))
  exact h (Fin.ext (Int.ofNat_inj.1 e))
theorem row_other {w : World} {b c : Nat} {X : Option Obj} (h : w.heap[b]? = X) (hne : b ≠ c) (cs : Array Value) : (w.setRow c cs).heap[b]? = X := by
 rw [← h]
 show (Array.modify _ _ _)[b]? = _
 rw [Array.getElem?_modify, if_neg (Ne.symm hne)]
theorem p_r {S : World → Prop} {W : World} {K : Act → Prop} {l : List Oper} {o : Oper} {a : Act} {p k : Nat} (hk : ¬ k < p) (hg : o.guard = none) (x : Operand) (ho : o.op = .load 95 x) (b : Nat) (v : F) (hx : a.eval x = .pointer (some ⟨b, 0, none⟩)) (hS : ∀ w', S w' → RAt w' b v)
  (h : Qu.LexP Tryz.prog S W p K (k + 1) l (a.put o.dst (.agg (rn v)))) : Qu.LexP Tryz.prog S W p K k (o :: l) a := by
 refine Qu.p_t hk hg (.agg (rn v)) (fun w' hw' => ?_) h
 unfold execOp
 simp only [ho, hx, Instr.loadAt, Instr.sureAddr, Sem.run_bind, Sem.run_pure, Result.andThen_ok, run_loadVar_row (P := Tryz.prog) w' b 95 95 (rn v) (0, 0) _ (hS w' hw') Tryz.underlying95 rfl (by rw [rn_size]; kernel_rfl)]
theorem ret_rb {fn : Func} {p q : Tmp} (h : fn.results = #[.cell p 95, .tmp q]) {post : Ending → World → Prop} {a : Act} {w : World} (hd : a.defers = []) (g : Nat) (v : F) (b : Bool) (hp : a.tmps.getD p undef = .pointer (some ⟨g, 0, none⟩)) (hq : a.tmps.getD q undef = .bool b) (hg : RAt w g v) (hpost : post (.returned (.tuple #[.agg (rn v), .bool b])) w) :
  bodyPost Tryz.prog fn post .ret a w := by
 refine bodyPost_ret (v := .tuple #[.agg (rn v), .bool b]) ?_ hd hpost
 have hl := run_loadVar_row (P := Tryz.prog) w g 95 95 (rn v) (0, 0) _ hg Tryz.underlying95 rfl (by rw [rn_size]; kernel_rfl)
 have hp' : a.tmps[p]?.getD undef = .pointer (some ⟨g, 0, none⟩) := by simpa using hp
 have hq' : a.tmps[q]?.getD undef = .bool b := by simpa using hq
 simp [results, h, hp', hq', asAddr, hl]
attribute [local go_sem] eq_d
set_option maxRecDepth 100000 in
set_option maxHeartbeats 400000 in
theorem root_d (x : F) (w : World) : Calls Tryz.prog 95 #[.agg (rn x)] w fun e w' => e = .returned (.tuple #[.agg (rn (rootR x).1), .bool (rootR x).2]) ∧ Below w.heap.size w w' := by
 have Hdv : Hid (∀ w, Calls Tryz.prog 165 #[.int .i64 3, .int .i64 3] w fun e w' => e = .returned (.agg (nm ((7237005577332262213973186563042994240829374041602535252466099000494570602494 : Nat) : Int))) ∧ Below w.heap.size w w') := divided_i 3 3 (by decide) (by decide) (by decide)
 have Hdw : Hid (∀ w, Calls Tryz.prog 165 #[.int .i64 (-1), .int .i64 2] w fun e w' => e = .returned (.agg (nm ((14474011154664524427946373126085988481658748083205070504932198000989141204987 : Nat) : Int))) ∧ Below w.heap.size w w') := divided_i (-1) 2 (by decide) (by decide) (by decide)
 obtain ⟨r, hr⟩ : ∃ r, r = rt x := ⟨_, rfl⟩
 obtain ⟨i, hi⟩ : ∃ i, i = i2 := ⟨_, rfl⟩
 have Hp1 : Hid (∀ w, Calls Tryz.prog 164 #[.agg (rn x), .agg (nm ((7237005577332262213973186563042994240829374041602535252466099000494570602494 : Nat) : Int))] w fun e w' => e = .returned (.agg (rn r)) ∧ Below w.heap.size w w') := by
  rw [hr]
  exact power_d x 7237005577332262213973186563042994240829374041602535252466099000494570602494 (by decide)
 have Hp2 : Hid (∀ w, Calls Tryz.prog 164 #[.agg (rn 2), .agg (nm ((14474011154664524427946373126085988481658748083205070504932198000989141204987 : Nat) : Int))] w fun e w' => e = .returned (.agg (rn i)) ∧ Below w.heap.size w w') := by
  rw [hi]
  exact power_d 2 14474011154664524427946373126085988481658748083205070504932198000989141204987 (by decide)
 have Hs2 : Hid (∀ w, Calls Tryz.prog 43 #[.int .i64 2] w fun e w' => e = .returned (.agg (rn 2)) ∧ Below w.heap.size w w') := small_d 2 (by decide)
 have HG : Hid (rootR x = rootRG x r i) := by
  rw [hr, hi]
  exact rfl
 clear hr hi
 obtain ⟨E1, hE1⟩ : ∃ E, E = nm ((7237005577332262213973186563042994240829374041602535252466099000494570602494 : Nat) : Int) := ⟨_, rfl⟩
 rw [← hE1] at Hdv Hp1
 obtain ⟨E2, hE2⟩ : ∃ E, E = nm ((14474011154664524427946373126085988481658748083205070504932198000989141204987 : Nat) : Int) := ⟨_, rfl⟩
 rw [← hE2] at Hdw Hp2
 clear hE1 hE2
 obtain ⟨two, ht⟩ : ∃ t, t = (2 : F) := ⟨_, rfl⟩
 rw [← ht] at Hp2 Hs2
 clear ht
 go_enter Tryz.func95, Tryz.ntmps95
 go_wp2_with (refine l_alloc _ rfl rfl ?_)
 generalize hw0 : World.alloc (World.alloc _ _) _ = w0
 have h0 := al2 hw0
 have HA0 : Hid (RAt w0 w.heap.size x) := h0.1
 have HR0 : Hid _ := h0.2.1
 have HB0 : Hid _ := h0.2.2
 clear hw0 h0
 refine Qt.wp_let 3 (by kernel_rfl) (by kernel_rfl) _ rfl 95 rfl (num fun _ => 0) (by kernel_rfl) ?_
 refine y_r rfl _ rfl w.heap.size x rfl HA0.out ?_
 refine Qt.y_call rfl 165 #[.int .i64 3, .int .i64 3] (.agg E1) (fun _ => by kernel_rfl) (fun w' _ => Hdv.out w') ?_
 simp only [Act.put, zA, zB, zC]
 refine Qt.y_call rfl 164 #[.agg (rn x), .agg E1] (.agg (rn r)) (fun _ => by kernel_rfl) (fun w' _ => Hp1.out w') ?_
 simp only [Act.put, zA, zB, zC]
 refine Qt.y_nil ?_
 intro bx w1 hw1 hle hb
 refine l_let rfl rfl bx r rfl rfl hw1 hle hb ?_
 intro w1 hW hb2
 have HA1 : Hid (RAt w1 w.heap.size x) := HA0.out.below hb2 HA0.out.lt
 have HR1 : Hid (w1.heap[w.heap.size + 1]? = _) := (hb2.block _ (Array.getElem?_eq_some_iff.1 HR0.out).1).trans HR0.out
 have HX1 : Hid (RAt w1 bx r) := hW
 have HB1 : Hid (Below w.heap.size w w1) := HB0.out.trans (hb2.mono HB0.out.size)
 have Hbx : Hid (w.heap.size + 1 < bx) := Nat.lt_of_lt_of_le (Array.getElem?_eq_some_iff.1 HR0.out).1 hle
 clear hW hb2 hw1 hle hb HA0 HR0 HB0 Hdv Hp1
 simp only [Act.put, zA, zB, zC]
 go_wp2_with fail
 refine Qt.wp_all (by kernel_rfl) (by kernel_rfl) ?_
 refine y_r rfl _ rfl bx r rfl HX1.out ?_
 refine y_r rfl _ rfl bx r rfl HX1.out ?_
 refine Qt.y_call rfl 93 #[.agg (rn r), .agg (rn r)] (.agg (rn (r * r))) (fun _ => by kernel_rfl) (fun w' _ => mul_d r r w') ?_
 simp only [Act.put, zA, zB, zC]
 refine y_r rfl _ rfl w.heap.size x rfl HA1.out ?_
 simp only [Act.put, zA, zB, zC]
 refine Qt.y_val rfl (.bool (decide (r * r = x))) (fun w' _ => by go_simp) ?_
 simp only [Act.put, zA, zB, zC]
 refine Qt.y_nil ?_
 intro w2 hb2
 have HA2 : Hid (RAt w2 w.heap.size x) := HA1.out.below hb2 HA1.out.lt
 have HR2 : Hid (w2.heap[w.heap.size + 1]? = _) := (hb2.block _ (Array.getElem?_eq_some_iff.1 HR1.out).1).trans HR1.out
 have HX2 : Hid (RAt w2 bx r) := HX1.out.below hb2 HX1.out.lt
 have HB2 : Hid (Below w.heap.size w w2) := HB1.out.trans (hb2.mono HB1.out.size)
 clear hb2 HA1 HR1 HX1 HB1
 by_cases h1 : r * r = x
 ·have e1 : Hid (rootRG x r i = (r, true)) := if_pos h1
  have d1 := decide_eq_true h1
  have H1 : Hid _ := h1
  clear h1
  go_wp2_with (first | refine load_r rfl _ rfl bx r rfl HX2.out ?_ | refine store_r rfl _ _ rfl (w.heap.size + 1) r _ (num_size _) rfl rfl HR2.out ?_)
  exact ret_rb Tryz.results95 rfl (w.heap.size + 1) r true rfl rfl (RAt.setRow HR2.out r) ⟨by rw [HG.out, e1.out], HB2.out.trans ((Fw.below_setRow _ _ _).mono (by omega))⟩
 ·have d1 := decide_eq_false h1
  have e1 : Hid (rootRG x r i = (r * i, decide (r * i * (r * i) = x))) := if_neg h1
  have H1 : Hid _ := h1
  clear h1
  go_wp2_with (first
   | (go_at_call 43; refine (Hs2.out _).mono ?_; rintro e w3 ⟨rfl, hb3⟩)
   | (go_at_call 165; refine (Hdw.out _).mono ?_; rintro e w4 ⟨rfl, hb4⟩)
   | (go_at_call 164; refine (Hp2.out _).mono ?_; rintro e w5 ⟨rfl, hb5⟩)
   | refine l_alloc _ rfl rfl ?_
   | (refine new_r' rfl _ _ rfl i rfl w5 _ rfl rfl ?_; generalize hw6 : w5.alloc (.cells (rn i) 95) = w6; have h6 := al1 hw6; have HI6 : Hid (RAt w6 w5.heap.size i) := h6.1; have hb6 := h6.2; have hb26 : Below w2.heap.size w2 w6 := ((hb3.trans (hb4.mono hb3.size)).trans (hb5.mono (Nat.le_trans hb3.size hb4.size))).trans (hb6.mono (Nat.le_trans (Nat.le_trans hb3.size hb4.size) hb5.size)); have HA6 : Hid (RAt w6 w.heap.size x) := HA2.out.below hb26 HA2.out.lt; have HR6 : Hid (w6.heap[w.heap.size + 1]? = _) := (hb26.block _ (Array.getElem?_eq_some_iff.1 HR2.out).1).trans HR2.out; have HX6 : Hid (RAt w6 bx r) := HX2.out.below hb26 HX2.out.lt; have HB6 : Hid (Below w.heap.size w w6) := HB2.out.trans (hb26.mono HB2.out.size); clear hw6 h6 hb6 hb26 hb3 hb4 hb5)
   | refine load_r rfl _ rfl bx r rfl HX6.out ?_
   | refine load_r rfl _ rfl w5.heap.size i rfl HI6.out ?_
   | (go_at_call 93; refine (mul_d r i _).mono ?_; rintro e w7 ⟨rfl, hb7⟩; have HA7 : Hid (RAt w7 w.heap.size x) := HA6.out.below hb7 HA6.out.lt; have HR7 : Hid (w7.heap[w.heap.size + 1]? = _) := (hb7.block _ (Array.getElem?_eq_some_iff.1 HR6.out).1).trans HR6.out; have HX7 : Hid (RAt w7 bx r) := HX6.out.below hb7 HX6.out.lt; have HB7 : Hid (Below w.heap.size w w7) := HB6.out.trans (hb7.mono HB6.out.size); clear hb7)
   | refine store_r rfl _ _ rfl bx (r * i) _ (rn_size _) rfl rfl HX7.out ?_)
  have HX8 : Hid (RAt (w7.setRow bx (rn (r * i))) bx (r * i)) := RAt.setRow HX7.out _
  have HA8 : Hid (RAt (w7.setRow bx (rn (r * i))) w.heap.size x) := HA7.out.other (by have := Hbx.out; omega) _
  have HR8 : Hid ((w7.setRow bx (rn (r * i))).heap[w.heap.size + 1]? = some (.cells (num fun _ => 0) 95 (0, 0))) := by
   exact row_other HR7.out (by have := Hbx.out; omega) _
  have HB8 : Hid (Below w.heap.size w (w7.setRow bx (rn (r * i)))) := HB7.out.trans ((Fw.below_setRow _ _ _).mono (by have := Hbx.out; omega))
  generalize w7.setRow bx (rn (r * i)) = w8 at *
  refine Qu.wp_store (fun w' => RAt w' w.heap.size x) 6 4 (by kernel_rfl) (by kernel_rfl) (by decide) (by decide) _ rfl 95 _ _ rfl (w.heap.size + 1) _ (rn (r * i)) HR8.out (by rw [rn_size]; kernel_rfl) (by rw [rn_size, num_size]) (rn_one _) (fun w1 h1 => HA8.out.below h1 HA8.out.lt) (fun w1 h1 => (HA8.out.below h1 HA8.out.lt).other (by omega) _) ?_
  refine y_r rfl _ rfl bx (r * i) rfl HX8.out ?_
  refine y_r rfl _ rfl bx (r * i) rfl HX8.out ?_
  refine y_r rfl _ rfl bx (r * i) rfl HX8.out ?_
  refine Qt.y_call rfl 93 #[.agg (rn (r * i)), .agg (rn (r * i))] (.agg (rn (r * i * (r * i)))) (fun _ => by kernel_rfl) (fun w' _ => mul_d (r * i) (r * i) w') ?_
  simp only [Act.put, zA, zB, zC]
  refine Qt.y_nil ?_
  refine p_r (by decide) rfl _ rfl w.heap.size x rfl (fun w' hS => hS) ?_
  simp only [Act.put, zA, zB, zC]
  refine Qu.p_t (by decide) rfl (.bool (decide (r * i * (r * i) = x))) (fun w' _ => by go_simp) ?_
  simp only [Act.put, zA, zB, zC]
  refine Qu.p_nil ?_
  refine ⟨rfl, rfl, ?_⟩
  intro w9 hb9
  have HR9 : Hid (w9.heap[w.heap.size + 1]? = _) := (hb9.block _ (Array.getElem?_eq_some_iff.1 HR8.out).1).trans HR8.out
  have HB9 : Hid (Below w.heap.size w w9) := HB8.out.trans (hb9.mono HB8.out.size)
  clear hb9
  go_wp2_with fail
  exact ret_rb Tryz.results95 rfl (w.heap.size + 1) (r * i) (decide (r * i * (r * i) = x)) rfl rfl (RAt.setRow HR9.out _) ⟨by rw [HG.out, e1.out], HB9.out.trans ((Fw.below_setRow _ _ _).mono (by omega))⟩
end Dc
end Go.Proofs.YtbojijefenfbgaaGreatDoor
namespace Go.Proofs.YtbojijefenfbgaaGreatDoor
namespace Ed
def acrossRG (r : F × Bool) (odd : Bool) : F × Bool := if r.2 = false then (0, false) else if odd = true ∧ r.1 = 0 then (0, false) else if oddF r.1 = odd then (r.1, true) else (0 - r.1, true)
def acrossR (y : F) (odd : Bool) : F × Bool := acrossRG (rootR (uy y * inv (vy y))) odd
theorem odd_0 : oddF 0 = false := rfl
theorem not_bool {a b : Bool} (h : ¬ a = b) : (!a) = b := by
 cases a <;> cases b
 ·exact absurd rfl h
 ·rfl
 ·rfl
 ·exact absurd rfl h
theorem zero_neg : (0 : F) - 0 = 0 := rfl
theorem gen_quo (n : Nat) [NeZero n] (u v i s : Fin n) (hv : v * i = 1) (h : s = u * i) : v * s = u := by grind
theorem gen_quo2 (n : Nat) [NeZero n] (u v i s : Fin n) (hv : v * i = 1) (h : v * s = u) : s = u * i := by grind
theorem quo_iff {u v s : F} (hv : v ≠ 0) : s = u * inv v ↔ v * s = u := ⟨gen_quo P u v (inv v) s (mul_inv hv), gen_quo2 P u v (inv v) s (mul_inv hv)⟩
theorem acrossRG_true {r : F × Bool} {odd : Bool} (h : (acrossRG r odd).2 = true) : r.2 = true ∧ ((acrossRG r odd).1 = r.1 ∨ (acrossRG r odd).1 = 0 - r.1) ∧ oddF (acrossRG r odd).1 = odd := by
 unfold acrossRG at *
 by_cases h1 : r.2 = false
 ·rw [if_pos h1] at h; cases h
 ·rw [if_neg h1] at *
  have h1' : r.2 = true := by simpa using h1
  by_cases h2 : odd = true ∧ r.1 = 0
  ·rw [if_pos h2] at h; cases h
  ·rw [if_neg h2] at *
   by_cases h3 : oddF r.1 = odd
   ·rw [if_pos h3]
    exact ⟨h1', .inl rfl, h3⟩
   ·rw [if_neg h3]
    refine ⟨h1', .inr rfl, ?_⟩
    by_cases h0 : r.1 = 0
    ·exfalso
     cases odd with
     | true => exact h2 ⟨rfl, h0⟩
     | false =>
      rw [h0] at h3
      exact h3 odd_0
    ·exact (odd_neg h0).trans (not_bool h3)
theorem acrossRG_false {r : F × Bool} {odd : Bool} (h : (acrossRG r odd).2 = false) : r.2 = false ∨ odd = true ∧ r.1 = 0 := by
 unfold acrossRG at h
 by_cases h1 : r.2 = false
 ·exact .inl h1
 ·rw [if_neg h1] at h
  by_cases h2 : odd = true ∧ r.1 = 0
  ·exact .inr h2
  ·rw [if_neg h2] at h
   by_cases h3 : oddF r.1 = odd
   ·rw [if_pos h3] at h; cases h
   ·rw [if_neg h3] at h; cases h
theorem acrossR_true {y : F} {odd : Bool} (h : (acrossR y odd).2 = true) : OnP ((acrossR y odd).1, y) ∧ oddF (acrossR y odd).1 = odd := by
 obtain ⟨h1, h2, h3⟩ := acrossRG_true (r := rootR (uy y * inv (vy y))) h
 have hr := (quo_iff (vy_ne y)).1 (rootR_true h1)
 refine ⟨(on_iff _ _).2 ?_, h3⟩
 unfold acrossR
 rcases h2 with h2 | h2
 ·rw [h2]; exact hr
 ·rw [h2, gen_sqneg P]; exact hr
theorem acrossR_false {y : F} {odd : Bool} (h : (acrossR y odd).2 = false) (x : F) (hx : OnP (x, y)) : oddF x ≠ odd := by
 intro ho
 have hq := (quo_iff (vy_ne y)).2 ((on_iff _ _).1 hx)
 cases h1 : (rootR (uy y * inv (vy y))).2 with
 | false => exact rootR_false h1 x hq
 | true =>
  have hr := (on_iff _ _).2 ((quo_iff (vy_ne y)).1 (rootR_true h1))
  rcases acrossRG_false (r := rootR (uy y * inv (vy y))) h with h2 | h2
  ·rw [h1] at h2; cases h2
  ·rw [h2.2] at hr
   have hx0 : x = 0 := by
    rcases same_or_neg hx hr with h | h
    ·exact h
    ·exact h.trans zero_neg
   rw [hx0, h2.1] at ho
   exact absurd (odd_0.symm.trans ho) Bool.false_ne_true
end Ed
end Go.Proofs.YtbojijefenfbgaaGreatDoor

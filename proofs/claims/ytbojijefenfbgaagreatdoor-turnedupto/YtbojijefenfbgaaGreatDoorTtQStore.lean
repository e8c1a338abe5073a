/- A region 'return x, f(x)': a store that may come up before the last operations of the head, which ask nothing of the world. Walk of the program's curve: across. Walk of the program's curve: FromBytes. Walks of the program's wide numbers: mulAdd, Mul, Join. -/
import Derived.Test.YtbojijefenfbgaaGreatDoorTtWideB
set_option maxRecDepth 100000
namespace Go.Proofs.YtbojijefenfbgaaGreatDoor
open Go Go.RowKit
namespace Qt
def Yt (P : Program) (o : Oper) (v : Value) (a : Act) : Prop := o.guard = none ∧ ∀ w, (execOp a.eval o).run P w = .ok (.value v) w
theorem Yt.yb {P : Program} {W : World} {o : Oper} {v : Value} {a : Act} (h : Yt P o v a) : Yb P W o v a := ⟨h.1, fun w _ => by rw [h.2 w]; exact ⟨rfl, rfl⟩⟩
def Yp (P : Program) (W : World) (p i : Nat) (o : Oper) (v : Value) (a : Act) : Prop := if i < p then Yb P W o v a else Yt P o v a
theorem Yp.same {P : Program} {W : World} {p i : Nat} {o : Oper} {v : Value} {a a' : Act} (h : Yp P W p i o v a) (he : execOp a'.eval o = execOp a.eval o) : Yp P W p i o v a' := by
 unfold Yp at *
 split
 ·rename_i hi; rw [if_pos hi] at h; exact h.same he
 ·rename_i hi; rw [if_neg hi] at h; exact ⟨h.1, fun w => by rw [he]; exact h.2 w⟩
theorem Yp.yb {P : Program} {W : World} {p i : Nat} {o : Oper} {v : Value} {a : Act} (h : Yp P W p i o v a) : Yb P W o v a := by
 unfold Yp at h
 split at h
 ·exact h
 ·exact h.yb
section
variable {P : Program} {ops : Array Oper} {n p : Nat} {W : World}
def StillP (P : Program) (ops : Array Oper) (n p : Nat) (W : World) (K : Array Bool → Act → Prop) : Nat → Array Bool → Act → Prop
 | 0, listed, a => (∀ j, j < n → listed.getD j false = true) ∧ K listed a
 | f + 1, listed, a => (∃ i, i ∈ Region.ready .any ops listed ∧ i < n) ∧ ∀ i ∈ Region.ready .any ops listed, i < n → ∃ oi v, ops[i]? = some oi ∧ Yp P W p i oi v a ∧ StillP P ops n p W K f (listed.setIfInBounds i true) (a.put oi.dst v)
theorem StillP.first {K : Array Bool → Act → Prop} (hsel : ∀ (j : Nat) (o : Oper) cs b, ops[j]? = some o → o.op ≠ .select cs b) {i : Nat} {oi : Oper} {v : Value} (hoi : ops[i]? = some oi) (hin : i < n) (f : Nat) :
  ∀ listed a, (∀ j oj, ops[j]? = some oj → j ≠ i → listed.getD j true = false → (∀ e ∈ oj.after, Region.binds .any e = true → e.on ≠ i) → oi.apart ops oj = true) →
   i ∈ Region.ready .any ops listed → Yp P W p i oi v a → StillP P ops n p W K f (listed.setIfInBounds i true) (a.put oi.dst v) → StillP P ops n p W K (f + 1) listed a := by
 induction f with
 | zero =>
  intro listed a _ hr hy H
  refine ⟨⟨i, hr, hin⟩, fun j hj hjn => ?_⟩
  by_cases e : j = i
  ·subst e; exact ⟨oi, v, hoi, hy, H⟩
  ·have h1 := H.1 j hjn
   rw [getD_set_ne false (Ne.symm e), getD_both (mem_ready.1 hj).1] at h1
   cases h1
 | succ f ih =>
  intro listed a hap hr hy H
  refine ⟨⟨i, hr, hin⟩, fun j hj hjn => ?_⟩
  by_cases e : j = i
  ·subst e; exact ⟨oi, v, hoi, hy, H⟩
  ·obtain ⟨hun, oj, hoj, hall⟩ := mem_ready.1 hj
   have hno : ∀ e ∈ oj.after, Region.binds .any e = true → e.on ≠ i := fun e he hb heq => by
    have h1 := hall e he hb
    rw [heq, getD_both (mem_ready.1 hr).1] at h1
    cases h1
   obtain ⟨h1, h2, h3⟩ := Oper.apart_spec (hap j oj hoj e hun hno)
   obtain ⟨oj', u, hoj', hyj, hS⟩ := H.2 j (ready_mono hj e) hjn
   obtain rfl : oj' = oj := Option.some.inj (hoj'.symm.trans hoj)
   refine ⟨oj', u, hoj, hyj.same (execOp_put oj' (fun cs b => hsel j oj' cs b hoj) a oi.dst v h1).symm, ?_⟩
   refine ih _ _ (fun k ok hk hki hku hkn => hap k ok hk hki ?_ hkn) (ready_mono hr (Ne.symm e)) (hy.same (execOp_put oi (fun cs b => hsel i oi cs b hoi) a oj'.dst u h3)) ?_
   ·by_cases hjk : j = k
    ·rw [← hjk]; exact hun
    ·rwa [getD_set_ne true hjk] at hku
   ·rw [Array.setIfInBounds_comm _ _ e, ← Act.put_comm a v u h2]
    exact hS
def x5e (P : Program) (W : World) (p : Nat) (K : Act → Prop) : Nat → List Oper → Act → Prop
 | _, [], a => K a
 | k, o :: l, a => ∃ v, Yp P W p k o v a ∧ x5e P W p K (k + 1) l (a.put o.dst v)
theorem StillP.lex {K : Act → Prop} {B : Array Bool → Bool} (hsel : Region.noSelect ops = true) (l : List Oper) : ∀ (k : Nat) (listed : Array Bool) (a : Act), (∀ j, j < l.length → l[j]? = ops[k + j]?) → k + l.length = n → n ≤ listed.size → (∀ j, j < k → listed.getD j false = true) →
  lexF ops B l.length k listed = true → x5e P W p K k l a → StillP P ops n p W (fun listed' a' => B listed' = true ∧ K a') l.length listed a := by
 induction l with
 | nil =>
  intro k listed a _ hk _ hall hB h
  have e : k = n := by simpa using hk
  subst e
  exact ⟨hall, hB, h⟩
 | cons o l ih =>
  intro k listed a hl hk hsz hall hB h
  have ho : ops[k]? = some o := by simpa using (hl 0 (by simp)).symm
  simp only [List.length_cons, lexF, Bool.and_eq_true] at hB hk
  obtain ⟨v, hy, hK⟩ := h
  refine StillP.first (Region.noSelect_spec hsel) ho (by omega) l.length listed a (Region.free_spec ho hB.1.2) (by simpa using hB.1.1) hy ?_
  refine ih (k + 1) _ _ (fun j hj => by have := hl (j + 1) (by simp; omega); simpa [Nat.add_assoc, Nat.add_comm 1 j] using this) (by omega) (by simpa using hsz) (fun j hj => ?_) hB.2 hK
  by_cases e : k = j
  ·subst e
   simp [Array.getD_eq_getD_getElem?, show k < listed.size by omega]
  ·rw [getD_set_ne false e]
   exact hall j (by omega)
theorem StillP.k8r {K : Array Bool → Act → Prop} {Q : Exit → Act → World → Prop} {g : Nat} (hwt : (List.range n).all (fun i => !Region.waitsFor .any ops i n) = true) (hs : Region.sinkB .any ops (n + 1) = true) (hc : Region.chainB .any ops (n + 1) = true) (hn : n + 1 < ops.size) (w : World) (f : Nat) :
  ∀ listed a, n < listed.size → (∀ j, j < p → j < n → listed.getD j false = true) → HeadInv .any ops (n + 1) (listed.setIfInBounds n true) → (∀ l0 a0, K l0 a0 → wpAny P .any ops Q g (l0.setIfInBounds n true) a0 w) → StillP P ops n p W K f listed a → wpAny P .any ops Q (g + f) (listed.setIfInBounds n true) a w := by
 induction f with
 | zero => intro listed a _ _ _ hK H; exact hK _ _ H.2
 | succ f ih =>
  intro listed a hsz hp inv hK H
  obtain ⟨⟨i0, hi0, hi0n⟩, H2⟩ := H
  refine ⟨fun h0 => (by have := ready_mono hi0 (show i0 ≠ n by omega); rw [h0] at this; cases this), fun i hi => ?_⟩
  have hun0 : (listed.setIfInBounds n true).getD i0 true = false := (mem_ready.1 (ready_mono hi0 (show i0 ≠ n by omega))).1
  have hi1 := z6z hs hc hn inv hun0 (by omega) hi
  have hin : i < n := by
   rcases Nat.lt_or_ge i n with h | h
   ·exact h
   ·obtain rfl : i = n := by omega
    have := (mem_ready.1 hi).1
    simp [Array.getD_eq_getD_getElem?, hsz] at this
  have hi' := z8g hwt hi hin
  obtain ⟨oi, v, hoi, hy, hS⟩ := H2 i hi' hin
  have hip : ¬ i < p := fun h => by
   have h1 := hp i h hin
   rw [getD_both (mem_ready.1 hi').1] at h1; cases h1
  unfold Yp at hy
  rw [if_neg hip] at hy
  unfold wpOp
  simp only [hoi]
  rw [if_pos (by simp [Region.wanted, hy.1])]
  refine .inl ?_
  unfold Oper.wp
  rw [hy.2 w]
  show wpAny _ _ _ _ _ ((listed.setIfInBounds n true).setIfInBounds i true) _ w
  rw [Array.setIfInBounds_comm _ _ (by omega : n ≠ i)]
  refine ih _ _ (by simpa using hsz) (fun j hj hjn => ?_) ?_ hK hS
  ·by_cases e : i = j
   ·subst e; exact absurd hj hip
   ·rw [getD_set_ne false e]; exact hp j hj hjn
  ·rw [← Array.setIfInBounds_comm _ _ (by omega : n ≠ i)]
   exact inv.set hi hi1
theorem StillP.back {K : Array Bool → Act → Prop} (hsel : Region.noSelect ops = true) {os : Oper} (hos : ops[n]? = some os) (hap : (List.range n).all (fun j => Region.waitsFor .any ops n j || match ops[j]? with | some oj => oj.apart ops os | none => true) = true) (f : Nat) :
  ∀ listed a, (∀ j, j < n → listed.getD j true = false → Region.waitsFor .any ops n j = false) → StillP P ops n p W K f listed a → ∃ l0 a0, K l0 a0 ∧ execOp a.eval os = execOp a0.eval os := by
 induction f with
 | zero => intro listed a _ H; exact ⟨listed, a, H.2, rfl⟩
 | succ f ih =>
  intro listed a hun H
  obtain ⟨⟨i, hi, hin⟩, H2⟩ := H
  obtain ⟨oi, v, hoi, hy, hS⟩ := H2 i hi hin
  have h1 := hun i hin (mem_ready.1 hi).1
  have h2 := List.all_eq_true.1 hap i (List.mem_range.2 hin)
  simp only [h1, hoi, Bool.false_or] at h2
  obtain ⟨x1, x2, x3⟩ := Oper.apart_spec h2
  obtain ⟨l0, a0, hk, he⟩ := ih _ _ (fun j hj hju => by
   by_cases e : i = j
   ·subst e; exact h1
   ·rw [getD_set_ne true e] at hju; exact hun j hj hju) hS
  exact ⟨l0, a0, hk, by rw [← he, execOp_put os (fun cs b => Region.noSelect_spec hsel n os cs b hos) a oi.dst v x1]⟩
theorem StillP.k8q {K : Array Bool → Act → Prop} {R : World → Prop} {Q : Exit → Act → World → Prop} {g : Nat} (hsel : Region.noSelect ops = true) (hg : ∀ (i : Nat) (o : Oper), ops[i]? = some o → o.guard = none) (hwt : (List.range n).all (fun i => !Region.waitsFor .any ops i n) = true) (hs : Region.sinkB .any ops (n + 1) = true) (hc : Region.chainB .any ops (n + 1) = true) (hn : n + 1 < ops.size)
  (hpw : (List.range n).all (fun j => decide (p ≤ j) || (Region.waitsFor .any ops n j || (List.range n).any fun k => Region.waitsFor .any ops n k && Region.waitsFor .any ops k j)) = true) {os : Oper} (hos : ops[n]? = some os) (hdst : os.dst = none) (haf : os.after.all (fun e => !Region.binds .any e || decide (e.on < n)) = true) (hap : (List.range n).all (fun j => Region.waitsFor .any ops n j || match ops[j]? with | some oj => oj.apart ops os | none => true) = true)
  (hR : ∀ w w', R w → Below w.heap.size w w' → R w') (st : World → World)
  (hst : ∀ l0 a0, K l0 a0 → ∀ w, Below W.heap.size W w → R w → (execOp a0.eval os).run P w = .ok .skip (st w))
  (hK : ∀ l0 a0, K l0 a0 → ∀ w, Below W.heap.size W w → R w → wpAny P .any ops Q g (l0.setIfInBounds n true) a0 (st w)) (f : Nat) :
  ∀ listed a, HeadInv .any ops (n + 1) listed → listed.getD n true = false → StillP P ops n p W K f listed a → ∀ w, Below W.heap.size W w → R w → (f = 0 → n ∈ Region.ready .any ops listed) → wpAny P .any ops Q (g + f + 1) listed a w := by
 have hstore : ∀ f listed a, HeadInv .any ops (n + 1) listed → listed.getD n true = false → n ∈ Region.ready .any ops listed → StillP P ops n p W K f listed a → ∀ w, Below W.heap.size W w → R w → wpOp P ops Q n (wpAny P .any ops Q (g + f) (listed.setIfInBounds n true)) a w := by
  intro f listed a inv hln hnr H w hw hr
  have hw1 : ∀ j, j < n → listed.getD j true = false → Region.waitsFor .any ops n j = false := fun j hj hju => by
   cases hwf : Region.waitsFor .any ops n j with
   | false => rfl
   | true =>
    obtain ⟨_, o', ho', hall⟩ := mem_ready.1 hnr
    obtain ⟨o2, ho2, e, he, hb, hon⟩ := Region.waitsFor_spec hwf
    obtain rfl : o2 = o' := Option.some.inj (ho2.symm.trans ho')
    have h2 := hall e he hb
    rw [hon, getD_both hju] at h2; cases h2
  obtain ⟨l0, a0, hk, he⟩ := StillP.back hsel hos hap f listed a hw1 H
  have hsz : n < listed.size := by
   rcases Nat.lt_or_ge n listed.size with h | h
   ·exact h
   ·simp [Array.getD_eq_getD_getElem?, Array.getElem?_eq_none h] at hln
  unfold wpOp
  simp only [hos]
  rw [if_pos (by simp [Region.wanted, hg n os hos])]
  refine .inl ?_
  unfold Oper.wp
  rw [he, hst l0 a0 hk w hw hr]
  show wpAny _ _ _ _ _ _ (a.put os.dst undef) (st w)
  rw [hdst]
  refine StillP.k8r (p := p) hwt hs hc hn (st w) f listed a hsz (fun j hj hjn => ?_) (inv.set hnr (by omega)) (fun l1 a1 h1 => hK l1 a1 h1 w hw hr) H
  have h1 := List.all_eq_true.1 hpw j (List.mem_range.2 hjn)
  simp only [Bool.or_eq_true, decide_eq_true_eq] at h1
  have hdone : ∀ k, k < n → Region.waitsFor .any ops n k = true → listed.getD k false = true := fun k hkn hwk => by
   cases hl : listed.getD k false with
   | true => rfl
   | false =>
    have := hw1 k hkn (getD_in (by omega) hl)
    rw [hwk] at this; cases this
  rcases h1 with h1 | h1 | h1
  ·omega
  ·exact hdone j hjn h1
  ·obtain ⟨k, hk, hkk⟩ := List.any_eq_true.1 h1
   simp only [Bool.and_eq_true] at hkk
   have hlk := hdone k (List.mem_range.1 hk) hkk.1
   obtain ⟨ok, hok, e, he, hb, hon⟩ := Region.waitsFor_spec hkk.2
   have h2 := inv.closed k ok hok hlk e he hb
   rwa [hon] at h2
 induction f with
 | zero =>
  intro listed a inv hln H w hw hr h0r
  have hnr := h0r rfl
  refine ⟨fun h0 => (by rw [h0] at hnr; cases hnr), fun i hi => ?_⟩
  have hi1 := z6z hs hc hn inv hln (by omega) hi
  have hin : i = n := by
   rcases Nat.lt_or_ge i n with h | h
   ·have h1 := H.1 i h
    rw [getD_both (mem_ready.1 hi).1] at h1; cases h1
   ·omega
  rw [hin]
  exact hstore 0 listed a inv hln hnr H w hw hr
 | succ f ih =>
  intro listed a inv hln H w hw hr _
  obtain ⟨⟨i0, hi0, hi0n⟩, H2⟩ := H
  refine ⟨fun h0 => (by rw [h0] at hi0; cases hi0), fun i hi => ?_⟩
  have hi1 := z6z hs hc hn inv hln (by omega) hi
  by_cases e : i = n
  ·subst e; exact hstore (f + 1) listed a inv hln hi ⟨⟨i0, hi0, hi0n⟩, H2⟩ w hw hr
  ·have hin : i < n := by omega
   obtain ⟨oi, v, hoi, hy, hS⟩ := H2 i hi hin
   have hyb := hy.yb
   unfold wpOp
   simp only [hoi]
   rw [if_pos (by simp [Region.wanted, hyb.1])]
   refine .inl (hyb.wp hw fun w' hb => ?_)
   refine ih _ _ (inv.set hi hi1) (by rw [getD_set_ne true e]; exact hln) hS w' (hw.trans (hb.mono hw.size)) (hR w w' hr hb) (fun hf => ?_)
   subst hf
   refine mem_ready.2 ⟨by rw [getD_set_ne true e]; exact hln, os, hos, fun e' he' hb' => ?_⟩
   have h3 := Array.all_eq_true_iff_forall_mem.1 haf e' he'
   rw [hb'] at h3
   simp only [Bool.not_true, Bool.false_or, decide_eq_true_eq] at h3
   exact hS.1 _ h3
end
def y9w (ops : Array Oper) (n p : Nat) : Bool :=
 Region.noSelect ops && decide (0 < n) && decide (n + 1 < ops.size) && ops.all (fun o => o.guard.isNone) && (List.range n).all (fun i => !Region.waitsFor .any ops i n) && Region.sinkB .any ops (n + 1) && Region.chainB .any ops (n + 1) && (List.range n).all (fun j => decide (p ≤ j) || (Region.waitsFor .any ops n j || (List.range n).any fun k => Region.waitsFor .any ops n k && Region.waitsFor .any ops k j)) &&
 (match ops[n]? with | some os => os.dst.isNone && os.after.all (fun e => !Region.binds .any e || decide (e.on < n)) && (List.range n).all (fun j => Region.waitsFor .any ops n j || match ops[j]? with | some oj => oj.apart ops os | none => true) | none => false) &&
 lexF ops (fun listed => Region.seqB .any ops (ops.size - (n + 1)) (n + 1) (listed.setIfInBounds n true)) n 0 (Array.replicate ops.size false)
theorem y2e {P : Program} {id : Nat} {Q : Exit → Act → World → Prop} {a : Act} {w : World} {l : List Oper} {R : World → Prop} (n p : Nat) (hm : P.follows .mixedOrders = true) (hB : y9w l.toArray n p = true) (os : Oper) (hos : l[n]? = some os)
  (hR : ∀ w w', R w → Below w.heap.size w w' → R w') (hR0 : R { w with drawn := w.drawn + 1 }) (st : World → World)
  (h : x5e P w p (fun a' => ∀ w', Below w.heap.size w w' → R w' → (execOp a'.eval os).run P w' = .ok .skip (st w') ∧ wpList P l.toArray Q (l.drop (n + 1)) a' (st w')) 0 (l.take n) a) : (Code.region id l.toArray true).wp P Q a w := by
 simp only [y9w, Bool.and_eq_true, decide_eq_true_eq] at hB
 obtain ⟨⟨⟨⟨⟨⟨⟨⟨⟨hsel, hn0⟩, hn⟩, hgd⟩, hwt⟩, hs⟩, hc⟩, hpw⟩, hss⟩, hlex⟩ := hB
 have hos' : l.toArray[n]? = some os := by simpa using hos
 simp only [hos', Bool.and_eq_true] at hss
 have hn' : n + 1 < l.length := by simpa using hn
 have htl : (l.take n).length = n := by simp; omega
 have hdl : (l.drop (n + 1)).length = l.toArray.size - (n + 1) := by simp
 have inv0 : HeadInv .any l.toArray (n + 1) (Array.replicate l.toArray.size false) :=
  ⟨by simp, fun j oj _ hl => (by rw [getD_replicate_false] at hl; cases hl), fun t _ ht => getD_in (by simpa using ht) (getD_replicate_false _ _)⟩
 have hguard : ∀ (i : Nat) (o : Oper), l.toArray[i]? = some o → o.guard = none := fun i o ho => by
  have h1 := Array.all_eq_true_iff_forall_mem.1 hgd o (Array.mem_of_getElem? ho)
  simpa using h1
 have hS := StillP.lex (P := P) (W := w) (n := n) (p := p) hsel (l.take n) 0 (Array.replicate l.toArray.size false) a (fun j hj => by rw [htl] at hj; simp [hj]) (by rw [htl]; simp) (by simp; omega) (fun j hj => absurd hj (by omega)) (by rw [htl]; exact hlex) h
 rw [htl] at hS
 refine wp_region_any hm ?_
 have := StillP.k8q (P := P) (W := w) (R := R) (Q := Q) (g := l.toArray.size - (n + 1)) hsel hguard hwt hs hc hn hpw hos' (by simpa using hss.1.1) hss.1.2 hss.2 hR st (fun l0 a0 hk w1 hw1 hr1 => (hk.2 w1 hw1 hr1).1)
  (fun l0 a0 hk w1 hw1 hr1 => by
   have := wpAny_of_seq (md := .any) (Q' := Q) (l.drop (n + 1)) (n + 1) (l0.setIfInBounds n true) a0 (st w1) (fun j => by simp [List.getElem?_drop]) (by rw [hdl]; exact hk.1) (hk.2 w1 hw1 hr1).2
   rwa [hdl] at this) n _ a inv0 (getD_in (by simp; omega) (getD_replicate_false _ _)) hS { w with drawn := w.drawn + 1 } ⟨rfl, rfl, rfl, Nat.le_refl _, fun _ _ => rfl⟩ hR0 (fun h0 => by omega)
 rwa [show l.toArray.size - (n + 1) + n + 1 = l.toArray.size by omega] at this
section
variable {P : Program} {W : World} {K : Act → Prop} {l : List Oper} {o : Oper} {a : Act} {p k : Nat}
theorem k0e (h : K a) : x5e P W p K k [] a := h
theorem p_t (hk : ¬ k < p) (hg : o.guard = none) (v : Value) (hv : ∀ w', (execOp a.eval o).run P w' = .ok (.value v) w') (h : x5e P W p K (k + 1) l (a.put o.dst v)) : x5e P W p K k (o :: l) a := ⟨v, by unfold Yp; rw [if_neg hk]; exact ⟨hg, hv⟩, h⟩
theorem k9t (r : List Oper) : ∀ (l : List Oper) (k : Nat) (a : Act), k + l.length = p → Lex P W (fun a' => x5e P W p K p r a') l a → x5e P W p K k (l ++ r) a := by
 intro l
 induction l with
 | nil => intro k a hk h; simp at hk; subst hk; exact h
 | cons o l ih =>
  intro k a hk h
  obtain ⟨v, hy, hl⟩ := h
  simp only [List.length_cons] at hk
  exact ⟨v, by unfold Yp; rw [if_pos (by omega)]; exact hy, ih (k + 1) _ (by omega) hl⟩
end
theorem y5h {P : Program} {id : Nat} {Q : Exit → Act → World → Prop} {a : Act} {w : World} {l : List Oper} (n p : Nat) (hm : P.follows .mixedOrders = true) (hB : y9w l.toArray n p = true) (hp : p ≤ n) (hnl : n ≤ l.length) (os : Oper) (hos : l[n]? = some os) (T : TypeId) (x y : Operand) (hs : os.op = .store T x y) (r : Nat) (old cs : Array Value) (hr : w.heap[r]? = some (.cells old T (0, 0)))
  (hi : (P.info? T).map (·.size) = some cs.size) (hold : old.size = cs.size) (h1 : cs.all (·.oneCell') = true)
  (h : Lex P w (fun a' => x5e P w p (fun a'' => a''.eval x = .pointer (some ⟨r, 0, none⟩) ∧ a''.eval y = .agg cs ∧ ∀ w', Below w.heap.size w w' → wpList P l.toArray Q (l.drop (n + 1)) a'' (w'.setRow r cs)) p ((l.take n).drop p) a') ((l.take n).take p) a) : (Code.region id l.toArray true).wp P Q a w := by
 have hlt : r < w.heap.size := (aL hr)
 refine y2e (R := fun w' => w'.heap[r]? = some (.cells old T (0, 0))) n p hm hB os hos (fun w1 w2 h1 h12 => (h12.block r (aL h1)).trans h1) hr (fun w' => w'.setRow r cs) ?_
 have h2 := k9t (P := P) (W := w) (p := p) (K := fun a'' => a''.eval x = .pointer (some ⟨r, 0, none⟩) ∧ a''.eval y = .agg cs ∧ ∀ w', Below w.heap.size w w' → wpList P l.toArray Q (l.drop (n + 1)) a'' (w'.setRow r cs)) ((l.take n).drop p) ((l.take n).take p) 0 a (by simp; omega) h
 rw [List.take_append_drop] at h2
 have hmono : ∀ (l' : List Oper) (k : Nat) (a : Act) (K K' : Act → Prop), (∀ a, K a → K' a) → x5e P w p K k l' a → x5e P w p K' k l' a := by
  intro l'
  induction l' with
  | nil => intro k a K K' hk h; exact hk _ h
  | cons o l' ih => intro k a K K' hk ⟨v, hy, hl⟩; exact ⟨v, hy, ih _ _ K K' hk hl⟩
 refine hmono _ _ _ _ _ (fun a' ⟨hx, hy, ht⟩ w' hw' hr' => ⟨?_, ht w' hw'⟩) h2
 unfold execOp
 simp only [hs, hx, hy, Instr.storeAt, Instr.sureAddr, Sem.run_bind, Sem.run_pure, Result.andThen_ok, run_storeVar_row w' r T T old cs hr' hi hold h1]
end Qt
end Go.Proofs.YtbojijefenfbgaaGreatDoor
namespace Go.Proofs.YtbojijefenfbgaaGreatDoor
open Go.RowKit
namespace Cw
open Fw Ww Bt
theorem x0n (a b : Bool) : (a != b) = !(a == b) := by cases a <;> cases b <;> rfl
set_option maxHeartbeats 1000000 in
theorem q0l (y : Ed.F) (odd : Bool) (w : World) : Calls Tryz.prog 155 #[.agg (fw y), .bool odd] w fun e w' => e = .returned (.tuple #[.agg (fw (Ed.z1q y odd).1), .bool (Ed.z1q y odd).2]) ∧ Below w.heap.size w w' := by
 obtain ⟨r, hr⟩ : ∃ r, r = Ed.z9w (y * y - 1) (Ed.dD * (y * y) + 1) := ⟨_, rfl⟩
 have Hroot : Hid (∀ w, Calls Tryz.prog 225 #[.agg (fw (y * y - 1)), .agg (fw (Ed.dD * (y * y) + 1))] w fun e w' => e = .returned (.tuple #[.agg (fw r.1), .bool r.2]) ∧ Below w.heap.size w w') := by rw [hr]; exact k6i _ _
 have HG : Hid (Ed.z1q y odd = Ed.z3o r odd) := by rw [hr]; rfl
 clear hr
 have HA : Hid (WAt (W2 w y) w.heap.size y) := q5h w y
 have HR : Hid (WAt (W2 w y) (w.heap.size + 1) 0) := q0k w y
 have HB : Hid (Below w.heap.size w (W2 w y)) := k2g w y
 go_enter Tryz.func155, Tryz.ntmps155
 go_wp2_with (refine Qt.y5f 2 _ rfl 161 rfl z0l (by kernel_rfl) rfl ?_)
 rename_i Kq hKq
 refine z0m rfl _ rfl (w.heap.size) (y) rfl HA.out ?_
 refine Qt.z0e rfl 224 #[.agg (fw (y))] _ (fun _ => by kernel_rfl) (fun w' _ => z3g (y) w') ?_
 simp only [zD]
 refine Qt.z1a ?_
 intro by2 wa1 hw1 hle hb
 have hw1 : Below (W2 w y).heap.size (W2 w y) wa1 := by first | exact hw1 | exact hw1.mono (by simp)
 have hle : (W2 w y).heap.size ≤ by2 := by first | exact hle | exact Nat.le_trans (by simp) hle
 refine z2v rfl rfl by2 (y * y) rfl rfl hw1 hle hb ?_
 intro w1 hW hb2
 have HX : Hid (Below (W2 w y).heap.size (W2 w y) w1) := hb2
 have HY1 : Hid (WAt w1 by2 (y * y)) := hW
 have HR1 : Hid (WAt w1 (w.heap.size + 1) 0) := HR.out.below HX.out HR.out.lt
 have HB1 : Hid (Below w.heap.size w w1) := HB.out.trans (HX.out.mono HB.out.size)
 clear hW hb2 hb hle hw1 HX HA HR HB
 simp only [zD]
 refine Qt.done ?_
 refine hKq _ _ ?_
 refine wp_seq ?_
 refine Qt.z9a 12 (by kernel_rfl) (by kernel_rfl) _ _ rfl rfl 161 rfl z0l (by kernel_rfl) _ _ rfl (fw r.1) (by rw [z0w]; kernel_rfl) (by rw [z0w]; rfl) (y6j _) ?_
 refine z0m rfl _ rfl (by2) (y * y) rfl HY1.out ?_
 refine Qt.z0e rfl 227 #[] (.agg (fw 1)) (fun _ => by kernel_rfl) (fun w' _ => q3e w') ?_
 refine Qt.z0e rfl 226 #[.agg (fw (y * y)), .agg (fw (1))] _ (fun _ => by kernel_rfl) (fun w' _ => y2m (y * y) (1) w') ?_
 simp only [zD]
 refine Qt.z0e rfl 228 #[] (.agg (fw Ed.dD)) (fun _ => by kernel_rfl) (fun w' _ => q1r w') ?_
 refine z0m rfl _ rfl (by2) (y * y) rfl HY1.out ?_
 refine Qt.z0e rfl 179 #[.agg (fw (Ed.dD)), .agg (fw (y * y))] _ (fun _ => by kernel_rfl) (fun w' _ => z3x (Ed.dD) (y * y) w') ?_
 simp only [zD]
 refine Qt.z0e rfl 227 #[] (.agg (fw 1)) (fun _ => by kernel_rfl) (fun w' _ => q3e w') ?_
 refine Qt.z0e rfl 229 #[.agg (fw (Ed.dD * (y * y))), .agg (fw (1))] _ (fun _ => by kernel_rfl) (fun w' _ => y3h (Ed.dD * (y * y)) (1) w') ?_
 simp only [zD]
 refine Qt.z0e rfl 225 #[.agg (fw (y * y - 1)), .agg (fw (Ed.dD * (y * y) + 1))] (.tuple #[.agg (fw r.1), .bool r.2]) (fun _ => by kernel_rfl) (fun w' _ => Hroot.out w') ?_
 simp only [zD]
 refine Qt.z0b rfl (.tuple #[.agg (fw r.1), .bool r.2]) (fun _ _ => by kernel_rfl) ?_
 refine Qt.z0b rfl (.agg (fw r.1)) (fun _ _ => by kernel_rfl) ?_
 refine Qt.z0b rfl (.bool r.2) (fun _ _ => by kernel_rfl) ?_
 simp only [zD]
 refine Qt.z1a ?_
 refine ⟨fun _ => rfl, fun _ => rfl, ?_⟩
 intro bx w2 hle2 hW hb3
 have HX : Hid (Below w1.heap.size w1 w2) := hb3
 have HV2 : Hid (WAt w2 bx r.1) := hW
 have HR2 : Hid (WAt w2 (w.heap.size + 1) 0) := HR1.out.below HX.out HR1.out.lt
 have HB2 : Hid (Below w.heap.size w w2) := HB1.out.trans (HX.out.mono HB1.out.size)
 have HNE : Hid (w.heap.size + 1 ≠ bx) := by have h1 := HR1.out.lt; have h2 := hle2; show _ ≠ _; omega
 have HLE : Hid (w.heap.size ≤ bx) := Nat.le_trans HB1.out.size hle2
 clear hW hb3 hle2 HX HY1 HR1 HB1
 simp only [List.setIfInBounds_toArray, List.set_cons_zero, List.set_cons_succ]
 cases hok : r.2 with
 | false =>
  have HF : Hid (Ed.z3o r odd = (0, false)) := if_pos hok
  clear hok
  go_wp2_with (refine y9x rfl _ _ rfl (w.heap.size + 1) 0 rfl rfl HR2.out ?_)
  exact z9k Tryz.results155 rfl (w.heap.size + 1) 0 false rfl rfl (HR2.out.setRow _) ⟨by rw [HG.out, HF.out], HB2.out.trans ((z0a _ _ _).mono (by omega))⟩
 | true =>
  cases hodd : (Ed.z5t r.1 == odd) with
  | true =>
   have HF : Hid (Ed.z3o r odd = (r.1, true)) := (if_neg (by rw [hok]; decide)).trans (if_pos (eq_of_beq hodd))
   have hne := x0n (Ed.z5t r.1) odd
   rw [hodd] at hne
   clear hok
   go_wp2_with (refine z0y rfl _ rfl bx r.1 rfl HV2.out ?_)
   refine (x7t r.1 _).mono ?_
   rintro e w3 ⟨rfl, hb3⟩
   have HX : Hid (Below w2.heap.size w2 w3) := hb3
   have HV3 : Hid (WAt w3 bx r.1) := HV2.out.below HX.out HV2.out.lt
   have HR3 : Hid (WAt w3 (w.heap.size + 1) 0) := HR2.out.below HX.out HR2.out.lt
   have HB3 : Hid (Below w.heap.size w w3) := HB2.out.trans (HX.out.mono HB2.out.size)
   clear hb3 HX
   go_wp2_with fail
   refine Qt.y5h 5 3 (by kernel_rfl) (by kernel_rfl) (by decide) (by decide) _ rfl 161 _ _ rfl (w.heap.size + 1) (fw 0) (fw r.1) HR3.out (by rw [z0w]; kernel_rfl) (by rw [z0w, z0w]) (y6j _) ?_
   refine z0m rfl _ rfl (bx) (r.1) rfl HV3.out ?_
   refine z0m rfl _ rfl (bx) (r.1) rfl HV3.out ?_
   refine Qt.z0e rfl 181 #[.agg (fw r.1)] (.bool (Ed.z5t r.1)) (fun _ => by kernel_rfl) (fun w' _ => x7t r.1 w') ?_
   simp only [zD]
   refine Qt.z1a ?_
   refine Qt.p_t (by decide) rfl (.bool odd) (fun _ => by kernel_rfl) ?_
   refine Qt.p_t (by decide) rfl (.bool true) (fun w' => by go_simp) ?_
   simp only [zD]
   refine Qt.k0e ?_
   refine ⟨rfl, rfl, ?_⟩
   intro w4 hb4
   have HX : Hid (Below w3.heap.size w3 w4) := hb4
   clear hb4
   have HR4 : Hid (WAt w4 (w.heap.size + 1) 0) := HR3.out.below HX.out HR3.out.lt
   have HB4 : Hid (Below w.heap.size w w4) := HB3.out.trans (HX.out.mono HB3.out.size)
   go_wp2_with fail
   exact z9k Tryz.results155 rfl (w.heap.size + 1) r.1 true rfl rfl (HR4.out.setRow _) ⟨by rw [HG.out, HF.out], HB4.out.trans ((z0a _ _ _).mono (by omega))⟩
  | false =>
   obtain ⟨ok2, hok2⟩ : ∃ b, (Ed.z5t (0 - r.1) == odd) = b := ⟨_, rfl⟩
   have HF : Hid (Ed.z3o r odd = (0 - r.1, ok2)) := by
    show _ = _
    rw [← hok2]
    exact (if_neg (by rw [hok]; decide)).trans (if_neg (fun h => by rw [beq_iff_eq.2 h] at hodd; cases hodd))
   have hne := x0n (Ed.z5t r.1) odd
   rw [hodd] at hne
   clear hok
   go_wp2_with (refine z0y rfl _ rfl bx r.1 rfl HV2.out ?_)
   refine (x7t r.1 _).mono ?_
   rintro e w3 ⟨rfl, hb3⟩
   have HX : Hid (Below w2.heap.size w2 w3) := hb3
   have HV3 : Hid (WAt w3 bx r.1) := HV2.out.below HX.out HV2.out.lt
   have HR3 : Hid (WAt w3 (w.heap.size + 1) 0) := HR2.out.below HX.out HR2.out.lt
   have HB3 : Hid (Below w.heap.size w w3) := HB2.out.trans (HX.out.mono HB2.out.size)
   clear hb3 HX HV2 HR2 HB2
   go_wp2_with (refine z0y rfl _ rfl bx r.1 rfl HV3.out ?_)
   refine (x4f r.1 _).mono ?_
   rintro e w4 ⟨rfl, hb4⟩
   have HX : Hid (Below w3.heap.size w3 w4) := hb4
   have HV4 : Hid (WAt w4 bx r.1) := HV3.out.below HX.out HV3.out.lt
   have HV5 : Hid (WAt (w4.setRow bx (fw (0 - r.1))) bx (0 - r.1)) := HV4.out.setRow _
   have HR5 : Hid (WAt (w4.setRow bx (fw (0 - r.1))) (w.heap.size + 1) 0) := (HR3.out.below HX.out HR3.out.lt).other HNE.out _
   have HB5 : Hid (Below w.heap.size w (w4.setRow bx (fw (0 - r.1)))) := (HB3.out.trans (HX.out.mono HB3.out.size)).trans ((z0a _ _ _).mono HLE.out)
   clear hb4 HX HV3 HR3 HB3
   go_wp2_with (refine z2h rfl _ _ rfl bx (0 - r.1) r.1 rfl rfl HV4.out ?_)
   refine Qt.y5h 5 3 (by kernel_rfl) (by kernel_rfl) (by decide) (by decide) _ rfl 161 _ _ rfl (w.heap.size + 1) (fw 0) (fw (0 - r.1)) HR5.out (by rw [z0w]; kernel_rfl) (by rw [z0w, z0w]) (y6j _) ?_
   refine z0m rfl _ rfl (bx) (0 - r.1) rfl HV5.out ?_
   refine z0m rfl _ rfl (bx) (0 - r.1) rfl HV5.out ?_
   refine Qt.z0e rfl 181 #[.agg (fw (0 - r.1))] (.bool (Ed.z5t (0 - r.1))) (fun _ => by kernel_rfl) (fun w' _ => x7t (0 - r.1) w') ?_
   simp only [zD]
   refine Qt.z1a ?_
   refine Qt.p_t (by decide) rfl (.bool odd) (fun _ => by kernel_rfl) ?_
   refine Qt.p_t (by decide) rfl (.bool ok2) (fun w' => by go_simp) ?_
   simp only [zD]
   refine Qt.k0e ?_
   refine ⟨rfl, rfl, ?_⟩
   intro w6 hb6
   have HX : Hid (Below (w4.setRow bx (fw (0 - r.1))).heap.size (w4.setRow bx (fw (0 - r.1))) w6) := hb6
   clear hb6
   have HR6 : Hid (WAt w6 (w.heap.size + 1) 0) := HR5.out.below HX.out HR5.out.lt
   have HB6 : Hid (Below w.heap.size w w6) := HB5.out.trans (HX.out.mono HB5.out.size)
   go_wp2_with fail
   exact z9k Tryz.results155 rfl (w.heap.size + 1) (0 - r.1) ok2 rfl rfl (HR6.out.setRow _) ⟨by rw [HG.out, HF.out], HB6.out.trans ((z0a _ _ _).mono (by omega))⟩
end Cw
open Go.RowKit
namespace Cw
open Fw Ww Bt
def x4a (q : Q) : Q := ⟨q.a0, q.a1, q.a2, q.a3 &&& 9223372036854775807#64⟩
noncomputable def q7q (q : Q) : Ed.E × Bool :=
 if (z7c (x4a q)).2 = false then (e0, false)
 else if (Ed.z1q (z7c (x4a q)).1 (decide (un (q.a3 >>> 63) = 1))).2 = false then (e0, false)
 else (Ed.aff (Ed.z1q (z7c (x4a q)).1 (decide (un (q.a3 >>> 63) = 1))).1 (z7c (x4a q)).1, true)
noncomputable def z9s (l : List UInt8) : Ed.E × Bool := if l.length = 32 then q7q (bq l) else (e0, false)
theorem x2c {fn : Func} {p q : Tmp} (h : fn.results = #[.cell p 163, .tmp q]) {post : Ending → World → Prop} {a : Act} {w : World} (hd : a.defers = []) (g : Nat) (v : Ed.E) (b : Bool) (hp : a.tmps.getD p undef = .pointer (some ⟨g, 0, none⟩)) (hq : a.tmps.getD q undef = .bool b) (hg : PAt w g v) (hpost : post (.returned (.tuple #[.agg (pw v), .bool b])) w) :
  bodyPost Tryz.prog fn post .ret a w :=
 z8h h hd g 163 (pw v) (0, 0) _ (.bool b) hp hq hg Tryz.underlying163 rfl (by rw [z1z]; kernel_rfl) hpost
theorem y4v {ops : Array Oper} {rest : List Oper} {o : Oper} {a : Act} {w : World} {Q : Exit → Act → World → Prop} (hg : o.guard = none) (x y : Operand) (ho : o.op = .store 163 x y) (b : Nat) (old : Ed.E) (hx : a.eval x = .pointer (some ⟨b, 0, none⟩)) (hy : a.eval y = .agg z4q) (hb : PAt w b old)
  (h : wpList Tryz.prog ops Q rest (a.put o.dst undef) (w.setRow b (pw e0))) : wpList Tryz.prog ops Q (o :: rest) a w := z2z hg x y ho b e0 old hx (by rw [y4n]; exact hy) hb h
theorem z5m {ops : Array Oper} {rest : List Oper} {oa os : Oper} {a : Act} {w : World} {Q : Exit → Act → World → Prop} {x y : Operand} (hga : oa.guard = none) (ha : oa.op = .alloc 184) (hgs : os.guard = none) (hs : os.op = .store 184 x y) (v : Fw.Q)
  (hx : ∀ b, (a.put oa.dst (.pointer (some ⟨b, 0, none⟩))).eval x = .pointer (some ⟨b, 0, none⟩)) (hy : ∀ b, (a.put oa.dst (.pointer (some ⟨b, 0, none⟩))).eval y = .agg v.cells)
  (h : ∀ w2 b, w.heap.size ≤ b → NAt w2 b v → Below w.heap.size w w2 → wpList Tryz.prog ops Q rest ((a.put oa.dst (.pointer (some ⟨b, 0, none⟩))).put os.dst undef) w2) : wpList Tryz.prog ops Q (oa :: os :: rest) a w := by
 refine Own.z0t _ hga 184 ha zQ.cells (by kernel_rfl) ?_
 have hz := z5j w
 refine z2o hgs x y hs w.heap.size v zQ (hx _) (hy _) hz ?_
 exact h _ _ (Nat.le_refl _) (hz.setRow v) (((Below.refl _ _).alloc (Nat.le_refl _) _).trans (z0a _ _ _))
set_option maxHeartbeats 1000000 in
theorem x1x (l : List UInt8) (w : World) : Calls Tryz.prog 85 #[.string ⟨l.toArray⟩] w fun e w' => e = .returned (.tuple #[.agg (pw (z9s l).1), .bool (z9s l).2]) ∧ Below w.heap.size w w' := by
 have HR : Hid (PAt (Z1 w) w.heap.size e0) := k2v w
 by_cases hl : l.length = 32
 ·have hli : (l.length : Int) = 32 := by omega
  have HD : Hid (z9s l = q7q (bq l)) := if_pos hl
  have HL : Hid (l.length = 32) := hl
  clear hl
  go_enter Tryz.func85, Tryz.ntmps85
  go_wp2_with fail
  refine (z4e l (by rw [HL.out]; exact Nat.le_refl _) _).mono ?_
  rintro e w1 ⟨rfl, hb1⟩
  rw [List.take_of_length_le (by rw [HL.out]; exact Nat.le_refl _)]
  obtain ⟨q, hq⟩ : ∃ q, q = bq l := ⟨_, rfl⟩
  rw [← hq] at HD ⊢
  clear hq
  have HX1 : Hid (Below (Z1 w).heap.size (Z1 w) w1) := hb1
  have HR1 : Hid (PAt w1 w.heap.size e0) := HR.out.below HX1.out HR.out.lt
  have HB1 : Hid (Below w.heap.size w w1) := (k2u w).trans (HX1.out.mono (k2u w).size)
  clear hb1 HX1 HR
  go_wp2_with (refine z5m rfl rfl rfl rfl q (fun _ => rfl) (fun _ => rfl) ?_)
  intro w2 bn hle hW hb2
  have HX2 : Hid (Below w1.heap.size w1 w2) := hb2
  have HN2 : Hid (NAt w2 bn q) := hW
  have HR2 : Hid (PAt w2 w.heap.size e0) := HR1.out.below HX2.out HR1.out.lt
  have HB2 : Hid (Below w.heap.size w w2) := HB1.out.trans (HX2.out.mono HB1.out.size)
  have HNE : Hid (w.heap.size ≠ bn) := by have h1 := HR1.out.lt; have h2 := hle; show _ ≠ _; omega
  have HLE : Hid (w.heap.size ≤ bn) := Nat.le_trans HB1.out.size hle
  clear hW hb2 hle HX2 HR1 HB1
  have hc3 : w2.cell? ⟨bn, 3, none⟩ = some (.int .u64 (un q.a3)) := z7i HN2.out 3 (by omega)
  have hf3 : w2.frozen? ⟨bn, 3, none⟩ = false := NAt.frozen HN2.out 3
  have hand := y3k q.a3
  have h63 := k6l q.a3
  have HN3 : Hid (NAt (w2.setCell ⟨bn, 3, none⟩ (.int .u64 (un (q.a3 &&& 9223372036854775807#64)))) bn (x4a q)) := NAt.k7v HN2.out _
  have HR3 : Hid (PAt (w2.setCell ⟨bn, 3, none⟩ (.int .u64 (un (q.a3 &&& 9223372036854775807#64)))) w.heap.size e0) := by
   show _ = _
   rw [Below.heap_setCell _ _ _ _ (by exact HNE.out)]
   exact HR2.out
  have HB3 : Hid (Below w.heap.size w (w2.setCell ⟨bn, 3, none⟩ (.int .u64 (un (q.a3 &&& 9223372036854775807#64))))) := HB2.out.setCell HLE.out _
  go_wp2_with (refine z2d rfl _ rfl bn (x4a q) rfl HN3.out ?_)
  refine (y6h (x4a q) _).mono ?_
  rintro e w4 ⟨rfl, hb4⟩
  have HX4 : Hid (Below (w2.setCell ⟨bn, 3, none⟩ (.int .u64 (un (q.a3 &&& 9223372036854775807#64)))).heap.size (w2.setCell ⟨bn, 3, none⟩ (.int .u64 (un (q.a3 &&& 9223372036854775807#64)))) w4) := hb4
  have HR4 : Hid (PAt w4 w.heap.size e0) := HR3.out.below HX4.out HR3.out.lt
  have HB4 : Hid (Below w.heap.size w w4) := HB3.out.trans (HX4.out.mono HB3.out.size)
  obtain ⟨y, hy⟩ : ∃ y, y = (z7c (x4a q)).1 := ⟨_, rfl⟩
  obtain ⟨ok, hok⟩ : ∃ ok, ok = (z7c (x4a q)).2 := ⟨_, rfl⟩
  obtain ⟨odd, hodd⟩ : ∃ odd, odd = decide (un (q.a3 >>> (63 : Nat)) = 1) := ⟨_, rfl⟩
  have HG : Hid (q7q q = if ok = false then (e0, false) else if (Ed.z1q y odd).2 = false then (e0, false) else (Ed.aff (Ed.z1q y odd).1 y, true)) := by rw [hy, hok, hodd]; rfl
  have hdd : (un (q.a3 >>> (63 : Nat)) == 1) = odd := by rw [hodd]; by_cases h : un (q.a3 >>> (63 : Nat)) = 1 <;> simp [h]
  rw [← hy, ← hok]
  clear hy hok hodd hb4 HX4 HR3 HB3 HN3 hc3 hf3 hand HN2 HR2 HB2
  rw [hdd]
  clear hdd h63
  go_wp2_with (refine x7d rfl rfl rfl rfl y (fun _ => rfl) (fun _ => rfl) ?_)
  intro w5 by1 hle hW hb5
  have HX5 : Hid (Below w4.heap.size w4 w5) := hb5
  have HY5 : Hid (WAt w5 by1 y) := hW
  have HR5 : Hid (PAt w5 w.heap.size e0) := HR4.out.below HX5.out HR4.out.lt
  have HB5 : Hid (Below w.heap.size w w5) := HB4.out.trans (HX5.out.mono HB4.out.size)
  clear hW hb5 hle HX5 HR4 HB4
  cases ok with
  | false =>
   have HF : Hid (q7q q = (e0, false)) := HG.out.trans (if_pos rfl)
   go_wp2_with (refine y4v rfl _ _ rfl w.heap.size e0 rfl rfl HR5.out ?_)
   exact x2c Tryz.results85 rfl w.heap.size e0 false rfl rfl (HR5.out.setRow _) ⟨by rw [HD.out, HF.out], HB5.out.trans ((z0a _ _ _).mono (Nat.le_refl _))⟩
  | true =>
   go_wp2_with (refine z0y rfl _ rfl by1 y rfl HY5.out ?_)
   refine (q0l y odd _).mono ?_
   rintro e w6 ⟨rfl, hb6⟩
   have HX6 : Hid (Below w5.heap.size w5 w6) := hb6
   have HY6 : Hid (WAt w6 by1 y) := HY5.out.below HX6.out HY5.out.lt
   have HR6 : Hid (PAt w6 w.heap.size e0) := HR5.out.below HX6.out HR5.out.lt
   have HB6 : Hid (Below w.heap.size w w6) := HB5.out.trans (HX6.out.mono HB5.out.size)
   obtain ⟨x, hx⟩ : ∃ x, x = (Ed.z1q y odd).1 := ⟨_, rfl⟩
   obtain ⟨ok2, hok2⟩ : ∃ ok, ok = (Ed.z1q y odd).2 := ⟨_, rfl⟩
   rw [← hx, ← hok2] at HG ⊢
   clear hx hok2 hb6 HX6 HY5 HR5 HB5
   go_wp2_with (refine x7d rfl rfl rfl rfl x (fun _ => rfl) (fun _ => rfl) ?_)
   intro w7 bx hle hW hb7
   have HX7 : Hid (Below w6.heap.size w6 w7) := hb7
   have HV7 : Hid (WAt w7 bx x) := hW
   have HY7 : Hid (WAt w7 by1 y) := HY6.out.below HX7.out HY6.out.lt
   have HR7 : Hid (PAt w7 w.heap.size e0) := HR6.out.below HX7.out HR6.out.lt
   have HB7 : Hid (Below w.heap.size w w7) := HB6.out.trans (HX7.out.mono HB6.out.size)
   clear hW hb7 hle HX7 HR6 HB6 HY6
   cases ok2 with
   | false =>
    have HF : Hid (q7q q = (e0, false)) := HG.out
    go_wp2_with (refine y4v rfl _ _ rfl w.heap.size e0 rfl rfl HR7.out ?_)
    exact x2c Tryz.results85 rfl w.heap.size e0 false rfl rfl (HR7.out.setRow _) ⟨by rw [HD.out, HF.out], HB7.out.trans ((z0a _ _ _).mono (Nat.le_refl _))⟩
   | true =>
    have HF : Hid (q7q q = (Ed.aff x y, true)) := HG.out
    go_wp2_with (first | refine z0y rfl _ rfl bx x rfl HV7.out ?_ | refine z0y rfl _ rfl by1 y rfl HY7.out ?_)
    refine (y3j x y _).mono ?_
    rintro e w8 ⟨rfl, hb8⟩
    have HX8 : Hid (Below w7.heap.size w7 w8) := hb8
    have HR8 : Hid (PAt w8 w.heap.size e0) := HR7.out.below HX8.out HR7.out.lt
    have HB8 : Hid (Below w.heap.size w w8) := HB7.out.trans (HX8.out.mono HB7.out.size)
    clear hb8 HX8
    go_wp2_with (refine z2z rfl _ _ rfl w.heap.size (Ed.aff x y) e0 rfl rfl HR8.out ?_)
    exact x2c Tryz.results85 rfl w.heap.size (Ed.aff x y) true rfl rfl (HR8.out.setRow _) ⟨by rw [HD.out, HF.out], HB8.out.trans ((z0a _ _ _).mono (Nat.le_refl _))⟩
 ·have hli : (l.length : Int) ≠ 32 := by omega
  have HD : Hid (z9s l = (e0, false)) := if_neg hl
  clear hl
  go_enter Tryz.func85, Tryz.ntmps85
  go_wp2_with (refine y4v rfl _ _ rfl w.heap.size e0 rfl rfl HR.out ?_)
  exact x2c Tryz.results85 rfl w.heap.size e0 false rfl rfl (HR.out.setRow _) ⟨by rw [HD.out], (k2u w).trans ((z0a _ _ _).mono (Nat.le_refl _))⟩
end Cw
open Go.RowKit
namespace Ww
open Fw Bt
attribute [local go_sem] UV.z6q UV.z5u UV.z6r UV.z6s UV.z4x UV.y1w UV.z3z UV.z4m UV.z5v UV.z3n UV.z1c z2x z3l z2c
def y4c (x y p q : BitVec 64) : BitVec 64 := x * y + p + bv false + q + bv false
def q0g (x y p q : BitVec 64) : BitVec 64 := z9u x y + bv (carry (x * y) p false) + bv (carry (x * y + p + bv false) q false)
theorem k5k (x y p q : BitVec 64) : (y4c x y p q).toNat + 18446744073709551616 * (q0g x y p q).toNat = x.toNat * y.toNat + p.toNat + q.toNat := by
 have h0 := z8w x y
 have h1 := z0x (x * y) p false
 have h2 := z0x (x * y + p + bv false) q false
 have b1 := z9r (carry (x * y) p false)
 have b2 := z9r (carry (x * y + p + bv false) q false)
 rw [show (bv false).toNat = 0 from rfl] at h1 h2
 have hx := x.isLt
 have hy := y.isLt
 have hp := p.isLt
 have hq := q.isLt
 have hlo := (y4c x y p q).isLt
 have hm : x.toNat * y.toNat ≤ 18446744073709551615 * 18446744073709551615 := Nat.mul_le_mul (by omega) (by omega)
 have hh : (q0g x y p q).toNat = ((z9u x y).toNat + (bv (carry (x * y) p false)).toNat + (bv (carry (x * y + p + bv false) q false)).toNat) % 18446744073709551616 := by
  unfold q0g
  rw [BitVec.toNat_add, BitVec.toNat_add]
  omega
 have hl : (y4c x y p q).toNat = (x * y + p + bv false + q + bv false).toNat := rfl
 rw [hh, hl]
 generalize (x * y + p + bv false + q + bv false).toNat = lo at *
 generalize (x * y + p + bv false).toNat = m1 at *
 generalize (bv (carry (x * y) p false)).toNat = c1 at *
 generalize (bv (carry (x * y + p + bv false) q false)).toNat = c2 at *
 generalize (x * y).toNat = l0 at *
 generalize (z9u x y).toNat = hi at *
 generalize x.toNat * y.toNat = xy at *
 rw [Nat.mod_eq_of_lt (by omega)]
 omega
set_option maxHeartbeats 400000 in
theorem q2w (x y p q : BitVec 64) (w : World) : Calls Tryz.prog 250 #[.int .u64 (un x), .int .u64 (un y), .int .u64 (un p), .int .u64 (un q)] w fun e w' => e = .returned (.tuple #[.int .u64 (un (q0g x y p q)), .int .u64 (un (y4c x y p q))]) ∧ w' = w := by
 go_enter Tryz.func250, Tryz.ntmps250
 go_wp2_with (go_at_call 274; refine (y6r _ _ _).mono ?_; rintro e w' ⟨rfl, rfl⟩)
 refine bodyPost_ret (v := .tuple #[.int .u64 (un (q0g x y p q)), .int .u64 (un (y4c x y p q))]) (by simp [results, Tryz.results250, go_sem, q0g, y4c]) rfl ⟨rfl, rfl⟩
theorem q2v (x y p q : BitVec 64) (w : World) : Calls Tryz.prog 250 #[.int .u64 (un x), .int .u64 (un y), .int .u64 (un p), .int .u64 (un q)] w fun e w' => e = .returned (.tuple #[.int .u64 (un (q0g x y p q)), .int .u64 (un (y4c x y p q))]) ∧ Below w.heap.size w w' :=
 (q2w x y p q w).mono fun e w' ⟨he, hw⟩ => ⟨he, by rw [hw]; exact Below.refl _ _⟩
def y5c (W : Nat → BitVec 64) (k : Nat) (v : BitVec 64) : Nat → BitVec 64 := fun j => if j = k then v else W j
def mj (x : BitVec 64) (b : Q) (i : Nat) (W : Nat → BitVec 64) : Nat → (Nat → BitVec 64) × BitVec 64
 | 0 => (W, 0#64)
 | j + 1 => (y5c (mj x b i W j).1 (i + j) (y4c x (Cw.qw b j) ((mj x b i W j).1 (i + j)) (mj x b i W j).2), q0g x (Cw.qw b j) ((mj x b i W j).1 (i + j)) (mj x b i W j).2)
def mi (a b : Q) : Nat → Nat → BitVec 64
 | 0 => fun _ => 0#64
 | i + 1 => y5c (mj (Cw.qw a i) b i (mi a b i) 4).1 (i + 4) (mj (Cw.qw a i) b i (mi a b i) 4).2
def dF (W : Nat → BitVec 64) (k : Nat) : Value := .int .u64 (un (W k))
def DAt (w : World) (b : Nat) (W : Nat → BitVec 64) : Prop := w.heap[b]? = some (.cells (Own.z0f 8 (dF W)) 265 (0, 0))
theorem DAt.lt {w : World} {b : Nat} {W : Nat → BitVec 64} (h : DAt w b W) : b < w.heap.size := (aL h)
theorem DAt.below {w w' : World} {b : Nat} {W : Nat → BitVec 64} (h : DAt w b W) {k : Nat} (hb : Below k w w') (hk : b < k) : DAt w' b W := (hb.block b hk).trans h
theorem DAt.cell {w : World} {b : Nat} {W : Nat → BitVec 64} (h : DAt w b W) (k : Nat) (hk : k < 8) : w.cell? ⟨b, k, none⟩ = some (.int .u64 (un (W k))) := Own.z0o h k hk
theorem DAt.frozen {w : World} {b : Nat} {W : Nat → BitVec 64} (h : DAt w b W) (k : Nat) : w.frozen? ⟨b, k, none⟩ = false := Own.z1o h k
theorem DAt.set {w : World} {b : Nat} {W : Nat → BitVec 64} (h : DAt w b W) (k : Nat) (v : BitVec 64) : DAt (w.setCell ⟨b, k, none⟩ (.int .u64 (un v))) b (y5c W k v) := by
 have h1 := Own.z1p h k (.int .u64 (un v))
 unfold DAt
 rw [h1]
 refine congrArg (fun c => some (Obj.cells c 265 (0, 0))) (Own.z0k fun j _ => ?_)
 unfold dF y5c
 by_cases hj : j = k
 ·rw [if_pos hj, if_pos hj]
 ·rw [if_neg hj, if_neg hj]
theorem NAt.z3y {w : World} {b c o : Nat} {q : Q} (h : NAt w b q) (hne : b ≠ c) (v : Value) : NAt (w.setCell ⟨c, o, none⟩ v) b q := by
 show _ = _
 rw [Below.heap_setCell _ _ _ _ (by exact hne)]
 exact h
theorem DAt.z3y {w : World} {b c o : Nat} {W : Nat → BitVec 64} (h : DAt w b W) (hne : b ≠ c) (v : Value) : DAt (w.setCell ⟨c, o, none⟩ v) b W := by
 show _ = _
 rw [Below.heap_setCell _ _ _ _ (by exact hne)]
 exact h
def k3k : Array Value := #[.int .u64 0, .int .u64 0, .int .u64 0, .int .u64 0, .int .u64 0, .int .u64 0, .int .u64 0, .int .u64 0]
abbrev G4 (w : World) (a b : Q) : World := (((w.alloc (.cells a.cells 184)).alloc (.cells b.cells 184)).alloc (.cells k3k 265)).alloc (.cells k3k 265)
theorem j1g (w : World) (a b : Q) : NAt (G4 w a b) w.heap.size a := NAt.below (z0d w _ _ rfl) ((((Below.refl (w.heap.size + 1) _).alloc (by simp) _).alloc (by simp) _).alloc (by simp) _) (by omega)
theorem j1i (w : World) (a b : Q) : NAt (G4 w a b) (w.heap.size + 1) b := NAt.below (z0d _ _ _ (by simp)) (((Below.refl (w.heap.size + 2) _).alloc (by simp) _).alloc (by simp) _) (by omega)
theorem j1k (w : World) (a b : Q) : DAt (G4 w a b) (w.heap.size + 1 + 1) (fun _ => 0#64) := DAt.below (z0d _ _ _ (by simp)) ((Below.refl (w.heap.size + 3) _).alloc (by simp) _) (by omega)
theorem j1j (w : World) (a b : Q) : DAt (G4 w a b) (w.heap.size + 1 + 1 + 1) (fun _ => 0#64) := z0d _ _ _ (by simp)
theorem j1h (w : World) (a b : Q) : Below w.heap.size w (G4 w a b) := ((((Below.refl _ _).alloc (Nat.le_refl _) _).alloc (by simp) _).alloc (by simp; omega) _).alloc (by simp; omega) _
theorem k5h {ops : Array Oper} {rest : List Oper} {o : Oper} {a : Act} {w : World} {Q : Exit → Act → World → Prop} (hg : o.guard = none) (x : Operand) (ho : o.op = .load 265 x) (b : Nat) (W : Nat → BitVec 64) (hx : a.eval x = .pointer (some ⟨b, 0, none⟩)) (hb : DAt w b W)
  (h : wpList Tryz.prog ops Q rest (a.put o.dst (.agg (Own.z0f 8 (dF W)))) w) : wpList Tryz.prog ops Q (o :: rest) a w :=
 wpList_load_row hg 265 x ho b hx 265 (Own.z0f 8 (dF W)) (0, 0) _ hb Tryz.underlying265 rfl (by rw [Own.z0p]; kernel_rfl) h
theorem k1p {ops : Array Oper} {rest : List Oper} {o : Oper} {a : Act} {w : World} {Q : Exit → Act → World → Prop} (hg : o.guard = none) (x y : Operand) (ho : o.op = .store 265 x y) (b : Nat) (W old : Nat → BitVec 64) (hx : a.eval x = .pointer (some ⟨b, 0, none⟩)) (hy : a.eval y = .agg (Own.z0f 8 (dF W))) (hb : DAt w b old)
  (h : wpList Tryz.prog ops Q rest (a.put o.dst undef) (w.setRow b (Own.z0f 8 (dF W)))) : wpList Tryz.prog ops Q (o :: rest) a w :=
 wpList_store_row hg 265 x y ho b (Own.z0f 8 (dF W)) hx hy 265 (Own.z0f 8 (dF old)) hb (by rw [Own.z0p]; kernel_rfl) (by rw [Own.z0p, Own.z0p]) (Own.y0n fun _ _ => rfl) h
theorem DAt.setRow {w : World} {b : Nat} {W : Nat → BitVec 64} (h : DAt w b W) (V : Nat → BitVec 64) : DAt (w.setRow b (Own.z0f 8 (dF V))) b V := setRow_heap _ _ _ _ _ _ h
theorem k9y {fn : Func} {p : Tmp} (h : fn.results = #[.cell p 265]) {post : Ending → World → Prop} {a : Act} {w : World} (hd : a.defers = []) (g : Nat) (W : Nat → BitVec 64) (hp : a.tmps.getD p undef = .pointer (some ⟨g, 0, none⟩)) (hg : DAt w g W) (hpost : post (.returned (.agg (Own.z0f 8 (dF W)))) w) :
  bodyPost Tryz.prog fn post .ret a w :=
 Own.z1g h hd g 265 (Own.z0f 8 (dF W)) (0, 0) _ hp hg Tryz.underlying265 rfl (by rw [Own.z0p]; kernel_rfl) hpost
set_option maxHeartbeats 1000000 in
theorem k7h (a b : Q) (w : World) : Calls Tryz.prog 201 #[.agg a.cells, .agg b.cells] w fun e w' => e = .returned (.agg (Own.z0f 8 (dF (mi a b 4)))) ∧ Below w.heap.size w w' := by
 have HA : Hid (NAt (G4 w a b) w.heap.size a) := j1g w a b
 have HC : Hid (NAt (G4 w a b) (w.heap.size + 1) b) := j1i w a b
 have HR : Hid (DAt (G4 w a b) (w.heap.size + 1 + 1) (fun _ => 0#64)) := j1k w a b
 have HO : Hid (DAt (G4 w a b) (w.heap.size + 1 + 1 + 1) (fun _ => 0#64)) := j1j w a b
 have HB : Hid (Below w.heap.size w (G4 w a b)) := j1h w a b
 go_enter Tryz.func201, Tryz.ntmps201
 go_wp2_with fail
 go_loopw [9] (fun iv wq => ∃ i : Nat, i ≤ 4 ∧ iv = .int .i64 (i : Int) ∧ DAt wq (w.heap.size + 1 + 1 + 1) (mi a b i) ∧ DAt wq (w.heap.size + 1 + 1) (fun _ => 0#64) ∧ NAt wq w.heap.size a ∧ NAt wq (w.heap.size + 1) b ∧ Below w.heap.size w wq) (fun iv _ => 4 - (intOf iv).toNat)
 case atStart => exact ⟨0, by omega, rfl, HO.out, HR.out, HA.out, HC.out, HB.out⟩
 case round =>
  clear HA HC HR HO HB
  rename World => wa
  obtain ⟨i, hi, rfl, ho, hr, ha, hc, hb⟩ := hrel
  have HO : Hid (DAt wa (w.heap.size + 1 + 1 + 1) (mi a b i)) := ho
  have HR : Hid (DAt wa (w.heap.size + 1 + 1) (fun _ => 0#64)) := hr
  have HA : Hid (NAt wa w.heap.size a) := ha
  have HC : Hid (NAt wa (w.heap.size + 1) b) := hc
  have HB : Hid (Below w.heap.size w wa) := hb
  clear ho hr ha hc hb
  by_cases hi4 : i < 4
  ·have hd4 : decide ((i : Int) < 4) = true := decide_eq_true (by omega)
   go_wp2_with fail
   clear hd4
   go_loopw [12, 7] (fun jv cv wq => ∃ j : Nat, j ≤ 4 ∧ jv = .int .i64 (j : Int) ∧ cv = .int .u64 (un (mj (Cw.qw a i) b i (mi a b i) j).2) ∧ DAt wq (w.heap.size + 1 + 1 + 1) (mj (Cw.qw a i) b i (mi a b i) j).1 ∧ DAt wq (w.heap.size + 1 + 1) (fun _ => 0#64) ∧ NAt wq w.heap.size a ∧ NAt wq (w.heap.size + 1) b ∧ Below w.heap.size w wq) (fun jv _ _ => 4 - (intOf jv).toNat)
   case atStart => exact ⟨0, by omega, rfl, rfl, HO.out, HR.out, HA.out, HC.out, HB.out⟩
   case round =>
    clear HO HR HA HC HB
    rename World => wc
    obtain ⟨j, hj, rfl, rfl, ho, hr, ha, hc, hb⟩ := hrel
    have HO : Hid (DAt wc (w.heap.size + 1 + 1 + 1) (mj (Cw.qw a i) b i (mi a b i) j).1) := ho
    have HR : Hid (DAt wc (w.heap.size + 1 + 1) (fun _ => 0#64)) := hr
    have HA : Hid (NAt wc w.heap.size a) := ha
    have HC : Hid (NAt wc (w.heap.size + 1) b) := hc
    have HB : Hid (Below w.heap.size w wc) := hb
    clear ho hr ha hc hb
    by_cases hj4 : j < 4
    ·go_wp2_with fail
     refine Qt.z0q 21 (by kernel_rfl) (by kernel_rfl) ?_
     refine Qt.z0b rfl (.int .i64 (i : Int)) (fun _ _ => by kernel_rfl) ?_
     refine Qt.z0b rfl (.int .i64 (j : Int)) (fun _ _ => by kernel_rfl) ?_
     simp only [zD]
     refine Qt.z0b rfl (.int .i64 ((i + j : Nat) : Int)) (fun w' _ => by go_simp; rw [IntKind.wrap_i64]; omega) ?_
     refine Qt.z0b rfl (.int .i64 (i : Int)) (fun _ _ => by kernel_rfl) ?_
     simp only [zD]
     refine Qt.z9y rfl 184 _ _ rfl 159 4 1 Tryz.underlying184 (by kernel_rfl) (by kernel_rfl) (w.heap.size) 0 (i) .i64 rfl rfl (by omega) ?_
     rw [show 0 + (i) * 1 = i by omega]
     refine Cw.x0f rfl _ rfl w.heap.size i (.int .u64 (un (Cw.qw a i))) rfl HA.out.lt (z7i HA.out i (by omega)) ?_
     refine Qt.z0b rfl (.int .i64 (j : Int)) (fun _ _ => by kernel_rfl) ?_
     simp only [zD]
     refine Qt.z9y rfl 184 _ _ rfl 159 4 1 Tryz.underlying184 (by kernel_rfl) (by kernel_rfl) (w.heap.size + 1) 0 (j) .i64 rfl rfl (by omega) ?_
     rw [show 0 + (j) * 1 = j by omega]
     refine Cw.x0f rfl _ rfl (w.heap.size + 1) j (.int .u64 (un (Cw.qw b j))) rfl HC.out.lt (z7i HC.out j (by omega)) ?_
     refine Qt.z0b rfl (.int .i64 (i : Int)) (fun _ _ => by kernel_rfl) ?_
     refine Qt.z0b rfl (.int .i64 (j : Int)) (fun _ _ => by kernel_rfl) ?_
     simp only [zD]
     refine Qt.z0b rfl (.int .i64 ((i + j : Nat) : Int)) (fun w' _ => by go_simp; rw [IntKind.wrap_i64]; omega) ?_
     refine Qt.z9y rfl 265 _ _ rfl 159 8 1 Tryz.underlying265 (by kernel_rfl) (by kernel_rfl) (w.heap.size + 1 + 1 + 1) 0 (i + j) .i64 rfl rfl (by omega) ?_
     rw [show 0 + (i + j) * 1 = i + j by omega]
     refine Cw.x0f rfl _ rfl (w.heap.size + 1 + 1 + 1) (i + j) (.int .u64 (un ((mj (Cw.qw a i) b i (mi a b i) j).1 (i + j)))) rfl HO.out.lt (HO.out.cell (i + j) (by omega)) ?_
     simp only [zD]
     refine Qt.z0b rfl (.int .u64 (un (mj (Cw.qw a i) b i (mi a b i) j).2)) (fun _ _ => by kernel_rfl) ?_
     simp only [zD]
     refine Qt.z0e rfl 250 #[.int .u64 (un (Cw.qw a i)), .int .u64 (un (Cw.qw b j)), .int .u64 (un ((mj (Cw.qw a i) b i (mi a b i) j).1 (i + j))), .int .u64 (un (mj (Cw.qw a i) b i (mi a b i) j).2)] (.tuple #[.int .u64 (un (mj (Cw.qw a i) b i (mi a b i) (j + 1)).2), .int .u64 (un (y4c (Cw.qw a i) (Cw.qw b j) ((mj (Cw.qw a i) b i (mi a b i) j).1 (i + j)) (mj (Cw.qw a i) b i (mi a b i) j).2))]) (fun _ => by kernel_rfl) (fun w' _ => q2v _ _ _ _ w') ?_
     simp only [zD]
     refine Qt.z0b rfl (.tuple #[.int .u64 (un (mj (Cw.qw a i) b i (mi a b i) (j + 1)).2), .int .u64 (un (y4c (Cw.qw a i) (Cw.qw b j) ((mj (Cw.qw a i) b i (mi a b i) j).1 (i + j)) (mj (Cw.qw a i) b i (mi a b i) j).2))]) (fun _ _ => by kernel_rfl) ?_
     refine Qt.z0b rfl (.int .u64 (un (mj (Cw.qw a i) b i (mi a b i) (j + 1)).2)) (fun _ _ => by kernel_rfl) ?_
     refine Qt.z0b rfl (.int .u64 (un (y4c (Cw.qw a i) (Cw.qw b j) ((mj (Cw.qw a i) b i (mi a b i) j).1 (i + j)) (mj (Cw.qw a i) b i (mi a b i) j).2))) (fun _ _ => by kernel_rfl) ?_
     simp only [zD]
     refine Qt.z0b rfl (.int .u64 (un (mj (Cw.qw a i) b i (mi a b i) (j + 1)).2)) (fun _ _ => by kernel_rfl) ?_
     simp only [zD]
     refine Qt.z9y rfl 265 _ _ rfl 159 8 1 Tryz.underlying265 (by kernel_rfl) (by kernel_rfl) (w.heap.size + 1 + 1 + 1) 0 (i + j) .i64 rfl rfl (by omega) ?_
     rw [show 0 + (i + j) * 1 = i + j by omega]
     simp only [zD]
     refine Qt.z1a ?_
     intro wd hbd
     have HX : Hid (Below wc.heap.size wc wd) := hbd
     clear hbd
     have HO1 : Hid (DAt wd (w.heap.size + 1 + 1 + 1) (mj (Cw.qw a i) b i (mi a b i) j).1) := HO.out.below HX.out HO.out.lt
     have hcd : wd.cell? ⟨w.heap.size + 1 + 1 + 1, i + j, none⟩ = some (.int .u64 (un ((mj (Cw.qw a i) b i (mi a b i) j).1 (i + j)))) := HO1.out.cell (i + j) (by omega)
     have hfd : wd.frozen? ⟨w.heap.size + 1 + 1 + 1, i + j, none⟩ = false := HO1.out.frozen (i + j)
     have HO2 : Hid (DAt (wd.setCell ⟨w.heap.size + 1 + 1 + 1, i + j, none⟩ (.int .u64 (un (y4c (Cw.qw a i) (Cw.qw b j) ((mj (Cw.qw a i) b i (mi a b i) j).1 (i + j)) (mj (Cw.qw a i) b i (mi a b i) j).2)))) (w.heap.size + 1 + 1 + 1) (mj (Cw.qw a i) b i (mi a b i) (j + 1)).1) := HO1.out.set (i + j) _
     have HR2 : Hid (DAt (wd.setCell ⟨w.heap.size + 1 + 1 + 1, i + j, none⟩ (.int .u64 (un (y4c (Cw.qw a i) (Cw.qw b j) ((mj (Cw.qw a i) b i (mi a b i) j).1 (i + j)) (mj (Cw.qw a i) b i (mi a b i) j).2)))) (w.heap.size + 1 + 1) (fun _ => 0#64)) := (HR.out.below HX.out HR.out.lt).z3y (by omega) _
     have HA2 : Hid (NAt (wd.setCell ⟨w.heap.size + 1 + 1 + 1, i + j, none⟩ (.int .u64 (un (y4c (Cw.qw a i) (Cw.qw b j) ((mj (Cw.qw a i) b i (mi a b i) j).1 (i + j)) (mj (Cw.qw a i) b i (mi a b i) j).2)))) w.heap.size a) := (HA.out.below HX.out HA.out.lt).z3y (by omega) _
     have HC2 : Hid (NAt (wd.setCell ⟨w.heap.size + 1 + 1 + 1, i + j, none⟩ (.int .u64 (un (y4c (Cw.qw a i) (Cw.qw b j) ((mj (Cw.qw a i) b i (mi a b i) j).1 (i + j)) (mj (Cw.qw a i) b i (mi a b i) j).2)))) (w.heap.size + 1) b) := (HC.out.below HX.out HC.out.lt).z3y (by omega) _
     have HB2 : Hid (Below w.heap.size w (wd.setCell ⟨w.heap.size + 1 + 1 + 1, i + j, none⟩ (.int .u64 (un (y4c (Cw.qw a i) (Cw.qw b j) ((mj (Cw.qw a i) b i (mi a b i) j).1 (i + j)) (mj (Cw.qw a i) b i (mi a b i) j).2))))) := (HB.out.trans (HX.out.mono HB.out.size)).setCell (by show w.heap.size ≤ w.heap.size + 1 + 1 + 1; omega) _
     clear HO1 HX HO HR HA HC HB
     go_wp2_with fail
     exact ⟨⟨j + 1, by omega, by go_num, rfl, HO2.out, HR2.out, HA2.out, HC2.out, HB2.out⟩, by simp [intOf]; omega⟩
    ·obtain rfl : j = 4 := by omega
     have hcd : wc.cell? ⟨w.heap.size + 1 + 1 + 1, i + 4, none⟩ = some (.int .u64 (un ((mj (Cw.qw a i) b i (mi a b i) 4).1 (i + 4)))) := HO.out.cell (i + 4) (by omega)
     have hfd : wc.frozen? ⟨w.heap.size + 1 + 1 + 1, i + 4, none⟩ = false := HO.out.frozen (i + 4)
     have HO2 : Hid (DAt (wc.setCell ⟨w.heap.size + 1 + 1 + 1, i + 4, none⟩ (.int .u64 (un (mj (Cw.qw a i) b i (mi a b i) 4).2))) (w.heap.size + 1 + 1 + 1) (mi a b (i + 1))) := HO.out.set (i + 4) _
     have HR2 : Hid (DAt (wc.setCell ⟨w.heap.size + 1 + 1 + 1, i + 4, none⟩ (.int .u64 (un (mj (Cw.qw a i) b i (mi a b i) 4).2))) (w.heap.size + 1 + 1) (fun _ => 0#64)) := HR.out.z3y (by omega) _
     have HA2 : Hid (NAt (wc.setCell ⟨w.heap.size + 1 + 1 + 1, i + 4, none⟩ (.int .u64 (un (mj (Cw.qw a i) b i (mi a b i) 4).2))) w.heap.size a) := HA.out.z3y (by omega) _
     have HC2 : Hid (NAt (wc.setCell ⟨w.heap.size + 1 + 1 + 1, i + 4, none⟩ (.int .u64 (un (mj (Cw.qw a i) b i (mi a b i) 4).2))) (w.heap.size + 1) b) := HC.out.z3y (by omega) _
     have HB2 : Hid (Below w.heap.size w (wc.setCell ⟨w.heap.size + 1 + 1 + 1, i + 4, none⟩ (.int .u64 (un (mj (Cw.qw a i) b i (mi a b i) 4).2)))) := HB.out.setCell (by show w.heap.size ≤ w.heap.size + 1 + 1 + 1; omega) _
     clear HO HR HA HC HB
     go_wp2_with fail
     exact ⟨⟨i + 1, by omega, by go_num, HO2.out, HR2.out, HA2.out, HC2.out, HB2.out⟩, by simp [intOf]; omega⟩
  ·obtain rfl : i = 4 := by omega
   go_wp2_with (first | refine k5h rfl _ rfl (w.heap.size + 1 + 1 + 1) (mi a b 4) rfl HO.out ?_ | refine k1p rfl _ _ rfl (w.heap.size + 1 + 1) (mi a b 4) (fun _ => 0#64) rfl rfl HR.out ?_)
   exact k9y Tryz.results201 rfl (w.heap.size + 1 + 1) (mi a b 4) rfl (HR.out.setRow _) ⟨rfl, HB.out.trans ((z0a _ _ _).mono (by omega))⟩
end Ww
end Go.Proofs.YtbojijefenfbgaaGreatDoor

/- As QSeq: one operation of the head, 'extract' of a tuple, may also come up behind what stands behind the head ('x, y := ..'). -/
import Derived.Test.YtbojijefenfbgaaGreatDoorTtQSeq
namespace Go.Proofs.YtbojijefenfbgaaGreatDoor
open Go Go.RowKit
namespace Qt
def k1k (ops : Array Oper) (n e : Nat) : Bool := (List.range n).all fun i => i == e || (List.range (n + 1)).any fun j => decide (i < j) && j != e && Region.waitsFor .any ops j i
def relLB (ops : Array Oper) (n e : Nat) : Bool :=
 Region.noSelect ops && decide (n < ops.size) && decide (e < n) && ops.all (fun o => o.guard.isNone) && k1k ops n e && Region.chainB .any ops n &&
 (List.range n).all (fun i => match ops[i]? with
  | some oi => oi.after.all (fun g => !Region.binds .any g || decide (g.on < i)) && (List.range n).all (fun j => match ops[j]? with
   | some oj => (match oj.dst with
    | some d => (Region.waitsFor .any ops i j || !(oi.looksAt ops).contains d) && (i == j || oi.dst != some d)
    | none => true)
   | none => true)
  | none => false) &&
 (match ops[e]? with
  | some oe => (List.range ops.size).all fun j => match ops[j]? with
   | some oj => j == e || Region.waitsFor .any ops j e || Region.waitsFor .any ops e j || oe.apart ops oj
   | none => true
  | none => false) &&
 Region.seqB .any ops (ops.size - n) n (Array.ofFn (n := ops.size) fun i => decide (i.val < n))
theorem y8w {ops : Array Oper} {n e : Nat} {listed : Array Bool} (hs : k1k ops n e = true) (inv : HeadInv .any ops n listed) (hr : n ∈ Region.ready .any ops listed) : ∀ k i, n - i ≤ k → i < n → i ≠ e → listed.getD i false = true := by
 intro k
 induction k with
 | zero => intro i h1 h2; omega
 | succ k ih =>
  intro i h1 h2 h3
  have h4 := List.all_eq_true.1 hs i (List.mem_range.2 h2)
  simp only [Bool.or_eq_true, beq_iff_eq, h3, false_or] at h4
  obtain ⟨j, hj, hw⟩ := List.any_eq_true.1 h4
  simp only [Bool.and_eq_true, decide_eq_true_eq, bne_iff_ne] at hw
  obtain ⟨⟨hij, hje⟩, hw⟩ := hw
  have hjn : j < n + 1 := List.mem_range.1 hj
  obtain ⟨oj, hoj, g, hg, hb, hon⟩ := Region.waitsFor_spec hw
  rcases Nat.lt_or_ge j n with hlt | hge
  ·have := inv.closed j oj hoj (ih j (by omega) hlt hje) g hg hb
   rwa [hon] at this
  ·obtain rfl : j = n := by omega
   obtain ⟨_, o', ho', hall⟩ := mem_ready.1 hr
   obtain rfl : o' = oj := Option.some.inj (ho'.symm.trans hoj)
   have := hall g hg hb
   rwa [hon] at this
theorem y9y {ops : Array Oper} {n e : Nat} {listed : Array Bool} (hs : k1k ops n e = true) (hc : Region.chainB .any ops n = true) (inv : HeadInv .any ops n listed) {j0 : Nat} (hj0 : j0 < n) (hne : j0 ≠ e) (hun : listed.getD j0 true = false) : ∀ t, n ≤ t → t ∉ Region.ready .any ops listed := by
 intro t ht hr
 by_cases e1 : t = n
 ·subst e1
  have := y8w hs inv hr _ j0 (Nat.le_refl _) hj0 hne
  rw [getD_both hun] at this
  cases this
 ·obtain ⟨_, ot, hot, hall⟩ := mem_ready.1 hr
  have htlt : t < ops.size := (aL hot)
  have h1 := List.all_eq_true.1 hc t (List.mem_range.2 htlt)
  simp only [Bool.or_eq_true, decide_eq_true_eq] at h1
  rcases h1 with h1 | h1
  ·omega
  ·obtain ⟨o', ho', g, hg, hb, hon⟩ := Region.waitsFor_spec h1
   obtain rfl : o' = ot := Option.some.inj (ho'.symm.trans hot)
   have h2 := hall g hg hb
   rw [hon, getD_both (inv.tail (t - 1) (by omega) (by omega))] at h2
   cases h2
theorem y8r {P : Program} {o : Oper} {a : Act} {x : Operand} {k : Nat} (ho : o.op = .extract x k) {w : World} {v : Value} (h : z5g P w (pu v) ((execOp a.eval o).run P w)) (w' : World) : (execOp a.eval o).run P w' = .ok (.value v) w' := by
 unfold execOp at *
 simp only [ho, Sem.run_bind] at *
 generalize a.eval x = u at *
 unfold Instr.extract at *
 cases u with
 | tuple vs =>
  simp only at *
  cases hv : vs[k]? with
  | none => rw [hv] at h; exact h.elim
  | some y =>
   rw [hv] at h
   have e : y = v := h.1
   subst e
   rfl
 | _ => exact h.elim
section
variable {P : Program} {W : World} {l : List Oper} {n : Nat} {R : Nat → Value → World → Prop} {a0 : Act} {Q : Exit → Act → World → Prop}
theorem q3z {e : Nat} {v : Value} (hB : relLB l.toArray n e = true) (hRe : R e = pu v) (oe : Oper) (hoe : l[e]? = some oe) (x : Operand) (kx : Nat) (hop : oe.op = .extract x kx) (hQ : ∀ c a w, Q (.panic c) (a.put oe.dst v) w → Q (.panic c) a w) (hR : ∀ j u w w', R j u w → Below w.heap.size w w' → R j u w')
  (hstep : ∀ i o, i < n → l[i]? = some o → ∀ U w, Below W.heap.size W w → (∀ j, j < n → Region.waitsFor .any l.toArray i j = true → R j (U j) w) → z5g P w (R i) ((execOp (z1l U (l.take n) 0 a0).eval o).run P w))
  (hend : ∀ U w, Below W.heap.size W w → (∀ j, j < n → R j (U j) w) → wpList P l.toArray Q (l.drop n) (z1l U (l.take n) 0 a0) w) (f : Nat) :
  ∀ listed U w, left listed n = f → HeadInv .any l.toArray n listed → Below W.heap.size W w → (∀ j, j < n → listed.getD j false = true → R j (U j) w) → wpAny P .any l.toArray Q (l.toArray.size - n + f) listed (laid U listed (l.take n) 0 a0) w := by
 simp only [relLB, Bool.and_eq_true, decide_eq_true_eq] at hB
 obtain ⟨⟨⟨⟨⟨⟨⟨⟨hsel, hn⟩, hen⟩, hgd⟩, hs⟩, hc⟩, hdep⟩, hap⟩, hseq⟩ := hB
 have hn' : n < l.length := by simpa using hn
 have htl : (l.take n).length = n := by simp; omega
 have hdl : (l.drop n).length = l.toArray.size - n := by simp
 induction f with
 | zero =>
  intro listed U w hf inv hw hr
  have hall : ∀ j, j < n → listed.getD j false = true := fun j hj => z8b (by rw [inv.size]; omega) (y1b _ _ hf j hj)
  have hl : listed = Array.ofFn (n := l.toArray.size) fun i => decide (i.val < n) := by
   apply Array.ext
   ·simp [inv.size]
   ·intro i h1 h2
    simp only [Array.getElem_ofFn]
    by_cases hin : i < n
    ·have := hall i hin
     simp [Array.getD_eq_getD_getElem?, h1] at this
     rw [this]; simp [hin]
    ·have := inv.tail i (by omega) (by rw [← inv.size]; exact h1)
     simp [Array.getD_eq_getD_getElem?, h1] at this
     rw [this]; simp [hin]
  rw [x1g _ _ _ _ _ (fun j _ hj => hall j (by rw [htl] at hj; omega))]
  have := wpAny_of_seq (md := .any) (Q' := Q) (l.drop n) n listed (z1l U (l.take n) 0 a0) w (fun j => by simp [List.getElem?_drop]) (by rw [hdl, hl]; exact hseq) (hend U w hw fun j hj => hr j hj (hall j hj))
  rw [hdl] at this
  exact this
 | succ f ih =>
  intro listed U w hf inv hw hr
  have hinfo : ∀ i, i < n → ∃ oi, l[i]? = some oi ∧ l.toArray[i]? = some oi ∧ (∀ g ∈ oi.after, Region.binds .any g = true → g.on < i) ∧ ∀ j oj, j < n → l.toArray[j]? = some oj → ∀ d, oj.dst = some d → (Region.waitsFor .any l.toArray i j = true ∨ d ∉ oi.looksAt l.toArray) ∧ (i = j ∨ oi.dst ≠ some d) := by
   intro i hi
   have h1 := List.all_eq_true.1 hdep i (List.mem_range.2 hi)
   obtain ⟨oi, hoi⟩ : ∃ oi, l[i]? = some oi := ⟨l[i], by simp [show i < l.length by omega]⟩
   have hoi' : l.toArray[i]? = some oi := by simpa using hoi
   rw [hoi'] at h1
   simp only [Bool.and_eq_true] at h1
   refine ⟨oi, hoi, hoi', fun g hg hb => ?_, fun j oj hj hoj d hd => ?_⟩
   ·have := Array.all_eq_true_iff_forall_mem.1 h1.1 g hg
    simpa [hb] using this
   ·have h2 := List.all_eq_true.1 h1.2 j (List.mem_range.2 hj)
    rw [hoj] at h2
    simp only [hd, Bool.and_eq_true, Bool.or_eq_true, beq_iff_eq, bne_iff_ne, Bool.not_eq_true'] at h2
    refine ⟨h2.1.imp id fun h => ?_, h2.2⟩
    intro hm
    rw [List.contains_iff_mem.2 hm] at h
    cases h
  obtain ⟨j0, hj0, hun0, hbelow⟩ := x1h listed n (by omega)
  have hready : j0 ∈ Region.ready .any l.toArray listed := by
   obtain ⟨o0, _, ho0, hback, _⟩ := hinfo j0 hj0
   refine mem_ready.2 ⟨hun0, o0, ho0, fun g hg hb => ?_⟩
   have := hback g hg hb
   exact z8b (by rw [inv.size]; omega) (hbelow _ this)
  have hoe' : l.toArray[e]? = some oe := by simpa using hoe
  by_cases her : e ∈ Region.ready .any l.toArray listed
  ·obtain ⟨hun, oi0, hoi0, hall⟩ := mem_ready.1 her
   obtain rfl : oi0 = oe := Option.some.inj (hoi0.symm.trans hoe')
   obtain ⟨oi, hoi, hoi', hback, hlook⟩ := hinfo e hen
   obtain rfl : oi0 = oi := Option.some.inj (hoi0.symm.trans hoi')
   have hg : oi0.guard = none := by
    have h1 := Array.all_eq_true_iff_forall_mem.1 hgd oi0 (Array.mem_of_getElem? hoi')
    simpa using h1
   have hwl : ∀ j, Region.waitsFor .any l.toArray e j = true → listed.getD j false = true := fun j hj => by
    obtain ⟨oj, hoj, g, hgm, hb, hon⟩ := Region.waitsFor_spec hj
    obtain rfl : oj = oi0 := Option.some.inj (hoj.symm.trans hoi')
    rw [← hon]
    exact hall g hgm hb
   have hexec : execOp (laid U listed (l.take n) 0 a0).eval oi0 = execOp (z1l U (l.take n) 0 a0).eval oi0 := execOp_congr oi0 (fun cs b => Region.noSelect_spec hsel e oi0 cs b hoi') fun x hx => y0z U listed x (l.take n) 0 a0 a0 rfl rfl fun j oj hj d hd hxd => by
    have hjn : j < n := by
     have := (lL hj)
     omega
    have hj' : l.toArray[j]? = some oj := by
     rw [List.getElem?_take_of_lt hjn] at hj
     simpa using hj
    rcases (hlook j oj hjn hj' d hd).1 with h | h
    ·rw [Nat.zero_add]; exact hwl j h
    ·exact absurd (by
      subst hxd
      exact List.mem_append_left _ (List.mem_filterMap.2 ⟨.tmp d, by simpa using hx, rfl⟩)) h
   have hst := hstep e oi0 hen hoe U w hw fun j hj hwt => hr j hj (hwl j hwt)
   rw [hRe] at hst
   have hany := y8r hop hst
   rw [← hexec] at hany
   have hset := y4a U listed e v oi0 hun (l.take n) 0 a0 (by omega) (by rw [Nat.sub_zero, List.getElem?_take_of_lt hen]; exact hoe) (fun j o hj hne d hd hd' => by
    have hjn : j < n := by
     have := (lL hj)
     omega
    have hj' : l.toArray[j]? = some o := by
     rw [List.getElem?_take_of_lt hjn] at hj
     simpa using hj
    rcases (hlook j o hjn hj' d hd').2 with h | h
    ·omega
    ·exact h hd)
   refine wpAny_first hoe' (Region.noSelect_spec hsel) hQ _ listed _ w (fun j oj hj hne hjl hno => ?_) her (Or.inl ⟨by simp [Region.wanted, hg], hany⟩) ?_
   ·rw [hoe'] at hap
    have h1 := List.all_eq_true.1 hap j (List.mem_range.2 (aL hj))
    rw [hj] at h1
    simp only [Bool.or_eq_true, beq_iff_eq] at h1
    rcases h1 with ((h1 | h1) | h1) | h1
    ·exact absurd h1 hne
    ·obtain ⟨o', ho', g, hgm, hb, hon⟩ := Region.waitsFor_spec h1
     obtain rfl : o' = oj := Option.some.inj (ho'.symm.trans hj)
     exact absurd hon (hno g hgm hb)
    ·have := hwl j h1
     rw [getD_both hjl] at this
     cases this
    ·exact h1
   ·rw [← hset]
    refine ih _ _ _ ?_ (inv.set her hen) hw fun j hj hl => ?_
    ·have := y4b listed e n hun
     rw [if_pos hen] at this
     omega
    ·by_cases ej : j = e
     ·simp only [ej, if_true]
      rw [hRe]
      rfl
     ·simp only [if_neg ej]
      rw [getD_set_ne false (Ne.symm ej)] at hl
      exact hr j hj hl
  refine ⟨fun h0 => (by rw [h0] at hready; cases hready), fun i hi => ?_⟩
  have hin : i < n := by
   rcases Nat.lt_or_ge i n with h | h
   ·exact h
   ·exact absurd hi (y9y hs hc inv hj0 (fun e0 => her (e0 ▸ hready)) hun0 i h)
  obtain ⟨hun, oi0, hoi0, hall⟩ := mem_ready.1 hi
  obtain ⟨oi, hoi, hoi', hback, hlook⟩ := hinfo i hin
  obtain rfl : oi0 = oi := Option.some.inj (hoi0.symm.trans hoi')
  have hg : oi0.guard = none := by
   have h1 := Array.all_eq_true_iff_forall_mem.1 hgd oi0 (Array.mem_of_getElem? hoi')
   simpa using h1
  have hwl : ∀ j, Region.waitsFor .any l.toArray i j = true → listed.getD j false = true := fun j hj => by
   obtain ⟨oj, hoj, g, hg', hb, hon⟩ := Region.waitsFor_spec hj
   obtain rfl : oj = oi0 := Option.some.inj (hoj.symm.trans hoi')
   rw [← hon]
   exact hall g hg' hb
  have hexec : execOp (laid U listed (l.take n) 0 a0).eval oi0 = execOp (z1l U (l.take n) 0 a0).eval oi0 := execOp_congr oi0 (fun cs b => Region.noSelect_spec hsel i oi0 cs b hoi') fun x hx => y0z U listed x (l.take n) 0 a0 a0 rfl rfl fun j oj hj d hd hxd => by
   have hjn : j < n := by
    have := (lL hj)
    omega
   have hj' : l.toArray[j]? = some oj := by
    rw [List.getElem?_take_of_lt hjn] at hj
    simpa using hj
   rcases (hlook j oj hjn hj' d hd).1 with h | h
   ·rw [Nat.zero_add]; exact hwl j h
   ·exact absurd (by
     subst hxd
     exact List.mem_append_left _ (List.mem_filterMap.2 ⟨.tmp d, by simpa using hx, rfl⟩)) h
  have hst := hstep i oi0 hin hoi U w hw fun j hj hwt => hr j hj (hwl j hwt)
  rw [← hexec] at hst
  unfold wpOp
  simp only [hoi']
  rw [if_pos (by simp [Region.wanted, hg])]
  refine .inl (hst.wp fun u w' hu hb => ?_)
  have hset := y4a U listed i u oi0 hun (l.take n) 0 a0 (by omega) (by rw [Nat.sub_zero, List.getElem?_take_of_lt hin]; exact hoi) (fun j o hj hne d hd hd' => by
   have hjn : j < n := by
    have := (lL hj)
    omega
   have hj' : l.toArray[j]? = some o := by
    rw [List.getElem?_take_of_lt hjn] at hj
    simpa using hj
   rcases (hlook j o hjn hj' d hd').2 with h | h
   ·omega
   ·exact h hd)
  rw [← hset]
  refine ih _ _ _ ?_ (inv.set hi hin) (hw.trans (hb.mono hw.size)) fun j hj hl => ?_
  ·have := y4b listed i n hun
   rw [if_pos hin] at this
   omega
  ·by_cases ej : j = i
   ·simp only [ej, if_true]; exact hu
   ·simp only [if_neg ej]
    rw [getD_set_ne false (Ne.symm ej)] at hl
    exact hR _ _ _ _ (hr j hj hl) hb
end
theorem k2b {P : Program} {id : Nat} {Q : Exit → Act → World → Prop} {a : Act} {w : World} {l : List Oper} (n e : Nat) (v : Value) (R : Nat → Value → World → Prop) (hm : P.follows .mixedOrders = true) (hB : relLB l.toArray n e = true) (hRe : R e = pu v) (oe : Oper) (hoe : l[e]? = some oe) (x : Operand) (kx : Nat) (hop : oe.op = .extract x kx) (hQ : ∀ c a w, Q (.panic c) (a.put oe.dst v) w → Q (.panic c) a w) (hR : ∀ j u w w', R j u w → Below w.heap.size w w' → R j u w')
  (hstep : ∀ i o, i < n → l[i]? = some o → ∀ U w', Below w.heap.size w w' → (∀ j, j < n → Region.waitsFor .any l.toArray i j = true → R j (U j) w') → z5g P w' (R i) ((execOp (z1l U (l.take n) 0 a).eval o).run P w'))
  (hend : ∀ U w', Below w.heap.size w w' → (∀ j, j < n → R j (U j) w') → wpList P l.toArray Q (l.drop n) (z1l U (l.take n) 0 a) w') : (Code.region id l.toArray true).wp P Q a w := by
 refine wp_region_any hm ?_
 have hn : n < l.toArray.size := by
  simp only [relLB, Bool.and_eq_true, decide_eq_true_eq] at hB
  exact hB.1.1.1.1.1.1.1.2
 have inv0 : HeadInv .any l.toArray n (Array.replicate l.toArray.size false) :=
  ⟨by simp, fun j oj _ hl => (by rw [getD_replicate_false] at hl; cases hl), fun t _ ht => getD_in (by simpa using ht) (getD_replicate_false _ _)⟩
 have hleft : ∀ m, m ≤ l.toArray.size → left (Array.replicate l.toArray.size false) m = m := by
  intro m
  induction m with
  | zero => intro _; rfl
  | succ m ih =>
   intro h
   unfold left
   rw [ih (by omega), getD_in (by simp at h ⊢; omega) (getD_replicate_false _ _)]
   rfl
 have hlaid : ∀ (l' : List Oper) k, laid (fun _ => undef) (Array.replicate l.toArray.size false) l' k a = a := by
  intro l'
  induction l' with
  | nil => intro k; rfl
  | cons o l' ih =>
   intro k
   unfold laid
   rw [if_neg (by rw [getD_replicate_false]; decide)]
   exact ih _
 have := q3z (P := P) (W := w) (Q := Q) (a0 := a) hB hRe oe hoe x kx hop hQ hR hstep hend n (Array.replicate l.toArray.size false) (fun _ => undef) { w with drawn := w.drawn + 1 } (hleft n (by omega)) inv0 ⟨rfl, rfl, rfl, Nat.le_refl _, fun _ _ => rfl⟩ (fun j _ hl => (by rw [getD_replicate_false] at hl; cases hl))
 rw [hlaid, show l.toArray.size - n + n = l.toArray.size by omega] at this
 exact this
theorem k2c {P : Program} {id : Nat} {Q : Exit → Act → World → Prop} {a : Act} {w : World} {l : List Oper} (n e : Nat) (v : Value) (R : Nat → Value → World → Prop) (hm : P.follows .mixedOrders = true) (hB : relLB l.toArray n e = true) (hRe : R e = pu v) (oe : Oper) (hoe : l[e]? = some oe) (x : Operand) (kx : Nat) (hop : oe.op = .extract x kx) (hQ : ∀ c a w, Q (.panic c) (a.put oe.dst v) w → Q (.panic c) a w) (hR : ∀ j u w w', R j u w → Below w.heap.size w w' → R j u w')
  (h : x3a P l.toArray w R (fun a' w' => wpList P l.toArray Q (l.drop n) a' w') (l.take n) 0 (fun _ _ => True) a) : (Code.region id l.toArray true).wp P Q a w := by
 have hB' := hB
 simp only [relLB, Bool.and_eq_true, decide_eq_true_eq] at hB'
 obtain ⟨⟨⟨⟨⟨⟨⟨⟨hsel, hn⟩, _⟩, hgd⟩, _⟩, hc⟩, hdep⟩, _⟩, hseq⟩ := hB'
 have hnl : n < l.length := by simpa using hn
 have htl : (l.take n).length = n := by simp; omega
 have hinfo : ∀ i, i < n → ∀ oi, l[i]? = some oi → (∀ g ∈ oi.after, Region.binds .any g = true → g.on < i) ∧ ∀ j oj, j < n → l[j]? = some oj → ∀ d, oj.dst = some d → Region.waitsFor .any l.toArray i j = true ∨ d ∉ oi.looksAt l.toArray := by
  intro i hi oi hoi
  have h1 := List.all_eq_true.1 hdep i (List.mem_range.2 hi)
  have hoi' : l.toArray[i]? = some oi := by simpa using hoi
  rw [hoi'] at h1
  simp only [Bool.and_eq_true] at h1
  refine ⟨fun g hg hb => by simpa [hb] using Array.all_eq_true_iff_forall_mem.1 h1.1 g hg, fun j oj hj hoj d hd => ?_⟩
  have h2 := List.all_eq_true.1 h1.2 j (List.mem_range.2 hj)
  have hoj' : l.toArray[j]? = some oj := by simpa using hoj
  rw [hoj'] at h2
  simp only [hd, Bool.and_eq_true, Bool.or_eq_true, Bool.not_eq_true'] at h2
  refine h2.1.imp (fun h => h) fun h hm => ?_
  rw [List.contains_iff_mem.2 hm] at h
  cases h
 have hback : ∀ i, i < n → ∀ oi, l[i]? = some oi → ∀ j, Region.waitsFor .any l.toArray i j = true → j < i := by
  intro i hi oi hoi j hj
  obtain ⟨oj, hoj, g, hg, hb, hon⟩ := Region.waitsFor_spec hj
  have hoi' : l.toArray[i]? = some oi := by simpa using hoi
  obtain rfl : oj = oi := Option.some.inj (hoj.symm.trans hoi')
  rw [← hon]
  exact (hinfo i hi oj hoi).1 g hg hb
 have hframe : ∀ U V i oi, i < n → l[i]? = some oi → (∀ j, j < n → Region.waitsFor .any l.toArray i j = true → U j = V j) → execOp (z1l U (l.take n) 0 a).eval oi = execOp (z1l V (l.take i) 0 a).eval oi := by
  intro U V i oi hi hoi hU
  refine execOp_congr oi (fun cs b => Region.noSelect_spec hsel i oi cs b (by simpa using hoi)) fun x hx => ?_
  have hlook : ∀ j oj, j < n → l[j]? = some oj → ∀ d, oj.dst = some d → x = .tmp d → Region.waitsFor .any l.toArray i j = true := by
   intro j oj hj hoj d hd hxd
   rcases (hinfo i hi oi hoi).2 j oj hj hoj d hd with h | h
   ·exact h
   ·exact absurd (by
     subst hxd
     exact List.mem_append_left _ (List.mem_filterMap.2 ⟨.tmp d, by simpa using hx, rfl⟩)) h
  have hsplit : l.take n = l.take i ++ (l.take n).drop i := by
   have h1 := (List.take_append_drop i (l.take n)).symm
   rw [List.take_take, Nat.min_eq_left (by omega)] at h1
   exact h1
  rw [hsplit, y6i, y3x _ _ _ _ _ (fun o ho d hd hxd => by
   obtain ⟨j, hj⟩ := List.mem_iff_getElem?.1 ho
   rw [List.getElem?_drop] at hj
   have hjn : i + j < n := by
    have := (lL hj)
    simp at this
    omega
   rw [List.getElem?_take_of_lt hjn] at hj
   have hw := hlook (i + j) o hjn hj d hd hxd
   have := hback i hi oi hoi _ hw
   omega)]
  refine y0u U V x (l.take i) 0 a a rfl rfl fun j o hj d hd hxd => ?_
  have hji : j < i := by
   have := (lL hj)
   simp at this
   omega
  rw [List.getElem?_take_of_lt hji] at hj
  rw [Nat.zero_add]
  exact hU j (by omega) (hlook j o (by omega) hj d hd hxd)
 refine k2b n e v R hm hB hRe oe hoe x kx hop hQ hR (fun i o hi ho U w' hw' hU => ?_) (fun U w' hw' hU => ?_)
 ·obtain ⟨V, hV, hst, _⟩ := x7h U (l.take n) 0 _ a h
  have hVU : ∀ j, j < n → Region.waitsFor .any l.toArray i j = true → U j = V j ∧ R j (V j) w' := fun j hj hwt => by
   rcases hV j with ee | ee
   ·rw [ee]; exact ⟨rfl, hU j hj hwt⟩
   ·have := hU j hj hwt
    rw [ee] at this
    have e2 : U j = V j := this
    rw [ee]
    exact ⟨e2, rfl⟩
  rw [hframe U V i o hi ho fun j hj hwt => (hVU j hj hwt).1]
  have := hst i o (by rw [List.getElem?_take_of_lt hi]; exact ho) w' hw' fun j hj => by
   rw [Nat.zero_add] at hj
   exact ⟨trivial, fun _ => (hVU j (by have := hback i hi o ho j hj; omega) hj).2⟩
  rw [Nat.zero_add, List.take_take, Nat.min_eq_left (by omega)] at this
  exact this
 ·obtain ⟨V, hV, _, hen⟩ := x7h U (l.take n) 0 _ a h
  have hVU : ∀ j, j < n → U j = V j ∧ R j (V j) w' := fun j hj => by
   rcases hV j with ee | ee
   ·rw [ee]; exact ⟨rfl, hU j hj⟩
   ·have := hU j hj
    rw [ee] at this
    have e2 : U j = V j := this
    rw [ee]
    exact ⟨e2, rfl⟩
  rw [z7n U V _ _ _ fun j _ hj => (hVU j (by rw [htl] at hj; omega)).1]
  exact hen w' hw' fun j => ⟨trivial, fun _ hj => (hVU j (by rw [htl] at hj; omega)).2⟩
end Qt
end Go.Proofs.YtbojijefenfbgaaGreatDoor

/- A region that draws its order, whose first n operations may make new blocks: of each one's value and the world something is said that lasts (R); what an operation looks at has come up before it. Then it holds of all of them behind the head, whatever the order. -/
/- A region that draws its order: its first m operations leave the worlds of a class and yield one value each; the next one may make new blocks (a slice written out, a conversion, ..), of its value and the world something is said that lasts; the others stand in a row behind them. -/
/- An element appended to a slice of the call's own: the law in one form. -/
/- Walks of the program's signing: timesBase. -/
import Derived.Test.YtbojijefenfbgaaGreatDoorTkQStore
import Derived.Laws.AppendOwn
import Derived.OwnWalk
import Derived.Below
import Derived.Test.YtbojijefenfbgaaGreatDoorTkScalarA
import Derived.Great.BuildSlice
namespace Go.Proofs.YtbojijefenfbgaaGreatDoor
open Go Go.RowKit
namespace Qt
/-- What is asked of an operation carried out in w. -/
def UponR (P : Program) (w : World) (R : Value → World → Prop) : Result Next → Prop
  | .ok (.value u) w1 => R u w1 ∧ Below w.heap.size w w1
  | .ok (.enter f args) w1 => Calls P f args w1 (fun e w'' => ∃ u, e = .returned u ∧ R u w'' ∧ Below w.heap.size w w'')
  | _ => False
theorem UponR.wp {P : Program} {w : World} {o : Oper} {R : Value → World → Prop} {a : Act} {Q : Exit → Act → World → Prop} {K : Act → World → Prop} (h : UponR P w R ((execOp a.eval o).run P w)) (hK : ∀ u w', R u w' → Below w.heap.size w w' → K (a.put o.dst u) w') : o.wp P a w K Q := by
  unfold Oper.wp
  generalize (execOp a.eval o).run P w = r at h
  cases r with
  | halt x w' => cases h
  | ok x w' =>
    cases x with
    | value u => exact hK _ _ h.1 h.2
    | enter f args => exact Calls.mono h fun e w'' ⟨u, he, hr, hb⟩ => by subst he; exact hK _ _ hr hb
    | _ => cases h
/-- The values that have come up, put down in the text's order. -/
def laid (U : Nat → Value) (listed : Array Bool) : List Oper → Nat → Act → Act
  | [], _, a => a
  | o :: l, k, a => laid U listed l (k + 1) (if listed.getD k false = true then a.put o.dst (U k) else a)
/-- All of them. -/
def fullA (U : Nat → Value) : List Oper → Nat → Act → Act
  | [], _, a => a
  | o :: l, k, a => fullA U l (k + 1) (a.put o.dst (U k))
theorem laid_put (U : Nat → Value) (listed : Array Bool) (x : Option Tmp) (v : Value) (l : List Oper) : ∀ k a, (∀ o ∈ l, ∀ d, x = some d → o.dst ≠ some d) → laid U listed l k (a.put x v) = (laid U listed l k a).put x v := by
  induction l with
  | nil => intros; rfl
  | cons o l ih =>
    intro k a h
    unfold laid
    by_cases hk : listed.getD k false = true
    · rw [if_pos hk, if_pos hk, ← ih _ _ fun o' ho' => h o' (List.mem_cons_of_mem _ ho'), Act.put_comm a v (U k) (h o (List.mem_cons_self ..))]
    · rw [if_neg hk, if_neg hk]
      exact ih _ _ fun o' ho' => h o' (List.mem_cons_of_mem _ ho')
theorem laid_congr (U V : Nat → Value) (l1 l2 : Array Bool) (l : List Oper) : ∀ k a, (∀ j, k ≤ j → l1.getD j false = l2.getD j false ∧ U j = V j) → laid U l1 l k a = laid V l2 l k a := by
  induction l with
  | nil => intros; rfl
  | cons o l ih =>
    intro k a h
    unfold laid
    rw [(h k (Nat.le_refl _)).1, (h k (Nat.le_refl _)).2]
    exact ih _ _ fun j hj => h j (by omega)
theorem laid_set (U : Nat → Value) (listed : Array Bool) (i : Nat) (u : Value) (oi : Oper) (hi : listed.getD i true = false) (l : List Oper) : ∀ k a, k ≤ i → l[i - k]? = some oi → (∀ j o, l[j]? = some o → k + j ≠ i → ∀ d, oi.dst = some d → o.dst ≠ some d) →
    laid (fun j => if j = i then u else U j) (listed.setIfInBounds i true) l k a = (laid U listed l k a).put oi.dst u := by
  have hsz : i < listed.size := by
    rcases Nat.lt_or_ge i listed.size with h | h
    · exact h
    · simp [Array.getD_eq_getD_getElem?, Array.getElem?_eq_none h] at hi
  induction l with
  | nil => intro k a _ h; simp at h
  | cons o l ih =>
    intro k a hk ho hd
    unfold laid
    by_cases e : k = i
    · subst e
      have h1 : (listed.setIfInBounds k true).getD k false = true := by simp [Array.getD_eq_getD_getElem?, hsz]
      have h2 : ¬ listed.getD k false = true := by rw [getD_both hi]; decide
      rw [if_pos h1, if_neg h2, if_pos rfl]
      have ho' : o = oi := by simpa using ho
      subst ho'
      rw [← laid_put _ _ _ _ _ _ _ (fun o' ho' => by
        obtain ⟨j, hj⟩ := List.mem_iff_getElem?.1 ho'
        exact hd (j + 1) o' (by simpa using hj) (by omega))]
      exact laid_congr _ _ _ _ _ _ _ fun j hj => ⟨getD_set_ne false (by omega), if_neg (by omega)⟩
    · have h1 : (listed.setIfInBounds i true).getD k false = listed.getD k false := getD_set_ne false (Ne.symm e)
      rw [h1, if_neg e]
      exact ih _ _ (by omega) (by rw [show i - k = (i - (k + 1)) + 1 by omega] at ho; simpa using ho) fun j o' hj hne => hd (j + 1) o' (by simpa using hj) (by omega)
theorem laid_all (U : Nat → Value) (listed : Array Bool) (l : List Oper) : ∀ k a, (∀ j, k ≤ j → j < k + l.length → listed.getD j false = true) → laid U listed l k a = fullA U l k a := by
  induction l with
  | nil => intros; rfl
  | cons o l ih =>
    intro k a h
    unfold laid fullA
    rw [if_pos (h k (Nat.le_refl _) (by simp))]
    exact ih _ _ fun j h1 h2 => h j (by omega) (by simp at h2 ⊢; omega)
theorem laid_eval (U : Nat → Value) (listed : Array Bool) (x : Operand) (l : List Oper) : ∀ k (a a' : Act), a.tmps.size = a'.tmps.size → a.eval x = a'.eval x → (∀ j o, l[j]? = some o → ∀ d, o.dst = some d → x = .tmp d → listed.getD (k + j) false = true) → (laid U listed l k a).eval x = (fullA U l k a').eval x := by
  induction l with
  | nil => intro k a a' _ h _; exact h
  | cons o l ih =>
    intro k a a' hs he h
    unfold laid fullA
    have hput : ∀ (b : Act) d v, (b.put d v).tmps.size = b.tmps.size := fun b d v => by cases d <;> simp [Act.put]
    refine ih _ _ _ ?_ ?_ fun j o' hj d hd hx => by
      have := h (j + 1) o' (by simpa using hj) d hd hx
      rwa [show k + (j + 1) = k + 1 + j by omega] at this
    · split <;> simp [hput, hs]
    · by_cases hk : listed.getD k false = true
      · rw [if_pos hk]
        cases hd : o.dst with
        | none => exact he
        | some d =>
          cases x with
          | tmp t =>
            simp only [Act.eval, Act.put, Array.getD_eq_getD_getElem?, Array.getElem?_setIfInBounds, hs] at he ⊢
            split
            · rfl
            · exact he
          | _ => exact he
      · rw [if_neg hk, Act.eval_put (fun d hd hx => hk (h 0 o rfl d hd hx))]
        exact he
/-- How many of the head are still to come. -/
def left (listed : Array Bool) : Nat → Nat
  | 0 => 0
  | n + 1 => left listed n + (if listed.getD n true = true then 0 else 1)
theorem left_zero (listed : Array Bool) (n : Nat) (h : left listed n = 0) : ∀ j, j < n → listed.getD j true = true := by
  induction n with
  | zero => intro j hj; omega
  | succ n ih =>
    intro j hj
    unfold left at h
    by_cases e : j = n
    · subst e
      by_cases hl : listed.getD j true = true
      · exact hl
      · rw [if_neg hl] at h; omega
    · exact ih (by omega) j (by omega)
theorem left_set (listed : Array Bool) (i n : Nat) (hi : listed.getD i true = false) : left (listed.setIfInBounds i true) n + (if i < n then 1 else 0) = left listed n := by
  have hsz : i < listed.size := by
    rcases Nat.lt_or_ge i listed.size with h | h
    · exact h
    · simp [Array.getD_eq_getD_getElem?, Array.getElem?_eq_none h] at hi
  induction n with
  | zero => simp [left]
  | succ n ih =>
    unfold left
    by_cases e : i = n
    · subst e
      have h1 : (listed.setIfInBounds i true).getD i true = true := by simp [Array.getD_eq_getD_getElem?, hsz]
      rw [h1, hi]
      simp at ih ⊢
      exact ih
    · rw [getD_set_ne true e]
      by_cases h : i < n
      · rw [if_pos h] at ih; rw [if_pos (show i < n + 1 by omega)]; omega
      · rw [if_neg h] at ih; rw [if_neg (show ¬ i < n + 1 by omega)]; omega
theorem left_pos (listed : Array Bool) (n : Nat) (h : 0 < left listed n) : ∃ j, j < n ∧ listed.getD j true = false ∧ ∀ k, k < j → listed.getD k true = true := by
  induction n with
  | zero => simp [left] at h
  | succ n ih =>
    by_cases h0 : 0 < left listed n
    · obtain ⟨j, h1, h2⟩ := ih h0
      exact ⟨j, by omega, h2⟩
    · refine ⟨n, by omega, ?_, left_zero _ _ (by omega)⟩
      unfold left at h
      by_cases hl : listed.getD n true = true
      · rw [if_pos hl] at h; omega
      · simpa using hl
/-- All that the theorem asks of a region. -/
def relB (ops : Array Oper) (n : Nat) : Bool :=
  Region.noSelect ops && decide (n < ops.size) && ops.all (fun o => o.guard.isNone) && Region.sinkB .any ops n && Region.chainB .any ops n &&
  (List.range n).all (fun i => match ops[i]? with
    | some oi => oi.after.all (fun e => decide (e.on < i)) && (List.range n).all (fun j => match ops[j]? with
      | some oj => (match oj.dst with
        | some d => (Region.waitsFor .any ops i j || !(oi.looksAt ops).contains d) && (i == j || oi.dst != some d)
        | none => true)
      | none => true)
    | none => false) &&
  Region.seqB .any ops (ops.size - n) n (Array.ofFn (n := ops.size) fun i => decide (i.val < n))
section
variable {P : Program} {W : World} {l : List Oper} {n : Nat} {R : Nat → Value → World → Prop} {a0 : Act} {Q : Exit → Act → World → Prop}
theorem getD_true {listed : Array Bool} {j : Nat} (hj : j < listed.size) (h : listed.getD j true = true) : listed.getD j false = true := by
  simp [Array.getD_eq_getD_getElem?, hj] at h ⊢; exact h
theorem rel_any (hB : relB l.toArray n = true) (hR : ∀ j u w w', R j u w → Below w.heap.size w w' → R j u w')
    (hstep : ∀ i o, i < n → l[i]? = some o → ∀ U w, Below W.heap.size W w → (∀ j, j < n → Region.waitsFor .any l.toArray i j = true → R j (U j) w) → UponR P w (R i) ((execOp (fullA U (l.take n) 0 a0).eval o).run P w))
    (hend : ∀ U w, Below W.heap.size W w → (∀ j, j < n → R j (U j) w) → wpList P l.toArray Q (l.drop n) (fullA U (l.take n) 0 a0) w) (f : Nat) :
    ∀ listed U w, left listed n = f → HeadInv .any l.toArray n listed → Below W.heap.size W w → (∀ j, j < n → listed.getD j false = true → R j (U j) w) → wpAny P .any l.toArray Q (l.toArray.size - n + f) listed (laid U listed (l.take n) 0 a0) w := by
  simp only [relB, Bool.and_eq_true, decide_eq_true_eq] at hB
  obtain ⟨⟨⟨⟨⟨⟨hsel, hn⟩, hgd⟩, hs⟩, hc⟩, hdep⟩, hseq⟩ := hB
  have hn' : n < l.length := by simpa using hn
  have htl : (l.take n).length = n := by simp; omega
  have hdl : (l.drop n).length = l.toArray.size - n := by simp
  induction f with
  | zero =>
    intro listed U w hf inv hw hr
    have hall : ∀ j, j < n → listed.getD j false = true := fun j hj => getD_true (by rw [inv.size]; omega) (left_zero _ _ hf j hj)
    have hl : listed = Array.ofFn (n := l.toArray.size) fun i => decide (i.val < n) := by
      apply Array.ext
      · simp [inv.size]
      · intro i h1 h2
        simp only [Array.getElem_ofFn]
        by_cases hin : i < n
        · have := hall i hin
          simp [Array.getD_eq_getD_getElem?, h1] at this
          rw [this]; simp [hin]
        · have := inv.tail i (by omega) (by rw [← inv.size]; exact h1)
          simp [Array.getD_eq_getD_getElem?, h1] at this
          rw [this]; simp [hin]
    rw [laid_all _ _ _ _ _ (fun j _ hj => hall j (by rw [htl] at hj; omega))]
    have := wpAny_of_seq (md := .any) (Q' := Q) (l.drop n) n listed (fullA U (l.take n) 0 a0) w (fun j => by simp [List.getElem?_drop]) (by rw [hdl, hl]; exact hseq) (hend U w hw fun j hj => hr j hj (hall j hj))
    rw [hdl] at this
    exact this
  | succ f ih =>
    intro listed U w hf inv hw hr
    have hinfo : ∀ i, i < n → ∃ oi, l[i]? = some oi ∧ l.toArray[i]? = some oi ∧ (∀ e ∈ oi.after, e.on < i) ∧ ∀ j oj, j < n → l.toArray[j]? = some oj → ∀ d, oj.dst = some d → (Region.waitsFor .any l.toArray i j = true ∨ d ∉ oi.looksAt l.toArray) ∧ (i = j ∨ oi.dst ≠ some d) := by
      intro i hi
      have h1 := List.all_eq_true.1 hdep i (List.mem_range.2 hi)
      obtain ⟨oi, hoi⟩ : ∃ oi, l[i]? = some oi := ⟨l[i], by simp [show i < l.length by omega]⟩
      have hoi' : l.toArray[i]? = some oi := by simpa using hoi
      rw [hoi'] at h1
      simp only [Bool.and_eq_true] at h1
      refine ⟨oi, hoi, hoi', fun e he => ?_, fun j oj hj hoj d hd => ?_⟩
      · have := Array.all_eq_true_iff_forall_mem.1 h1.1 e he
        simpa using this
      · have h2 := List.all_eq_true.1 h1.2 j (List.mem_range.2 hj)
        rw [hoj] at h2
        simp only [hd, Bool.and_eq_true, Bool.or_eq_true, beq_iff_eq, bne_iff_ne, Bool.not_eq_true'] at h2
        refine ⟨h2.1.imp id fun h => ?_, h2.2⟩
        intro hm
        rw [List.contains_iff_mem.2 hm] at h
        cases h
    obtain ⟨j0, hj0, hun0, hbelow⟩ := left_pos listed n (by omega)
    have hready : j0 ∈ Region.ready .any l.toArray listed := by
      obtain ⟨o0, _, ho0, hback, _⟩ := hinfo j0 hj0
      refine mem_ready.2 ⟨hun0, o0, ho0, fun e he _ => ?_⟩
      have := hback e he
      exact getD_true (by rw [inv.size]; omega) (hbelow _ this)
    refine ⟨fun h0 => (by rw [h0] at hready; cases hready), fun i hi => ?_⟩
    have hin : i < n := by
      rcases Nat.lt_or_ge i n with h | h
      · exact h
      · exact absurd hi (tail_waits hs hc hn inv _ j0 rfl hj0 hun0 i h)
    obtain ⟨hun, oi0, hoi0, hall⟩ := mem_ready.1 hi
    obtain ⟨oi, hoi, hoi', hback, hlook⟩ := hinfo i hin
    obtain rfl : oi0 = oi := Option.some.inj (hoi0.symm.trans hoi')
    have hg : oi0.guard = none := by
      have h1 := Array.all_eq_true_iff_forall_mem.1 hgd oi0 (Array.mem_of_getElem? hoi')
      simpa using h1
    have hwl : ∀ j, Region.waitsFor .any l.toArray i j = true → listed.getD j false = true := fun j hj => by
      obtain ⟨oj, hoj, e, he, hb, hon⟩ := Region.waitsFor_spec hj
      obtain rfl : oj = oi0 := Option.some.inj (hoj.symm.trans hoi')
      rw [← hon]
      exact hall e he hb
    have hexec : execOp (laid U listed (l.take n) 0 a0).eval oi0 = execOp (fullA U (l.take n) 0 a0).eval oi0 := execOp_congr oi0 (fun cs b => Region.noSelect_spec hsel i oi0 cs b hoi') fun x hx => laid_eval U listed x (l.take n) 0 a0 a0 rfl rfl fun j oj hj d hd hxd => by
      have hjn : j < n := by
        have := (List.getElem?_eq_some_iff.1 hj).1
        omega
      have hj' : l.toArray[j]? = some oj := by
        rw [List.getElem?_take_of_lt hjn] at hj
        simpa using hj
      rcases (hlook j oj hjn hj' d hd).1 with h | h
      · rw [Nat.zero_add]; exact hwl j h
      · exact absurd (by
          subst hxd
          exact List.mem_append_left _ (List.mem_filterMap.2 ⟨.tmp d, by simpa using hx, rfl⟩)) h
    have hst := hstep i oi0 hin hoi U w hw fun j hj hwt => hr j hj (hwl j hwt)
    rw [← hexec] at hst
    unfold wpOp
    simp only [hoi']
    rw [if_pos (by simp [Region.wanted, hg])]
    refine .inl (hst.wp fun u w' hu hb => ?_)
    have hset := laid_set U listed i u oi0 hun (l.take n) 0 a0 (by omega) (by rw [Nat.sub_zero, List.getElem?_take_of_lt hin]; exact hoi) (fun j o hj hne d hd hd' => by
      have hjn : j < n := by
        have := (List.getElem?_eq_some_iff.1 hj).1
        omega
      have hj' : l.toArray[j]? = some o := by
        rw [List.getElem?_take_of_lt hjn] at hj
        simpa using hj
      rcases (hlook j o hjn hj' d hd').2 with h | h
      · omega
      · exact h hd)
    rw [← hset]
    refine ih _ _ _ ?_ (inv.set hi hin) (hw.trans (hb.mono hw.size)) fun j hj hl => ?_
    · have := left_set listed i n hun
      rw [if_pos hin] at this
      omega
    · by_cases e : j = i
      · simp only [e, if_true]; exact hu
      · simp only [if_neg e]
        rw [getD_set_ne false (Ne.symm e)] at hl
        exact hR _ _ _ _ (hr j hj hl) hb
end
theorem wp_rel {P : Program} {id : Nat} {Q : Exit → Act → World → Prop} {a : Act} {w : World} {l : List Oper} (n : Nat) (R : Nat → Value → World → Prop) (hm : P.follows .mixedOrders = true) (hB : relB l.toArray n = true) (hR : ∀ j u w w', R j u w → Below w.heap.size w w' → R j u w')
    (hstep : ∀ i o, i < n → l[i]? = some o → ∀ U w', Below w.heap.size w w' → (∀ j, j < n → Region.waitsFor .any l.toArray i j = true → R j (U j) w') → UponR P w' (R i) ((execOp (fullA U (l.take n) 0 a).eval o).run P w'))
    (hend : ∀ U w', Below w.heap.size w w' → (∀ j, j < n → R j (U j) w') → wpList P l.toArray Q (l.drop n) (fullA U (l.take n) 0 a) w') : (Code.region id l.toArray true).wp P Q a w := by
  refine wp_region_any hm ?_
  have hn : n < l.toArray.size := by
    simp only [relB, Bool.and_eq_true, decide_eq_true_eq] at hB
    exact hB.1.1.1.1.1.2
  have inv0 : HeadInv .any l.toArray n (Array.replicate l.toArray.size false) :=
    ⟨by simp, fun j oj _ hl => (by rw [getD_replicate_false] at hl; cases hl), fun t _ ht => getD_in (by simpa using ht) (getD_replicate_false _ _)⟩
  have hleft : ∀ m, m ≤ l.toArray.size → left (Array.replicate l.toArray.size false) m = m := by
    intro m
    induction m with
    | zero => intro _; rfl
    | succ m ih =>
      intro h
      unfold left
      rw [ih (by omega), getD_in (by simp at h ⊢; omega) (getD_replicate_false _ _)]
      rfl
  have hlaid : ∀ (l' : List Oper) k, laid (fun _ => undef) (Array.replicate l.toArray.size false) l' k a = a := by
    intro l'
    induction l' with
    | nil => intro k; rfl
    | cons o l' ih =>
      intro k
      unfold laid
      rw [if_neg (by rw [getD_replicate_false]; decide)]
      exact ih _
  have := rel_any (P := P) (W := w) (Q := Q) (a0 := a) hB hR hstep hend n (Array.replicate l.toArray.size false) (fun _ => undef) { w with drawn := w.drawn + 1 } (hleft n (by omega)) inv0 ⟨rfl, rfl, rfl, Nat.le_refl _, fun _ _ => rfl⟩ (fun j _ hl => (by rw [getD_replicate_false] at hl; cases hl))
  rw [hlaid, show l.toArray.size - n + n = l.toArray.size by omega] at this
  exact this
end Qt
end Go.Proofs.YtbojijefenfbgaaGreatDoor
namespace Go.Proofs.YtbojijefenfbgaaGreatDoor
open Go Go.RowKit
namespace Qt
theorem fullA_congr (U V : Nat → Value) (l : List Oper) : ∀ k a, (∀ j, k ≤ j → j < k + l.length → U j = V j) → fullA U l k a = fullA V l k a := by
  induction l with
  | nil => intros; rfl
  | cons o l ih =>
    intro k a h
    unfold fullA
    rw [h k (Nat.le_refl _) (by simp)]
    exact ih _ _ fun j h1 h2 => h j (by omega) (by simp at h2 ⊢; omega)
theorem fullA_append (U : Nat → Value) (l1 l2 : List Oper) : ∀ k a, fullA U (l1 ++ l2) k a = fullA U l2 (k + l1.length) (fullA U l1 k a) := by
  induction l1 with
  | nil => intro k a; simp [fullA]
  | cons o l ih =>
    intro k a
    simp only [List.cons_append, fullA, ih, List.length_cons]
    rw [show k + 1 + l.length = k + (l.length + 1) by omega]
theorem put_size (b : Act) (d : Option Tmp) (v : Value) : (b.put d v).tmps.size = b.tmps.size := by cases d <;> simp [Act.put]
theorem full_eval_congr (U V : Nat → Value) (x : Operand) (l : List Oper) : ∀ k (a a' : Act), a.tmps.size = a'.tmps.size → a.eval x = a'.eval x → (∀ j o, l[j]? = some o → ∀ d, o.dst = some d → x = .tmp d → U (k + j) = V (k + j)) → (fullA U l k a).eval x = (fullA V l k a').eval x := by
  induction l with
  | nil => intro k a a' _ h _; exact h
  | cons o l ih =>
    intro k a a' hs he h
    unfold fullA
    refine ih _ _ _ (by rw [put_size, put_size]; exact hs) ?_ fun j o' hj d hd hx => by
      have := h (j + 1) o' (by simpa using hj) d hd hx
      rwa [show k + (j + 1) = k + 1 + j by omega] at this
    cases hd : o.dst with
    | none => exact he
    | some d =>
      cases x with
      | tmp t =>
        by_cases e : d = t
        · subst e
          have hv := h 0 o rfl d hd rfl
          rw [Nat.add_zero] at hv
          simp only [Act.eval, Act.put, Array.getD_eq_getD_getElem?, Array.getElem?_setIfInBounds, hs, hv] at he ⊢
          split
          · rfl
          · exact he
        · rw [Act.eval_put (fun d' hd' hx => e (by cases hd'; cases hx; rfl)), Act.eval_put (fun d' hd' hx => e (by cases hd'; cases hx; rfl))]
          exact he
      | _ => exact he
theorem full_eval_out (U : Nat → Value) (x : Operand) (l : List Oper) : ∀ k (a : Act), (∀ o ∈ l, ∀ d, o.dst = some d → x ≠ .tmp d) → (fullA U l k a).eval x = a.eval x := by
  induction l with
  | nil => intros; rfl
  | cons o l ih =>
    intro k a h
    unfold fullA
    rw [ih _ _ fun o' ho' => h o' (List.mem_cons_of_mem _ ho'), Act.eval_put (fun d hd hx => h o (List.mem_cons_self ..) d hd hx)]
theorem lex_vals {P : Program} {W : World} {K : Act → Prop} (l : List Oper) : ∀ (k : Nat) (a : Act), Lex P W K l a → ∃ V : Nat → Value, (∀ i o, l[i]? = some o → Yb P W o (V (k + i)) (fullA V (l.take i) k a)) ∧ K (fullA V l k a) := by
  induction l with
  | nil => intro k a h; exact ⟨fun _ => undef, fun i o h => by simp at h, h⟩
  | cons o l ih =>
    intro k a ⟨v, hy, hl⟩
    obtain ⟨V', h1, h2⟩ := ih (k + 1) _ hl
    have hc : ∀ (L : List Oper) b, fullA (fun j => if j = k then v else V' j) L (k + 1) b = fullA V' L (k + 1) b := fun L b => fullA_congr _ _ _ _ _ fun j hj _ => if_neg (by omega)
    refine ⟨fun j => if j = k then v else V' j, fun i o' hi => ?_, ?_⟩
    · rcases i with _ | i
      · have e : o' = o := by simpa using hi.symm
        subst e
        simp only [List.take_zero, fullA, Nat.add_zero, if_pos]
        exact hy
      · simp only [List.take_succ_cons, fullA, if_pos, hc]
        have := h1 i o' (by simpa using hi)
        rw [if_neg (by omega), show k + (i + 1) = k + 1 + i by omega]
        exact this
    · simp only [fullA, if_pos, hc]
      exact h2
theorem yb_upon {P : Program} {W w : World} {o : Oper} {v : Value} {a : Act} (h : Yb P W o v a) (hw : Below W.heap.size W w) : UponR P w (fun u _ => u = v) ((execOp a.eval o).run P w) := by
  have h1 := h.2 w hw
  generalize (execOp a.eval o).run P w = r at h1
  cases r with
  | halt x w' => cases h1
  | ok x w' =>
    cases x with
    | value u =>
      obtain ⟨e1, e2⟩ := h1
      subst e1 e2
      exact ⟨rfl, Below.refl _ _⟩
    | enter f args =>
      obtain ⟨e1, hc⟩ := h1
      subst e1
      exact Calls.mono hc fun e w'' ⟨he, hb⟩ => ⟨v, he, rfl, hb⟩
    | _ => cases h1
theorem wp_last {P : Program} {id : Nat} {Q : Exit → Act → World → Prop} {a : Act} {w : World} {l : List Oper} (m : Nat) (R : Value → World → Prop) (hm : P.follows .mixedOrders = true) (hB : relB l.toArray (m + 1) = true) (hR : ∀ u w w', R u w → Below w.heap.size w w' → R u w') (om : Oper) (hom : l[m]? = some om)
    (h : Lex P w (fun a' => (∀ w', Below w.heap.size w w' → UponR P w' R ((execOp a'.eval om).run P w')) ∧ ∀ u w', Below w.heap.size w w' → R u w' → wpList P l.toArray Q (l.drop (m + 1)) (a'.put om.dst u) w') (l.take m) a) : (Code.region id l.toArray true).wp P Q a w := by
  obtain ⟨V, hV, hK1, hK2⟩ := lex_vals (l.take m) 0 a h
  have hB' := hB
  simp only [relB, Bool.and_eq_true, decide_eq_true_eq] at hB'
  obtain ⟨⟨⟨⟨⟨⟨hsel, hn⟩, hgd⟩, hs⟩, hc⟩, hdep⟩, hseq⟩ := hB'
  have hml : m < l.length := (List.getElem?_eq_some_iff.1 hom).1
  have hinfo : ∀ i, i < m + 1 → ∀ oi, l[i]? = some oi → (∀ e ∈ oi.after, e.on < i) ∧ ∀ j oj, j < m + 1 → l[j]? = some oj → ∀ d, oj.dst = some d → Region.waitsFor .any l.toArray i j = true ∨ d ∉ oi.looksAt l.toArray := by
    intro i hi oi hoi
    have h1 := List.all_eq_true.1 hdep i (List.mem_range.2 hi)
    have hoi' : l.toArray[i]? = some oi := by simpa using hoi
    rw [hoi'] at h1
    simp only [Bool.and_eq_true] at h1
    refine ⟨fun e he => by simpa using Array.all_eq_true_iff_forall_mem.1 h1.1 e he, fun j oj hj hoj d hd => ?_⟩
    have h2 := List.all_eq_true.1 h1.2 j (List.mem_range.2 hj)
    have hoj' : l.toArray[j]? = some oj := by simpa using hoj
    rw [hoj'] at h2
    simp only [hd, Bool.and_eq_true, Bool.or_eq_true, Bool.not_eq_true'] at h2
    refine h2.1.imp (fun h => h) fun h hm => ?_
    rw [List.contains_iff_mem.2 hm] at h
    cases h
  have hback : ∀ i, i < m + 1 → ∀ oi, l[i]? = some oi → ∀ j, Region.waitsFor .any l.toArray i j = true → j < i := by
    intro i hi oi hoi j hj
    obtain ⟨oj, hoj, e, he, _, hon⟩ := Region.waitsFor_spec hj
    have hoi' : l.toArray[i]? = some oi := by simpa using hoi
    obtain rfl : oj = oi := Option.some.inj (hoj.symm.trans hoi')
    rw [← hon]
    exact (hinfo i hi oj hoi).1 e he
  have hframe : ∀ U i oi, i < m + 1 → l[i]? = some oi → (∀ j, j < m + 1 → Region.waitsFor .any l.toArray i j = true → U j = V j) → execOp (fullA U (l.take (m + 1)) 0 a).eval oi = execOp (fullA V (l.take i) 0 a).eval oi := by
    intro U i oi hi hoi hU
    refine execOp_congr oi (fun cs b => Region.noSelect_spec hsel i oi cs b (by simpa using hoi)) fun x hx => ?_
    have hlook : ∀ j oj, j < m + 1 → l[j]? = some oj → ∀ d, oj.dst = some d → x = .tmp d → Region.waitsFor .any l.toArray i j = true := by
      intro j oj hj hoj d hd hxd
      rcases (hinfo i hi oi hoi).2 j oj hj hoj d hd with h | h
      · exact h
      · exact absurd (by
          subst hxd
          exact List.mem_append_left _ (List.mem_filterMap.2 ⟨.tmp d, by simpa using hx, rfl⟩)) h
    have hsplit : l.take (m + 1) = l.take i ++ (l.take (m + 1)).drop i := by
      have h1 := (List.take_append_drop i (l.take (m + 1))).symm
      rw [List.take_take, Nat.min_eq_left (by omega)] at h1
      exact h1
    rw [hsplit, fullA_append, full_eval_out _ _ _ _ _ (fun o ho d hd hxd => by
      obtain ⟨j, hj⟩ := List.mem_iff_getElem?.1 ho
      rw [List.getElem?_drop] at hj
      have hjn : i + j < m + 1 := by
        have := (List.getElem?_eq_some_iff.1 hj).1
        simp at this
        omega
      rw [List.getElem?_take_of_lt hjn] at hj
      have hw := hlook (i + j) o hjn hj d hd hxd
      have := hback i hi oi hoi _ hw
      omega)]
    refine full_eval_congr U V x (l.take i) 0 a a rfl rfl fun j o hj d hd hxd => ?_
    have hji : j < i := by
      have := (List.getElem?_eq_some_iff.1 hj).1
      simp at this
      omega
    rw [List.getElem?_take_of_lt hji] at hj
    rw [Nat.zero_add]
    exact hU j (by omega) (hlook j o (by omega) hj d hd hxd)
  refine wp_rel (m + 1) (fun j u w' => if j = m then R u w' else u = V j) hm hB (fun j u w1 w2 hu hb => ?_) (fun i o hi ho U w' hw' hU => ?_) (fun U w' hw' hU => ?_)
  · by_cases e : j = m
    · rw [if_pos e] at hu ⊢; exact hR _ _ _ hu hb
    · rw [if_neg e] at hu ⊢; exact hu
  · have hU' : ∀ j, j < m + 1 → Region.waitsFor .any l.toArray i j = true → U j = V j := fun j hj hwt => by
      have := hU j hj hwt
      have hji := hback i hi o ho j hwt
      rw [if_neg (by omega)] at this
      exact this
    rw [hframe U i o hi ho hU']
    by_cases e : i = m
    · subst e
      obtain rfl : om = o := Option.some.inj (hom.symm.trans ho)
      simp only [if_pos]
      exact hK1 w' hw'
    · have him : i < m := by omega
      have hy := hV i o (by rw [List.getElem?_take_of_lt him]; exact ho)
      rw [Nat.zero_add, List.take_take, Nat.min_eq_left (by omega)] at hy
      simp only [if_neg e]
      exact yb_upon hy hw'
  · have hspl : l.take (m + 1) = l.take m ++ [om] := by
      rw [List.take_add_one, hom]; rfl
    have hlen : (l.take m).length = m := by simp; omega
    rw [hspl, fullA_append, fullA_congr U V (l.take m) 0 a (fun j _ hj => by
      have := hU j (by omega)
      rw [if_neg (by omega)] at this
      exact this)]
    simp only [fullA, hlen, Nat.zero_add]
    have hm' := hU m (by omega)
    rw [if_pos rfl] at hm'
    exact hK2 _ w' hw' hm'
end Qt
end Go.Proofs.YtbojijefenfbgaaGreatDoor
namespace Go.Proofs.YtbojijefenfbgaaGreatDoor
open Go Go.RowKit
namespace Ap
theorem own_below {w w' : World} {base : Nat} {e : TypeId} {size : Nat} {v : Value} {n : Nat} {xs : List Value} (h : w.ownsRow base e size v n xs) (hb : Below w.heap.size w w') : w'.ownsRow base e size v n xs := by
  obtain ⟨h1, h2⟩ := h
  refine ⟨h1, h2.imp (fun h => h) ?_⟩
  rintro ⟨g, cap, cur, e1, e2, e3, e4⟩
  exact ⟨g, cap, cur, e1, e2, (hb.block g (Array.getElem?_eq_some_iff.1 e3).1).trans e3, e4⟩
/-- A slice of one element, just made. -/
def OneAt (B : Nat) (e : TypeId) (cs : List Value) (u : Value) (w : World) : Prop := ∃ b, u = .slice (some ⟨b, 0, none⟩) 1 1 ∧ B ≤ b ∧ w.heap[b]? = some (.cells cs.toArray e (0, 0))
theorem OneAt.lasts {B : Nat} {e : TypeId} {cs : List Value} (u : Value) (w w' : World) (h : OneAt B e cs u w) (hb : Below w.heap.size w w') : OneAt B e cs u w' := by
  obtain ⟨b, h1, h2, h3⟩ := h
  exact ⟨b, h1, h2, (hb.block b (Array.getElem?_eq_some_iff.1 h3).1).trans h3⟩
theorem app_one {P : Program} {ops : Array Oper} {rest : List Oper} {o : Oper} {a : Act} {w : World} {Q : Exit → Act → World → Prop} (hgd : o.guard = none) (s x : Operand) (t : TypeId) (ho : o.op = .call { callee := .builtin .append, args := #[s, x], argTypes := #[t, t] })
    (e : TypeId) (z : Value) (size bytes : Nat) (ht : P.underlying t = some (.slice e)) (h2 : (P.info? e).map (fun i => (i.zero, i.size, i.bytes)) = some (some z, size, bytes)) (hzs : z.cells.size = size) (hsz : 0 < size) (hby : bytes ≤ 4096)
    (base : Nat) (v : Value) (n : Nat) (xs : List Value) (hs : a.eval s = v) (hown : w.ownsRow base e size v n xs)
    (u : Value) (cs : List Value) (hx : a.eval x = u) (hu : OneAt base e cs u w) (hl : cs.length = size) (h1 : ∀ c ∈ cs, c.oneCell' = true) (hn : n ≤ 30000000000) (hbase : base ≤ w.heap.size)
    (h : ∀ v' w', w'.ownsRow base e size v' (n + 1) (xs ++ cs) → Below base w w' → v' ≠ .slice none 0 0 → wpList P ops Q rest (a.put o.dst v') w') : wpList P ops Q (o :: rest) a w := by
  obtain ⟨i, hi, hz0, hz1, hz2⟩ := info_parts h2
  obtain ⟨b, rfl, hB, hc⟩ := hu
  refine wpList_append_own w hgd s x t ho base e i z size bytes ht hi hz0 hz1 hz2 hzs hsz v n xs hs hown ⟨b, 0, none⟩ 1 1 cs hx (by omega) (fun j u hj => ?_) h1 (by unfold maxLen; omega) ?_ hbase (fun v' w' h3 h4 h5 => ?_)
  · rw [Addr.add_mid, Nat.zero_add, cell_of_row w b j _ _ _ hc]
    simpa using hj
  · have : (n + 1) * bytes ≤ 30000000001 * 4096 := Nat.mul_le_mul (by omega) hby
    omega
  · refine h v' w' h3 ((Below.refl base w).grown h4 hbase fun k hk => (hown.lt k hk).1) fun he => ?_
    have := (h5.1 he).2
    omega
end Ap
end Go.Proofs.YtbojijefenfbgaaGreatDoor
namespace Go.Proofs.YtbojijefenfbgaaGreatDoor
open Go.RowKit
namespace Gw
open Fw Bt Ww Sw Cw Ed
theorem pw_sixteen (e : E) : ∃ v0 v1 v2 v3 v4 v5 v6 v7 v8 v9 v10 v11 v12 v13 v14 v15 : Value, pw e = #[v0, v1, v2, v3, v4, v5, v6, v7, v8, v9, v10, v11, v12, v13, v14, v15] := by
  obtain ⟨a0, a1, a2, a3, ha, _⟩ := fw_four e.x
  obtain ⟨b0, b1, b2, b3, hb, _⟩ := fw_four e.y
  obtain ⟨c0, c1, c2, c3, hc, _⟩ := fw_four e.z
  obtain ⟨d0, d1, d2, d3, hd, _⟩ := fw_four e.t
  refine ⟨a0, a1, a2, a3, b0, b1, b2, b3, c0, c1, c2, c3, d0, d1, d2, d3, ?_⟩
  rw [pw_def, ha, hb, hc, hd]
  rfl
theorem built_tm (q : Q) (e : E) : Tryz.prog.built 192 [(0, .agg q.cells), (1, .agg (pw e))] = some (tw (q, e)) := by
  unfold tw
  obtain ⟨v0, v1, v2, v3, v4, v5, v6, v7, v8, v9, v10, v11, v12, v13, v14, v15, h⟩ := pw_sixteen e
  simp only [h]
  kernel_rfl
theorem y_tm {W : World} {K : Act → Prop} {l : List Oper} {o : Oper} {a : Act} (hg : o.guard = none) (parts : Array (Nat × Operand)) (ho : o.op = .build 192 parts) (q : Q) (e : E) (hf : (parts.map fun (i, x) => (i, a.eval x)).toList = [(0, .agg q.cells), (1, .agg (pw e))])
    (h : Qt.Lex Tryz.prog W K l (a.put o.dst (.agg (tw (q, e))))) : Qt.Lex Tryz.prog W K (o :: l) a := by
  refine Qt.y_val hg (.agg (tw (q, e))) (fun w' _ => ?_) h
  have hr := run_build (P := Tryz.prog) w' 192 (parts.map fun (i, x) => (i, a.eval x)) (tw (q, e)) (by rw [hf]; exact built_tm q e)
  unfold execOp
  simp only [ho, Sem.run_bind, Sem.run_pure, Result.andThen_ok, hr]
/-- A slice written out. -/
theorem l_slice {P : Program} {ops : Array Oper} {rest : List Oper} {o : Oper} {a : Act} {w : World} {Q : Exit → Act → World → Prop} (hg : o.guard = none) (t e : TypeId) (len : Nat) (parts : Array (Nat × Operand)) (ho : o.op = .buildSlice t len parts) (cells : Array Value) (z : Value) (sz by1 : Nat)
    (hu : P.underlying t = some (.slice e)) (h2 : (P.info? e).map (fun i => (i.zero, i.size, i.bytes)) = some (some z, sz, by1)) (hsmall : ¬ len * sz > 2 ^ 24) (hpos : ¬ len * sz = 0)
    (vs : List (Nat × Value)) (hv : (parts.map fun (i, x) => (i, a.eval x)).toList = vs) (hf : Instr.fill (fun i => some (i * sz, sz)) ((Array.range (len * sz)).map (z.cells[· % z.cells.size]!)) vs = some cells)
    (h : ∀ w2 b, w.heap.size ≤ b → w2.heap[b]? = some (.cells cells e (0, 0)) → Below w.heap.size w w2 → wpList P ops Q rest (a.put o.dst (.slice (some ⟨b, 0, none⟩) len len)) w2) : wpList P ops Q (o :: rest) a w := by
  obtain ⟨i, hi, hz0, hz1, hz2⟩ := info_parts h2
  subst hz1
  exact wpList_buildSlice hg t e len parts ho cells i z hu hi hz0 hsmall hpos (by rw [hv]; exact hf) (h _ _ (Nat.le_refl _) (heap_alloc_new _ _) ((Below.refl _ _).alloc (Nat.le_refl _) _))
theorem fill_one (t : Q × E) : Instr.fill (fun i => some (i * 20, 20)) ((Array.range (1 * 20)).map ((Value.agg tmZero).cells[· % (Value.agg tmZero).cells.size]!)) [(0, .agg (tw t))] = some (tw t) := by
  unfold tw
  obtain ⟨v0, v1, v2, v3, v4, v5, v6, v7, v8, v9, v10, v11, v12, v13, v14, v15, h⟩ := pw_sixteen t.2
  simp only [h]
  kernel_rfl
theorem fill_two (t u : Q × E) : Instr.fill (fun i => some (i * 20, 20)) ((Array.range (2 * 20)).map ((Value.agg tmZero).cells[· % (Value.agg tmZero).cells.size]!)) [(0, .agg (tw t)), (1, .agg (tw u))] = some (tw t ++ tw u) := by
  unfold tw
  obtain ⟨v0, v1, v2, v3, v4, v5, v6, v7, v8, v9, v10, v11, v12, v13, v14, v15, h⟩ := pw_sixteen t.2
  obtain ⟨u0, u1, u2, u3, u4, u5, u6, u7, u8, u9, u10, u11, u12, u13, u14, u15, h'⟩ := pw_sixteen u.2
  simp only [h, h']
  kernel_rfl
theorem range_one {w : World} {b : Nat} {t : Q × E} (h : w.heap[b]? = some (.cells (tw t) 192 (0, 0))) : ∀ j, j < 1 → w.rangeAt b (j * 20) (tw t).toList := fun j hj n v hv => by
  obtain rfl : j = 0 := by omega
  rw [cell_of_row w b _ _ _ _ h]
  simpa using hv
set_option maxRecDepth 100000 in
set_option maxHeartbeats 1000000 in
theorem timesBase_f (n : Q) (w : World) : Calls Tryz.prog 120 #[.agg n.cells] w fun e w' => e = .returned (.string ⟨(encP (mulP bP n.num)).toArray⟩) ∧ Below w.heap.size w w' := by
  obtain ⟨e, he⟩ : ∃ e, e = esum (fun _ => (n, aff bX bY)) 1 64 := ⟨_, rfl⟩
  have Hsum : Hid (∀ tb w, tb < w.heap.size → (∀ j, j < 1 → w.rangeAt tb (j * 20) (tw (n, aff bX bY)).toList) → Calls Tryz.prog 110 #[.slice (some ⟨tb, 0, none⟩) 1 1] w fun e' w' => e' = .returned (.agg (pw e)) ∧ Below w.heap.size w w') := by
    intro tb w h1 h2
    rw [he]
    exact sum_p tb 1 (by decide) (fun _ => (n, aff bX bY)) w h1 h2
  have Hb : Hid (leB (enc (e.x * inv e.z) (e.y * inv e.z)) 32 = encP (mulP bP n.num)) := by
    have h := esum_all (T := fun _ => (n, aff bX bY)) (p := fun _ => bP) (fun _ => bP_on) (fun _ => aff_rep bX bY) 1
    rw [← he] at h
    have h2 : pS (fun _ => bP) (fun _ => n.num) 1 = mulP bP n.num := zero_padd _
    rw [show (fun j => ((fun _ => (n, aff bX bY)) j : Q × E).1.num) = fun _ => n.num from rfl, h2] at h
    exact rep_bytes h
  have Hby : Hid (∀ w, Calls Tryz.prog 113 #[.agg (pw e)] w fun e' w' => e' = .returned (.string ⟨(encP (mulP bP n.num)).toArray⟩) ∧ Below w.heap.size w w') := by
    intro w
    have h := ptBytes_f e w
    rw [Hb.out] at h
    exact h
  clear he Hb
  obtain ⟨ss, hss⟩ : ∃ ss, ss = (encP (mulP bP n.num)).toArray := ⟨_, rfl⟩
  rw [← hss] at Hby ⊢
  clear hss
  have HN : Hid (NAt (w.alloc (.cells n.cells 184)) w.heap.size n) := alloc_at _ _ _ rfl
  have HB : Hid (Below w.heap.size w (w.alloc (.cells n.cells 184))) := (Below.refl _ _).alloc (Nat.le_refl _) _
  go_enter Tryz.func120, Tryz.ntmps120
  go_wp2_with fail
  refine Qt.wp_tail 3 (by kernel_rfl) (by kernel_rfl) ?_
  refine y_n rfl _ rfl w.heap.size n rfl HN.out ?_
  refine Qt.y_call rfl 111 #[] (.agg (pw (aff bX bY))) (fun _ => by kernel_rfl) (fun w' _ => base_p w') ?_
  simp only [Act.put, List.setIfInBounds_toArray, List.set_cons_zero, List.set_cons_succ]
  refine y_tm rfl _ rfl n (aff bX bY) (by kernel_rfl) ?_
  simp only [Act.put, List.setIfInBounds_toArray, List.set_cons_zero, List.set_cons_succ]
  refine Qt.y_nil ?_
  intro w1 hb1
  have HX1 : Hid (Below (w.alloc (.cells n.cells 184)).heap.size (w.alloc (.cells n.cells 184)) w1) := hb1
  have HB1 : Hid (Below w.heap.size w w1) := HB.out.trans (HX1.out.mono HB.out.size)
  clear hb1 HX1
  refine l_slice rfl 274 192 1 _ rfl (tw (n, aff bX bY)) (.agg tmZero) 20 160 Tryz.underlying274 (by kernel_rfl) (by decide) (by decide) [(0, .agg (tw (n, aff bX bY)))] (by kernel_rfl) (fill_one _) ?_
  intro w2 b2 hle hW hb2
  have HX2 : Hid (Below w1.heap.size w1 w2) := hb2
  have HR2 : Hid (∀ j, j < 1 → w2.rangeAt b2 (j * 20) (tw (n, aff bX bY)).toList) := range_one hW
  have HL2 : Hid (b2 < w2.heap.size) := (Array.getElem?_eq_some_iff.1 hW).1
  have HB2 : Hid (Below w.heap.size w w2) := HB1.out.trans (HX2.out.mono HB1.out.size)
  clear hle hW hb2 HX2 HB1
  simp only [Act.put, List.setIfInBounds_toArray, List.set_cons_zero, List.set_cons_succ]
  refine l_call rfl 110 #[.slice (some ⟨b2, 0, none⟩) 1 1] (.agg (pw e)) (fun _ => by kernel_rfl) (Hsum.out b2 w2 HL2.out HR2.out) ?_
  intro w3 hb3
  refine l_call rfl 113 #[.agg (pw e)] (.string ⟨ss⟩) (fun _ => by kernel_rfl) (Hby.out w3) ?_
  intro w4 hb4
  have HB4 : Hid (Below w.heap.size w w4) := (HB2.out.trans (hb3.mono HB2.out.size)).trans (hb4.mono (Nat.le_trans HB2.out.size hb3.size))
  clear hb3 hb4
  simp only [Act.put, List.setIfInBounds_toArray, List.set_cons_zero, List.set_cons_succ]
  go_wp2_with fail
  exact bodyPost_ret (v := .string ⟨ss⟩) (by simp [results, Tryz.results120, go_sem]) rfl ⟨rfl, HB4.out⟩
end Gw
end Go.Proofs.YtbojijefenfbgaaGreatDoor

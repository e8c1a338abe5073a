/- A region that draws its order: its first n operations leave the worlds of a class within it and yield one value in all of them; the others stand in a row behind them. Then one walk of the text's order serves every order. (The library has this for one world, and for a class without a tail; here both together.) -/
/- A region that draws its order: its first n operations only read; the others stand in a row behind them. -/
/- Walks of the document's own reckoning: mul. -/
import Derived.StillTail
import Derived.Deep.Quiet
import Derived.Lib.QuietBelow
import Derived.Deep.MidRow
import Derived.Laws.Rows
import Derived.BigQuiet
import Derived.Test.YtbojijefenfbgaaGreatDoorTkDocD
namespace Go.Proofs.YtbojijefenfbgaaGreatDoor
open Go Go.RowKit Go.Sort Region
namespace Qt
section
variable {P : Program} {ops : Array Oper} {C : World → Prop} {n : Nat}

/-- f operations come up, all of the head, in whatever order; then L. -/
def Heads (P : Program) (ops : Array Oper) (C : World → Prop) (n : Nat) (L : Array Bool → Act → Prop) : Nat → Array Bool → Act → Prop
  | 0, listed, a => L listed a
  | f + 1, listed, a => Region.ready .any ops listed ≠ [] ∧ ∀ i ∈ Region.ready .any ops listed, i < n ∧ qOp P ops C i (Heads P ops C n L f (listed.setIfInBounds i true)) a

theorem Heads.wp {g : Nat} {L : Array Bool → Act → Prop} {Q : Exit → Act → World → Prop} (hL : ∀ listed a, L listed a → ∀ w, C w → wpAny P .any ops Q g listed a w) (f : Nat) :
    ∀ listed a, Heads P ops C n L f listed a → ∀ w, C w → wpAny P .any ops Q (g + f) listed a w := by
  induction f with
  | zero => exact hL
  | succ f ih =>
    intro listed a h w hw
    exact ⟨fun h0 => absurd h0 h.1, fun i hi => wpOp_of_qOp hw (fun a' w' hw' h' => ih _ a' h' w' hw') (h.2 i hi).2⟩

/-- While an operation of the head is ready, none of the tail is. -/
theorem ready_head {listed : Array Bool} (hs : Region.sinkB .any ops n = true) (hc : Region.chainB .any ops n = true) (hn : n < ops.size) (inv : HeadInv .any ops n listed) {i j : Nat} (hi : i ∈ Region.ready .any ops listed) (hin : i < n)
    (hj : j ∈ Region.ready .any ops listed) : j < n := by
  rcases Nat.lt_or_ge j n with h | h
  · exact h
  · exact absurd hj (tail_waits hs hc hn inv _ i rfl hin (mem_ready.1 hi).1 j h)

theorem Heads.first {L : Array Bool → Act → Prop} (hsel : ∀ (j : Nat) (o : Oper) cs b, ops[j]? = some o → o.op ≠ .select cs b) (hs : Region.sinkB .any ops n = true) (hc : Region.chainB .any ops n = true) (hn : n < ops.size)
    (hend : ∀ listed a, L listed a → ∀ j ∈ Region.ready .any ops listed, n ≤ j) {i : Nat} {oi : Oper} {v : Value} (hoi : ops[i]? = some oi) (hin : i < n) (f : Nat) :
    ∀ listed a, HeadInv .any ops n listed → (∀ j oj, ops[j]? = some oj → j ≠ i → listed.getD j true = false → (∀ e ∈ oj.after, Region.binds .any e = true → e.on ≠ i) → oi.apart ops oj = true) →
      i ∈ Region.ready .any ops listed → YieldsIn P ops C oi v a → Heads P ops C n L f (listed.setIfInBounds i true) (a.put oi.dst v) → Heads P ops C n L (f + 1) listed a := by
  induction f with
  | zero =>
    intro listed a inv _ hr hy H
    refine ⟨List.ne_nil_of_mem hr, fun j hj => ?_⟩
    have hjn := ready_head hs hc hn inv hr hin hj
    refine ⟨hjn, ?_⟩
    by_cases e : j = i
    · rw [e]; exact hy.qOp hoi H
    · exact absurd (hend _ _ H j (ready_mono hj e)) (by omega)
  | succ f ih =>
    intro listed a inv hap hr hy H
    refine ⟨List.ne_nil_of_mem hr, fun j hj => ?_⟩
    have hjn := ready_head hs hc hn inv hr hin hj
    refine ⟨hjn, ?_⟩
    by_cases e : j = i
    · rw [e]; exact hy.qOp hoi H
    · obtain ⟨hun, oj, hoj, hall⟩ := mem_ready.1 hj
      have hno : ∀ e ∈ oj.after, Region.binds .any e = true → e.on ≠ i := fun e he hb heq => by
        have h1 := hall e he hb
        rw [heq, getD_both (mem_ready.1 hr).1] at h1
        cases h1
      refine qOp_mono (fun a' h3 => ?_) (qOp_put hoj (hap j oj hoj e hun hno) (fun cs b => hsel i oi cs b hoi) (fun cs b => hsel j oj cs b hoj) hy (H.2 j (ready_mono hj e)).2)
      refine ih _ a' (inv.set hj hjn) (fun k ok hk hki hku hkn => hap k ok hk hki ?_ hkn) (ready_mono hr (Ne.symm e)) h3.1 ?_
      · by_cases hjk : j = k
        · rw [← hjk]; exact hun
        · rwa [getD_set_ne true hjk] at hku
      · rw [Array.setIfInBounds_comm _ _ e]
        exact h3.2

theorem Heads.lex {g : Nat} {K : Act → Prop} (hsel : Region.noSelect ops = true) (hs : Region.sinkB .any ops n = true) (hc : Region.chainB .any ops n = true) (hn : n < ops.size) (l : List Oper) :
    ∀ (k : Nat) (listed : Array Bool) (a : Act), (∀ j, j < l.length → l[j]? = ops[k + j]?) → k + l.length = n → HeadInv .any ops n listed → Region.lexHead .any ops g l.length k listed = true → wpQuiet P ops C K l a →
      Heads P ops C n (fun listed' a' => Region.seqB .any ops g n listed' = true ∧ K a') l.length listed a := by
  induction l with
  | nil =>
    intro k listed a _ hk _ hB h
    have e : k = n := by simpa using hk
    subst e
    exact ⟨by simpa [Region.lexHead] using hB, h⟩
  | cons o l ih =>
    intro k listed a hl hk inv hB h
    have ho : ops[k]? = some o := by simpa using (hl 0 (by simp)).symm
    simp only [List.length_cons, Region.lexHead, Bool.and_eq_true] at hB hk
    have hr : k ∈ Region.ready .any ops listed := by simpa using hB.1.1
    have hq : qOp P ops C k (wpQuiet P ops C K l) a := by unfold qOp; simp only [ho]; exact h
    obtain ⟨v, hy, hK⟩ := yieldsIn_of_qOp ho hq
    exact Heads.first (Region.noSelect_spec hsel) hs hc hn (fun _ _ hL => seqB_ready hL.1) ho (by omega) l.length listed a inv (Region.free_spec ho hB.1.2) hr hy
      (ih (k + 1) _ _ (fun j hj => by have := hl (j + 1) (by simp; omega); simpa [Nat.add_assoc, Nat.add_comm 1 j] using this) (by omega) (inv.set hr (by omega)) hB.2 hK)

theorem quiet_mono {K K' : Act → Prop} (l : List Oper) : ∀ (a : Act), (∀ a, K a → K' a) → wpQuiet P ops C K l a → wpQuiet P ops C K' l a := by
  induction l with
  | nil => intro a hk h; exact hk _ h
  | cons o l ih =>
    intro a hk h
    unfold wpQuiet at h ⊢
    by_cases hw : Region.wanted o (yielded ops a.tmps) = true
    · rw [if_pos hw] at h ⊢; exact Oper.quiet_mono (fun a' h' => ih a' hk h') h
    · rw [if_neg hw] at h ⊢; exact ih _ hk h
theorem wp_region_quiet_tail {id : Nat} {Q : Exit → Act → World → Prop} {a : Act} {w : World} {l : List Oper} (n : Nat) (hm : P.follows .mixedOrders = true) (hB : Region.lexTailB .any l.toArray n = true) (hC : C { w with drawn := w.drawn + 1 })
    (h : wpQuiet P l.toArray C (fun a' => ∀ w', C w' → wpList P l.toArray Q (l.drop n) a' w') (l.take n) a) : (Code.region id l.toArray true).wp P Q a w := by
  simp only [Region.lexTailB, Bool.and_eq_true, decide_eq_true_eq] at hB
  obtain ⟨⟨⟨⟨hsel, hn⟩, hs⟩, hc⟩, hlex⟩ := hB
  have hn' : n < l.length := by simpa using hn
  have htl : (l.take n).length = n := by simp; omega
  have hdl : (l.drop n).length = l.toArray.size - n := by simp
  have inv0 : HeadInv .any l.toArray n (Array.replicate l.toArray.size false) :=
    ⟨by simp, fun j oj _ hl => (by rw [getD_replicate_false] at hl; cases hl), fun t _ ht => getD_in (by simpa using ht) (getD_replicate_false _ _)⟩
  have H := Heads.lex (P := P) (C := C) (g := l.toArray.size - n) hsel hs hc hn (l.take n) 0 _ a (fun j hj => by
    rw [htl] at hj
    simp [hj]) (by rw [htl]; simp) inv0 (by rw [htl]; exact hlex) h
  refine wp_region_any hm ?_
  have := Heads.wp (Q := Q) (g := l.toArray.size - n) (fun listed a' hL w' hw' => by
    have := wpAny_of_seq (md := .any) (Q' := Q) (l.drop n) n listed a' w' (fun j => by simp [List.getElem?_drop]) (by rw [hdl]; exact hL.1) (hL.2 w' hw')
    rwa [hdl] at this) _ _ _ H _ hC
  rw [htl, show l.toArray.size - n + n = l.toArray.size by omega] at this
  exact this
end
/-- The class: of what was there nothing has turned. -/
def BW (w : World) : World → Prop := fun w' => Below w.heap.size w w'
theorem wp_region_below_tail {P : Program} {id : Nat} {Q : Exit → Act → World → Prop} {a : Act} {w : World} {l : List Oper} (n : Nat) (hm : P.follows .mixedOrders = true) (hB : Region.lexTailB .any l.toArray n = true)
    (h : wpQuiet P l.toArray (BW w) (fun a' => ∀ w', Below w.heap.size w w' → wpList P l.toArray Q (l.drop n) a' w') (l.take n) a) : (Code.region id l.toArray true).wp P Q a w :=
  wp_region_quiet_tail (C := BW w) n hm hB ⟨rfl, rfl, rfl, Nat.le_refl _, fun _ _ => rfl⟩ h
theorem wp_region_below {P : Program} {id : Nat} {Q : Exit → Act → World → Prop} {a : Act} {w : World} {l : List Oper} (hm : P.follows .mixedOrders = true) (hB : Region.lexB .any l.toArray = true)
    (h : wpQuiet P l.toArray (BW w) (fun a' => ∀ w', Below w.heap.size w w' → Q .normal a' w') l a) : (Code.region id l.toArray true).wp P Q a w :=
  wp_region_quiet (C := BW w) hm hB ⟨rfl, rfl, rfl, Nat.le_refl _, fun _ _ => rfl⟩ h
section
variable {P : Program} {ops : Array Oper} {w : World} {Q : Act → Prop} {rest : List Oper} {o : Oper} {a : Act}
/-- One operation that yields a value. -/
theorem q_val (hg : o.guard = none) (v : Value) (hv : ∀ w', Below w.heap.size w w' → (execOp a.eval o).run P w' = .ok (.value v) w') (h : wpQuiet P ops (BW w) Q rest (a.put o.dst v)) : wpQuiet P ops (BW w) Q (o :: rest) a := by
  unfold wpQuiet
  rw [if_pos (by simp [Region.wanted, hg])]
  refine ⟨v, fun w' hw' => ?_, h⟩
  unfold Oper.quietAt
  rw [hv w' hw']
  exact ⟨rfl, rfl⟩
/-- A call whose contract ends in Below. -/
theorem q_call (hg : o.guard = none) (f : FuncId) (args : Array Value) (v : Value) (hv : ∀ w', (execOp a.eval o).run P w' = .ok (.enter f args) w') (hc : ∀ w', Below w.heap.size w w' → Calls P f args w' fun e w'' => e = .returned v ∧ Below w'.heap.size w' w'')
    (h : wpQuiet P ops (BW w) Q rest (a.put o.dst v)) : wpQuiet P ops (BW w) Q (o :: rest) a := by
  unfold wpQuiet
  rw [if_pos (by simp [Region.wanted, hg])]
  refine ⟨v, fun w' hw' => ?_, h⟩
  unfold Oper.quietAt
  rw [hv w']
  refine ⟨rfl, (hc w' hw').mono fun e w'' ⟨he, hb⟩ => ⟨he, ?_⟩⟩
  have h0 : Below w.heap.size w w' := hw'
  exact h0.trans (hb.mono h0.size)
/-- A row loaded whole. -/
theorem q_row (hg : o.guard = none) (ty : TypeId) (x : Operand) (ho : o.op = .load ty x) (g : Nat) (hx : a.eval x = .pointer (some ⟨g, 0, none⟩)) (t : TypeId) (cs : Array Value) (fr : Nat × Nat) (d : TypeDesc) (hb : w.heap[g]? = some (.cells cs t fr))
    (hu : P.underlying ty = some d) (hd : (match d with | .struct _ | .array _ _ => true | _ => false) = true) (hi : (P.info? ty).map (·.size) = some cs.size)
    (h : wpQuiet P ops (BW w) Q rest (a.put o.dst (.agg cs))) : wpQuiet P ops (BW w) Q (o :: rest) a := by
  refine q_val hg (.agg cs) (fun w' hw' => ?_) h
  have hlt : g < w.heap.size := (Array.getElem?_eq_some_iff.1 hb).1
  unfold execOp
  simp only [ho, hx, Instr.loadAt, Instr.sureAddr, Sem.run_bind, Sem.run_pure, Result.andThen_ok, run_loadVar_row w' g t ty cs fr d ((hw'.block g hlt).trans hb) hu hd hi]
/-- A row loaded out of a greater one. -/
theorem q_mid (hg : o.guard = none) (ty : TypeId) (x : Operand) (ho : o.op = .load ty x) (b off : Nat) (hx : a.eval x = .pointer (some ⟨b, off, none⟩)) (cs : List Value) (d : TypeDesc) (hb : b < w.heap.size) (hc : w.rangeAt b off cs)
    (hu : P.underlying ty = some d) (hd : d.isRow = true) (hi : (P.info? ty).map (·.size) = some cs.length)
    (h : wpQuiet P ops (BW w) Q rest (a.put o.dst (.agg cs.toArray))) : wpQuiet P ops (BW w) Q (o :: rest) a := by
  refine q_val hg (.agg cs.toArray) (fun w' hw' => ?_) h
  unfold execOp
  simp only [ho, hx, Instr.loadAt, Instr.sureAddr, Sem.run_bind, Sem.run_pure, Result.andThen_ok, run_loadVar_mid w' b off ty cs d (fun j v hj => by rw [hw'.cell (by exact hb)]; exact hc j v hj) hu hd hi]
end
end Qt
end Go.Proofs.YtbojijefenfbgaaGreatDoor
namespace Go.Proofs.YtbojijefenfbgaaGreatDoor
open Go Go.RowKit Go.Sort Region
namespace Qt
theorem wp_lit_tail {P : Program} {id : Nat} {Q : Exit → Act → World → Prop} {a : Act} {w : World} {l : List Oper} (n : Nat) (hm : P.follows .mixedOrders = true) (hB : Region.lexTailB .any l.toArray n = true)
    (h : wpQuiet P l.toArray (fun w' => ∃ n, w' = w.drewN n) (fun a' => ∀ w', (∃ n, w' = w.drewN n) → wpList P l.toArray Q (l.drop n) a' w') (l.take n) a) : (Code.region id l.toArray true).wp P Q a w :=
  wp_region_quiet_tail (C := fun w' => ∃ n, w' = w.drewN n) n hm hB ⟨1, rfl⟩ h
end Qt
end Go.Proofs.YtbojijefenfbgaaGreatDoor
namespace Go.Proofs.YtbojijefenfbgaaGreatDoor
open Go.RowKit
namespace Dc
open Bt
theorem wrap64 {x : Int} (h1 : -9223372036854775808 ≤ x) (h2 : x ≤ 9223372036854775807) : IntKind.i64.wrap x = x := IntWalk.i64_in x ⟨h1, h2⟩
/-- Thirty-two parts. -/
def num2 (f : Nat → Int) : Array Value := Own.mkRow 32 fun j => .int .i64 (f j)
theorem zed_num2 : num2 (fun _ => 0) = (List.replicate 32 (Value.int .i64 0)).toArray := (Own.mkRow_list _ 32 (by simp) _ fun j hj => (List.getElem_replicate (h := hj)).symm).symm
theorem num2_cell {w : World} {b : Nat} {f : Nat → Int} {t : TypeId} (h : w.heap[b]? = some (.cells (num2 f) t (0, 0))) (j : Nat) (hj : j < 32) : w.cell? ⟨b, j, none⟩ = some (.int .i64 (f j)) := Own.row_cell h j hj
theorem num2_frozen {w : World} {b : Nat} {f : Nat → Int} {t : TypeId} (h : w.heap[b]? = some (.cells (num2 f) t (0, 0))) (j : Nat) : w.frozen? ⟨b, j, none⟩ = false := Own.row_frozen h j
theorem num2_store {w : World} {b : Nat} {f : Nat → Int} {t : TypeId} (h : w.heap[b]? = some (.cells (num2 f) t (0, 0))) (i : Nat) (v : Int) : (w.setCell ⟨b, i, none⟩ (.int .i64 v)).heap[b]? = some (.cells (num2 fun j => if j = i then v else f j) t (0, 0)) := by
  refine (Own.row_store h i _).trans (congrArg (fun r => some (Obj.cells r t (0, 0))) (Own.mkRow_congr fun j _ => ?_))
  by_cases e : j = i
  · show _ = Value.int .i64 (if j = i then v else f j)
    rw [if_pos e, if_pos e]
  · show _ = Value.int .i64 (if j = i then v else f j)
    rw [if_neg e, if_neg e]
theorem l_alloc2 (w : World) {ops : Array Oper} {rest : List Oper} {o : Oper} {a : Act} {Q : Exit → Act → World → Prop} (hg : o.guard = none) (hop : o.op = Op.alloc 260)
    (hK : wpList Tryz.prog ops Q rest (a.put o.dst (.pointer (some ⟨w.heap.size, 0, none⟩))) (w.alloc (.cells (num2 fun _ => 0) 260))) : wpList Tryz.prog ops Q (o :: rest) a w :=
  Own.wpList_alloc_at w hg 260 hop _ (by rw [zed_num2]; kernel_rfl) hK
/-- The parts of a product: k products of row i on top of W. -/
def mRow (a b : Nat → Int) (i : Nat) (W : Nat → Int) : Nat → Nat → Int
  | 0 => W
  | k + 1 => fun j => if j = i + k then mRow a b i W k (i + k) + a i * b k else mRow a b i W k j
def mAll (a b : Nat → Int) : Nat → Nat → Int
  | 0 => fun _ => 0
  | i + 1 => mRow a b i (mAll a b i) 16
theorem mRow_vi (B : Int) (a b : Nat → Int) (i : Nat) (W : Nat → Int) (hi : i < 16) (k : Nat) (hk : k ≤ 16) : vi B (mRow a b i W k) 32 = vi B W 32 + a i * B ^ i * vi B b k := by
  induction k with
  | zero => simp [mRow, vi]
  | succ k ih =>
    rw [mRow, vi_set B (mRow a b i W k) (i + k) 32 _ (by omega), ih (by omega), show vi B b (k + 1) = vi B b k + b k * B ^ k from rfl, Int.mul_add, Int.pow_add]
    generalize B ^ i = p
    generalize B ^ k = q
    rw [show mRow a b i W k (i + k) + a i * b k - mRow a b i W k (i + k) = a i * b k by omega, show a i * b k * (p * q) = a i * p * (b k * q) by rw [Int.mul_assoc, Int.mul_assoc, Int.mul_left_comm (b k)]]
    omega
theorem mAll_vi (B : Int) (a b : Nat → Int) (i : Nat) (hi : i ≤ 16) : vi B (mAll a b i) 32 = vi B a i * vi B b 16 := by
  induction i with
  | zero =>
    show vi B (fun _ => 0) 32 = 0 * _
    rw [Int.zero_mul]
    have : ∀ n, vi B (fun _ => 0) n = 0 := fun n => by
      induction n with
      | zero => rfl
      | succ n ih => rw [vi, ih, Int.zero_mul]; rfl
    exact this 32
  | succ i ih =>
    rw [mAll, mRow_vi B a b i _ (by omega) 16 (Nat.le_refl _), ih (by omega), show vi B a (i + 1) = vi B a i + a i * B ^ i from rfl, Int.add_mul]
def Lo (c : Int) (W : Nat → Int) : Prop := ∀ j, 0 ≤ W j ∧ W j ≤ c * 4294967296
theorem prod_bd {x y : Int} (hx : 0 ≤ x ∧ x < 65536) (hy : 0 ≤ y ∧ y < 65536) : 0 ≤ x * y ∧ x * y ≤ 4294967296 := by
  refine ⟨Int.mul_nonneg hx.1 hy.1, ?_⟩
  have h1 := Int.mul_le_mul_of_nonneg_right (Int.le_of_lt hx.2) hy.1
  omega
theorem mRow_lo {a b : Nat → Int} (ha : ∀ j, 0 ≤ a j ∧ a j < 65536) (hb : ∀ j, 0 ≤ b j ∧ b j < 65536) {i : Nat} {W : Nat → Int} {c : Int} (hW : Lo c W) (k : Nat) : Lo (c + k) (mRow a b i W k) := by
  induction k with
  | zero => exact fun j => by rw [show c + ((0 : Nat) : Int) = c by omega]; exact hW j
  | succ k ih =>
    intro j
    have h1 := prod_bd (ha i) (hb k)
    have h2 := ih (i + k)
    have h3 := ih j
    show 0 ≤ (if j = i + k then mRow a b i W k (i + k) + a i * b k else mRow a b i W k j) ∧ (if j = i + k then mRow a b i W k (i + k) + a i * b k else mRow a b i W k j) ≤ _
    generalize a i * b k = x at *
    split <;> omega
theorem mAll_lo {a b : Nat → Int} (ha : ∀ j, 0 ≤ a j ∧ a j < 65536) (hb : ∀ j, 0 ≤ b j ∧ b j < 65536) (i : Nat) : Lo (16 * i) (mAll a b i) := by
  induction i with
  | zero => exact fun j => ⟨Int.le_refl _, by show (0 : Int) ≤ _; omega⟩
  | succ i ih =>
    have h := mRow_lo ha hb (i := i) ih 16
    intro j
    have := h j
    show 0 ≤ mRow a b i (mAll a b i) 16 j ∧ _
    refine ⟨this.1, ?_⟩
    rw [show mAll a b (i + 1) = mRow a b i (mAll a b i) 16 from rfl]
    omega
def mOut (W : Nat → Int) (k j : Nat) : Int := if j < k then W j + 38 * W (j + 16) else 0
theorem mOut_step (W : Nat → Int) (k j : Nat) : (if j = k then W k + 38 * W (k + 16) else mOut W k j) = mOut W (k + 1) j := by
  unfold mOut
  by_cases e : j = k
  · subst e
    rw [if_pos rfl, if_pos (by omega)]
  · rw [if_neg e]
    by_cases h : j < k
    · rw [if_pos h, if_pos (by omega)]
    · rw [if_neg h, if_neg (by omega)]
theorem mOut_vi (W : Nat → Int) : vi 65536 (mOut W 16) 16 % pI = vi 65536 W 32 % pI := by
  have h1 : vi 65536 (mOut W 16) 16 = vi 65536 W 16 + 38 * vi 65536 (fun j => W (16 + j)) 16 := by
    rw [← vi_mul, ← vi_add]
    refine vi_congr fun j hj => ?_
    show (if j < 16 then W j + 38 * W (j + 16) else 0) = _
    rw [if_pos hj, Nat.add_comm j 16]
  rw [h1, show (32 : Nat) = 16 + 16 from rfl, vi_more]
  generalize vi 65536 W 16 = x
  generalize vi 65536 (fun j => W (16 + j)) 16 = y
  rw [show x + 65536 ^ 16 * y = (x + 38 * y) + pI * (2 * y) by rw [show (65536 : Int) ^ 16 = pI * 2 + 38 from by decide]; generalize pI = p; rw [Int.add_mul, ← Int.mul_assoc]; omega, Int.add_mul_emod_self_left]
set_option maxRecDepth 100000 in
set_option maxHeartbeats 400000 in
theorem mul_i (n m : Int) (hn : 0 ≤ n ∧ n < 65536 ^ 16) (hm : 0 ≤ m ∧ m < 65536 ^ 16) (w : World) : Calls Tryz.prog 93 #[.agg (nm n), .agg (nm m)] w fun e w' => e = .returned (.agg (nm ((n * m) % pI))) ∧ Below w.heap.size w w' := by
  obtain ⟨r, hR⟩ : ∃ r, num r = nm ((n * m) % pI) := ⟨_, rfl⟩
  have Hset : Hid (∀ w, Calls Tryz.prog 98 #[.agg (num (mOut (mAll (dg n) (dg m) 16) 16))] w fun e w' => e = .returned (.agg (num r)) ∧ Below w.heap.size w w') := by
    have e : vi 65536 (mOut (mAll (dg n) (dg m) 16) 16) 16 % pI = (n * m) % pI := by
      rw [mOut_vi, mAll_vi _ _ _ _ (Nat.le_refl _), vi_dg hn, vi_dg hm]
    rw [hR, ← e]
    refine settled_f _ fun j hj => ?_
    have hl := mAll_lo (dg_bd n) (dg_bd m) 16
    have h1 := hl j
    have h2 := hl (j + 16)
    unfold mOut
    rw [if_pos hj]
    omega
  rw [← hR]
  clear hR hn hm
  go_enter Tryz.func93, Tryz.ntmps93
  go_wp2_with (first | refine l_alloc _ rfl rfl ?_ | refine l_alloc2 _ rfl rfl ?_)
  generalize hw0 : World.alloc _ _ = w0
  obtain ⟨g, hg⟩ : ∃ g, g = w.heap.size := ⟨_, rfl⟩
  have h0 := al4 hw0
  rw [← hg] at h0 ⊢
  have HA0 : Hid _ := h0.1
  have HM0 : Hid _ := h0.2.1
  have HR0 : Hid _ := h0.2.2.1
  have HW0 : Hid _ := h0.2.2.2.1
  have HB0 : Hid _ := h0.2.2.2.2
  have HG : Hid (w.heap.size ≤ g) := Nat.le_of_eq hg.symm
  clear hg hw0 h0
  go_loopw [6] (fun i wq => ∃ k : Nat, k ≤ 16 ∧ i = .int .i64 (k : Int) ∧ wq.heap[g]? = some (.cells (nm n) 95 (0, 0)) ∧ wq.heap[g + 1]? = some (.cells (nm m) 95 (0, 0)) ∧ wq.heap[g + 1 + 1]? = some (.cells (num fun _ => 0) 95 (0, 0)) ∧ wq.heap[g + 1 + 1 + 1]? = some (.cells (num2 (mAll (dg n) (dg m) k)) 260 (0, 0)) ∧ Below g w wq) (fun i _ => 16 - (intOf i).toNat)
  case atStart => exact ⟨0, by omega, rfl, HA0.out, HM0.out, HR0.out, HW0.out, HB0.out⟩
  case round =>
    clear HA0 HM0 HR0 HB0 HW0
    rename World => wa
    obtain ⟨i, hi, rfl, ha, hm, hr, hp, hb⟩ := hrel
    have HA : Hid _ := ha
    have HM : Hid _ := hm
    have HR : Hid _ := hr
    have HW : Hid _ := hp
    have HB : Hid _ := hb
    clear ha hm hr hb hp
    by_cases hi16 : i < 16
    · go_wp2_with fail
      have HL : Hid (Lo (16 * i) (mAll (dg n) (dg m) i)) := mAll_lo (dg_bd n) (dg_bd m) i
      go_loopw [7] (fun x wq => ∃ k : Nat, k ≤ 16 ∧ x = .int .i64 (k : Int) ∧ wq.heap[g]? = some (.cells (nm n) 95 (0, 0)) ∧ wq.heap[g + 1]? = some (.cells (nm m) 95 (0, 0)) ∧ wq.heap[g + 1 + 1]? = some (.cells (num fun _ => 0) 95 (0, 0)) ∧ wq.heap[g + 1 + 1 + 1]? = some (.cells (num2 (mRow (dg n) (dg m) i (mAll (dg n) (dg m) i) k)) 260 (0, 0)) ∧ Below g w wq) (fun x _ => 16 - (intOf x).toNat)
      case atStart => exact ⟨0, by omega, rfl, HA.out, HM.out, HR.out, HW.out, HB.out⟩
      case round =>
        clear HA HM HR HB HW
        rename World => wa
        obtain ⟨k, hk, rfl, ha, hm, hr, hp, hb⟩ := hrel
        have HA : Hid _ := ha
        have HM : Hid _ := hm
        have HR : Hid _ := hr
        have HW : Hid _ := hp
        have HB : Hid _ := hb
        clear ha hm hr hb hp
        by_cases hk16 : k < 16
        · have hc1 : wa.cell? ⟨g, i, none⟩ = some (.int .i64 (dg n i)) := num_cell HA.out i hi16
          have hc2 : wa.cell? ⟨g + 1, k, none⟩ = some (.int .i64 (dg m k)) := num_cell HM.out k hk16
          have hc3 := num2_cell HW.out (i + k) (by omega)
          have hfz := num2_frozen HW.out (i + k)
          have hbU := dg_bd n i
          have hbM := dg_bd m k
          have hpr := prod_bd hbU hbM
          have hbW := mRow_lo (dg_bd n) (dg_bd m) (i := i) HL.out k (i + k)
          have Hs : Hid ((fun j => if j = i + k then mRow (dg n) (dg m) i (mAll (dg n) (dg m) i) k (i + k) + dg n i * dg m k else mRow (dg n) (dg m) i (mAll (dg n) (dg m) i) k j) = mRow (dg n) (dg m) i (mAll (dg n) (dg m) i) (k + 1)) := rfl
          generalize dg n i = u at *
          generalize dg m k = v at *
          generalize mRow (dg n) (dg m) i (mAll (dg n) (dg m) i) k (i + k) = z at *
          obtain ⟨p, hp⟩ : ∃ p, p = i + k := ⟨_, rfl⟩
          rw [← hp] at hc3 hfz Hs
          have hp32 : p < 32 := by omega
          have hwp : IntKind.i64.wrap ((i : Int) + (k : Int)) = (p : Int) := by rw [hp, Int.natCast_add]; exact wrap64 (by omega) (by omega)
          have hwm : IntKind.i64.wrap (u * v) = u * v := wrap64 (by omega) (by omega)
          have hws : IntKind.i64.wrap (z + u * v) = z + u * v := wrap64 (by omega) (by omega)
          clear hp hpr hbW hbU hbM
          go_wp2_with fail
          refine Qt.wp_lit_tail 17 (by kernel_rfl) (by kernel_rfl) ?_
          simp only [List.take_succ_cons, List.take_zero, List.drop_succ_cons, List.drop_zero]
          repeat (first | go_big_quiet_step (fail) | quiet_step (fail))
          refine wpQuiet_nil ?_
          intro _ hw'
          obtain ⟨nq, hw''⟩ := hw'
          subst hw''
          go_wp2_with fail
          refine ⟨⟨k + 1, by omega, by rw [Int.natCast_add]; rfl, ?_, ?_, ?_, ?_, ?_⟩, ?_⟩
          · exact (Below.heap_setCell _ _ _ g (by show g ≠ g + 1 + 1 + 1; omega)).trans HA.out
          · exact (Below.heap_setCell _ _ _ (g + 1) (by show g + 1 ≠ g + 1 + 1 + 1; omega)).trans HM.out
          · exact (Below.heap_setCell _ _ _ (g + 1 + 1) (by show g + 1 + 1 ≠ g + 1 + 1 + 1; omega)).trans HR.out
          · refine (num2_store (w := wa.drewN nq) HW.out p _).trans ?_
            rw [Hs.out]
          · exact below_cell (HB.out.trans (Fw.below_drewN _ _ _)) _ _ (by omega) _
          · show 16 - ((k : Int) + 1).toNat < 16 - (k : Int).toNat
            omega
        · obtain rfl : k = 16 := by omega
          have HW1 : Hid (wa.heap[g + 1 + 1 + 1]? = some (.cells (num2 (mAll (dg n) (dg m) (i + 1))) 260 (0, 0))) := HW.out
          clear HW HL
          go_wp2_with fail
          refine ⟨⟨i + 1, by omega, by rw [Int.natCast_add]; rfl, HA.out, HM.out, HR.out, HW1.out, HB.out⟩, ?_⟩
          show 16 - ((i : Int) + 1).toNat < 16 - (i : Int).toNat
          omega
    · obtain rfl : i = 16 := by omega
      have HL : Hid (Lo (16 * (16 : Nat)) (mAll (dg n) (dg m) 16)) := mAll_lo (dg_bd n) (dg_bd m) 16
      generalize mAll (dg n) (dg m) 16 = W at *
      obtain ⟨go, hgo⟩ : ∃ x, x = wa.heap.size := ⟨_, rfl⟩
      have hgl : g + 1 + 1 + 1 < go := by
        rw [hgo]
        exact (Array.getElem?_eq_some_iff.1 HW.out).1
      go_wp2_with (refine l_alloc _ rfl rfl ?_)
      generalize hw0 : World.alloc _ _ = w2
      have h0 := al1 hw0
      rw [← hgo] at h0 ⊢
      have HO2 : Hid (w2.heap[go]? = some (.cells (num (mOut W 0)) 95 (0, 0))) := h0.1
      have HR2 : Hid (w2.heap[g + 1 + 1]? = _) := (h0.2.block _ (by omega)).trans HR.out
      have HW2 : Hid (w2.heap[g + 1 + 1 + 1]? = _) := (h0.2.block _ (by omega)).trans HW.out
      have HB2 : Hid (Below g w w2) := HB.out.trans (h0.2.mono (by omega))
      clear hgo hw0 h0 HA HM HR HW HB
      go_loopw [9] (fun x wq => ∃ k : Nat, k ≤ 16 ∧ x = .int .i64 (k : Int) ∧ wq.heap[g + 1 + 1]? = some (.cells (num fun _ => 0) 95 (0, 0)) ∧ wq.heap[g + 1 + 1 + 1]? = some (.cells (num2 W) 260 (0, 0)) ∧ wq.heap[go]? = some (.cells (num (mOut W k)) 95 (0, 0)) ∧ Below g w wq) (fun x _ => 16 - (intOf x).toNat)
      case atStart => exact ⟨0, by omega, rfl, HR2.out, HW2.out, HO2.out, HB2.out⟩
      case round =>
        clear HR2 HW2 HO2 HB2
        rename World => wa
        obtain ⟨k, hk, rfl, hr, hp, ho, hb⟩ := hrel
        have HR : Hid _ := hr
        have HW : Hid _ := hp
        have HO : Hid _ := ho
        have HB : Hid _ := hb
        clear hr hb hp ho
        by_cases hk16 : k < 16
        · have hc1 := num2_cell HW.out k (by omega)
          have hc2 := num2_cell HW.out (k + 16) (by omega)
          have hc3 := num_cell HO.out k hk16
          have hfz := num_frozen HO.out k
          have hl1 := HL.out k
          have hl2 := HL.out (k + 16)
          have Hs : Hid (∀ j, (if j = k then W k + 38 * W (k + 16) else mOut W k j) = mOut W (k + 1) j) := mOut_step W k
          generalize W k = u at *
          generalize W (k + 16) = v at *
          obtain ⟨p, hp⟩ : ∃ p, p = k + 16 := ⟨_, rfl⟩
          rw [← hp] at hc2
          have hp32 : p < 32 := by omega
          have hwp : IntKind.i64.wrap ((k : Int) + 16) = (p : Int) := by rw [hp, Int.natCast_add]; exact wrap64 (by omega) (by omega)
          have hwm : IntKind.i64.wrap (38 * v) = 38 * v := wrap64 (by omega) (by omega)
          have hws : IntKind.i64.wrap (u + 38 * v) = u + 38 * v := wrap64 (by omega) (by omega)
          clear hp hl1 hl2
          go_wp2_with fail
          refine Qt.wp_lit_tail 11 (by kernel_rfl) (by kernel_rfl) ?_
          simp only [List.take_succ_cons, List.take_zero, List.drop_succ_cons, List.drop_zero]
          repeat (first | go_big_quiet_step (fail) | quiet_step (fail))
          refine wpQuiet_nil ?_
          intro _ hw'
          obtain ⟨nq, hw''⟩ := hw'
          subst hw''
          go_wp2_with fail
          refine ⟨⟨k + 1, by omega, by rw [Int.natCast_add]; rfl, ?_, ?_, ?_, ?_⟩, ?_⟩
          · exact (Below.heap_setCell _ _ _ (g + 1 + 1) (by show g + 1 + 1 ≠ go; omega)).trans HR.out
          · exact (Below.heap_setCell _ _ _ (g + 1 + 1 + 1) (by show g + 1 + 1 + 1 ≠ go; omega)).trans HW.out
          · refine (num_store (w := wa.drewN nq) HO.out k _).trans ?_
            rw [num_congr]
            intro j _
            exact Hs.out j
          · exact below_cell (HB.out.trans (Fw.below_drewN _ _ _)) _ _ (by omega) _
          · show 16 - ((k : Int) + 1).toNat < 16 - (k : Int).toNat
            omega
        · obtain rfl : k = 16 := by omega
          go_wp2_with (refine l_load rfl _ rfl go _ rfl HO.out ?_)
          refine (Hset.out _).mono ?_
          rintro e w1 ⟨rfl, hb1⟩
          have HR1 : Hid (w1.heap[g + 1 + 1]? = some (.cells (num fun _ => 0) 95 (0, 0))) := (hb1.block _ (Array.getElem?_eq_some_iff.1 HR.out).1).trans HR.out
          have HB1 : Hid (Below g w w1) := HB.out.trans (hb1.mono (by have := (Array.getElem?_eq_some_iff.1 HR.out).1; omega))
          clear hb1
          go_wp2_with (refine l_store rfl _ _ rfl (g + 1 + 1) _ _ rfl rfl HR1.out ?_)
          exact Own.ret_row Tryz.results93 rfl (g + 1 + 1) 95 _ (0, 0) _ rfl (setRow_heap _ _ _ _ _ _ HR1.out) Tryz.underlying95 rfl (by rw [num_size]; kernel_rfl) ⟨rfl, (HB1.out.trans ((Fw.below_setRow _ _ _).mono (by omega))).mono HG.out⟩
end Dc
end Go.Proofs.YtbojijefenfbgaaGreatDoor

/- maps.Keys over a map whose keys are structs of two numbers, and what slices.Collect makes of it. slices.Collect of an iterator over structs of two numbers. The library's sort of admissions and of entries: what lies in the row behind it. Walks of the program's book: the admissions in order. Walks of the program's talk: digests. -/
import Derived.RangeFuncGives
import Derived.RangeFuncNested
import Derived.RangeFuncBox
import Derived.RangeFuncSeq
import Derived.Sort.EveryDepth
import Derived.Shelf.AbstractIn
import Derived.Sort.MapsRangeIn
import Derived.OwnWalkIn
import Derived.TacticsInMore
import Derived.RegionIn
import Derived.LoopNIn
import Derived.LoopIn
import Derived.Test.YtbojijefenfbgaaGreatDoorTtTalkMath
import Derived.Shelf.SlSortCmp.NoneTotal
set_option maxRecDepth 100000
namespace Go.Proofs.YtbojijefenfbgaaGreatDoor
open Go Go.RowKit
namespace Mp
section
variable {α β : Type} [DecidableEq α] {F : Fence} {n : Nat} {P : Program} (w : World) {ops : Array Oper} {rest : List Oper} {o : Oper} {a : Act} {Q : Exit → Act → World → Prop}
omit [DecidableEq α] in
theorem q2i (hg : o.guard = none) (m : Operand) (t : TypeId) (hop : o.op = Op.range t m) {k e : TypeId} {ke : α → Value} {ve : β → Value} (ht : P.underlying t = some (.map k e)) {l : List (α × β)} {b : Nat} (hm : a.eval m = .map (some b)) (h : Is w b ke ve l)
  (hK : ∀ w', Ran w' b w.heap.size ke ve l (fun _ => true) → (∃ o, w' = w.alloc o) → wpListIn F n P ops Q rest (a.put o.dst (.pointer (some ⟨w.heap.size, 0, none⟩))) w') :
  wpListIn F n P ops Q (o :: rest) a w := by
 refine wpListIn_plain hg fun K' hK' => ?_
 obtain ⟨w', hrun, r1, r2⟩ := y7h (P := P) ht h
 unfold Oper.wpIn
 refine ⟨by simp [Oper.about, hop], ?_⟩
 rw [Oper.semAt_plain F _ _ (by rw [hop]; intro c hc'; cases hc')]
 simp [execOp, hop, hm, hrun, Result.andThen]
 exact hK' _ _ (hK w' r1 r2)
theorem q8z (hg : o.guard = none) (it : Operand) (hop : o.op = Op.next it false) {ke : α → Value} {ve : β → Value} (inj : ∀ a b, ke a = ke b → a = b) {l : List (α × β)} {left : α → Bool} {b r : Nat} (hbr : b ≠ r) (hit : a.eval it = .pointer (some ⟨r, 0, none⟩)) (h : Ran w b r ke ve l left)
  (hDone : (∀ p ∈ l, left p.1 = false) → wpListIn F n P ops Q rest (a.put o.dst (.tuple #[.bool false])) w)
  (hMore : ∀ c v w', (c, v) ∈ l → left c = true → Ran w' b r ke ve l (fun x => left x && decide (x ≠ c)) → w.grownBy w' (some r) → w'.heap.size = w.heap.size → (Instr.entry (.pointer (some ⟨r, 0, none⟩))).run P w' = .ok (.tuple #[ke c, ve v]) w' →
   wpListIn F n P ops Q rest (a.put o.dst (.tuple #[.bool true, ke c, ve v])) w') :
  wpListIn F n P ops Q (o :: rest) a w := by
 refine wpListIn_plain hg fun K' hK' => ?_
 unfold Oper.wpIn
 refine ⟨by simp [Oper.about, hop], ?_⟩
 rw [Oper.semAt_plain F _ _ (by rw [hop]; intro c hc'; cases hc')]
 rcases x1p (P := P) inj hbr h o.type with ⟨h0, hrun⟩ | ⟨c, v, hm, hl, w', hrun, r1, r2, r3, r4⟩
 ·simp [execOp, hop, hit, hrun, Result.andThen]
  exact hK' _ _ (hDone h0)
 ·simp [execOp, hop, hit, hrun, Result.andThen]
  exact hK' _ _ (hMore c v w' hm hl r1 r2 r3 r4)
end
end Mp
namespace Ks
theorem q6a {F : Fence} {d : Nat} {P : Program} {Q : Exit → Act → World → Prop} {a : Act} {w : World} {c : Code} (I : Nat → Act → World → Prop) (n : Nat) (h : I n a w) (round : ∀ n a w, I n a w → c.wpIn F d P (Exit.then (fun a' w' => ∃ m, m < n ∧ I m a' w') Q) a w) : (Code.loop c).wpIn F d P Q a w := by
 have hx : ∀ a w, ∃ n : Nat, (∃ n, I n a w) → I n a w ∧ ∀ m, I m a w → n ≤ m := fun a w => by
  by_cases h : ∃ n, I n a w
  ·obtain ⟨n, h1, h2⟩ := least (fun n => I n a w) h
   exact ⟨n, fun _ => ⟨h1, h2⟩⟩
  ·exact ⟨0, fun h' => absurd h' h⟩
 have hm : ∃ μ : Act → World → Nat, ∀ a w, (∃ n, I n a w) → I (μ a w) a w ∧ ∀ m, I m a w → μ a w ≤ m := ⟨fun a w => Classical.choose (hx a w), fun a w => Classical.choose_spec (hx a w)⟩
 obtain ⟨μ, hμ⟩ := hm
 refine wpIn_loop (fun a w => ∃ n, I n a w) μ ⟨n, h⟩ ?_
 intro a w hI
 refine wpIn_mono (round _ _ _ (hμ a w hI).1) ?_
 intro e a' w' hq
 cases e with
 | normal =>
  obtain ⟨m, hlt, hI'⟩ := hq
  exact ⟨⟨m, hI'⟩, Nat.lt_of_le_of_lt ((hμ a' w' ⟨m, hI'⟩).2 m hI') hlt⟩
 | _ => exact hq
end Ks
namespace Mp
structure y5j {β : Type} (lh : List ((Int × Int) × β)) (left : Int × Int → Bool) (ss : List (Int × Int)) : Prop where
 nodup : ss.Nodup
 sub : ∀ c ∈ ss, c ∈ lh.map Prod.fst
 left : ∀ c ∈ lh.map Prod.fst, left c = false ↔ c ∈ ss
theorem y5j.start {β : Type} (lh : List ((Int × Int) × β)) : y5j lh (fun _ => true) [] := ⟨List.nodup_nil, fun c hc => by simp at hc, fun c _ => by simp⟩
theorem y5j.perm {β : Type} {lh : List ((Int × Int) × β)} {left : Int × Int → Bool} {ss : List (Int × Int)} (h : y5j lh left ss) (hn : (lh.map Prod.fst).Nodup) (hl : ∀ p ∈ lh, left p.1 = false) : ss.Perm (lh.map Prod.fst) := by
 refine (List.perm_ext_iff_of_nodup h.nodup hn).2 fun c => ⟨h.sub c, fun hc => (h.left c hc).1 ?_⟩
 obtain ⟨p, hp, rfl⟩ := List.mem_map.1 hc
 exact hl p hp
theorem y5j.fresh {β : Type} {lh : List ((Int × Int) × β)} {left : Int × Int → Bool} {ss : List (Int × Int)} (h : y5j lh left ss) {c : Int × Int} {v : β} (hc : (c, v) ∈ lh) (hl : left c = true) : c ∉ ss := fun hm => by
 have := (h.left c (List.mem_map.2 ⟨_, hc, rfl⟩)).2 hm
 rw [hl] at this
 cases this
theorem y5j.step {β : Type} {lh : List ((Int × Int) × β)} {left : Int × Int → Bool} {ss : List (Int × Int)} (h : y5j lh left ss) {c : Int × Int} {v : β} (hc : (c, v) ∈ lh) (hl : left c = true) : y5j lh (fun x => left x && decide (x ≠ c)) (ss ++ [c]) := by
 refine ⟨?_, ?_, ?_⟩
 ·rw [List.nodup_append]
  refine ⟨h.nodup, by simp, fun a ha b hb => ?_⟩
  obtain rfl : b = c := by simpa using hb
  rintro rfl
  exact h.fresh hc hl ha
 ·intro d hd
  rcases List.mem_append.1 hd with hd | hd
  ·exact h.sub d hd
  ·obtain rfl : d = c := by simpa using hd
   exact List.mem_map.2 ⟨_, hc, rfl⟩
 ·intro d hd
  have := h.left d hd
  by_cases e : d = c
  ·simp [e]
  ·simp [e, this]
theorem y5j.len {β : Type} {lh : List ((Int × Int) × β)} {left : Int × Int → Bool} {ss : List (Int × Int)} (h : y5j lh left ss) {c : Int × Int} {v : β} (hc : (c, v) ∈ lh) (hl : left c = true) : ss.length < lh.length := by
 have h1 := (h.step hc hl).nodup.length_le_of_subset (l₂ := lh.map Prod.fst) fun x hx => (h.step hc hl).sub x hx
 simp at h1
 omega
end Mp
namespace Gt
open Mp Bk
set_option maxHeartbeats 1000000 in
theorem q2p (F : Fence) (n : Nat) (hF : F.fn 232) (hro : F.round = none) (hn : 1 ≤ n) (l Bm b : Nat) (lh : List ((Int × Int) × Unit)) (J Jx : List (Int × Int) → World → Prop)
  (hY : ∀ pre x W, J pre W → pre.length < lh.length → YieldAt F (n - 1) Tryz.prog l #[two x] W fun e W' => (e = .returned (.bool true) ∧ J (pre ++ [x]) W' ∧ KeepsWalks W W') ∨ (e = .returned (.bool false) ∧ Jx (pre ++ [x]) W'))
  (W : World) (hJ : AbidesFrom W.heap.size J) (hm : W.cell? ⟨Bm, 0, none⟩ = some (.map (some b))) (his : Is W b two unit lh) (h0 : J [] W) :
  CallsIn F n Tryz.prog 232 #[.func (.yield l) #[] #[], .pointer (some ⟨Bm, 0, none⟩)] W fun e W' => (∃ v, e = .returned v) ∧ ((∃ ss : List (Int × Int), ss.Perm (lh.map Prod.fst) ∧ J ss W') ∨ ∃ pre, True ∧ Jx pre W') := by
 refine callsIn_of_wp Tryz.func232 rfl hF ?_ hro
 simp only [Tryz.ntmps232, List.size_toArray, List.length_cons, List.length_nil, Nat.reduceAdd, Nat.reduceSub, Array.replicate_succ, Array.replicate_zero, List.push_toArray, List.append_toArray, List.nil_append, List.cons_append]
 gi_wp2_with (first
  | (gi_at_range; refine q2i _ rfl _ _ rfl z6d rfl his ?_; intro w0 hrg0 hg0)
  | gi_in)
 have hbr : b ≠ W.heap.size := Nat.ne_of_lt his.lt
 have hks := his.keys
 obtain ⟨o0, rfl⟩ := hg0
 have hJ0 : J [] (W.alloc o0) := hJ [] W _ none h0 (World.grownBy_alloc W o0 none) (fun r e => by cases e)
 generalize W.alloc o0 = w0 at hrg0 hJ0 ⊢
 refine Ks.q6a (fun m a wr => ∃ (left : Int × Int → Bool) (ss : List (Int × Int)) (f : Nat → Value), Ran wr b W.heap.size two unit lh left ∧ y5j lh left ss ∧ J ss wr ∧ m = lh.length - ss.length ∧ a = { tmps := #[.func (.yield l) #[] #[], .pointer (some ⟨Bm, 0, none⟩), f 2, f 3, .map (some b), .pointer (some ⟨W.heap.size, 0, none⟩), f 6, f 7, f 8, f 9, f 10, f 11, f 12, f 13], defers := [] }) lh.length ⟨_, [], fun _ => undef, hrg0, y5j.start lh, hJ0, rfl, rfl⟩ ?_
 rintro m a wr ⟨left, ss, f, hrg, hC, hJs, rfl, rfl⟩
 gi_wp2_with (first
  | (gi_at_next; refine q8z _ rfl _ rfl y1v hbr rfl hrg ?_ ?_)
  | gi_in)
 ·intro hl0
  gi_wp2
  go_end0
  exact ⟨⟨_, rfl⟩, Or.inl ⟨ss, hC.perm hks (fun p hp => hl0 p.1.1 p.1.2 p.2 hp), hJs⟩⟩
 ·intro c1 c2 v w2 hcm hlc hrg2 hg2 hs2 hen
  obtain ⟨o1, ho1, how1⟩ : ∃ o : Obj, wr.heap[W.heap.size]? = some o ∧ o.isWalk = true := by
   obtain ⟨es, clock, since, seen, c0, _, hr, _⟩ := hrg
   exact ⟨_, hr, rfl⟩
  have hJ2 : J ss w2 := hJ ss wr w2 (some W.heap.size) hJs hg2 (fun r e => by cases e; exact ⟨Nat.le_refl _, o1, ho1, how1⟩)
  have hJ3 : J ss (w2.alloc (.cells #[.int .i64 c1, .int .i64 c2] 154)) := hJ ss w2 _ none hJ2 (World.grownBy_alloc w2 _ none) (fun r e => by cases e)
  have hlen := hC.len hcm hlc
  have hC2 := hC.step hcm hlc
  replace hrg2 : Ran w2 b W.heap.size two unit lh (fun x => left x && decide (x ≠ (c1, c2))) := by simpa using hrg2
  have hrg3 : Ran (w2.alloc (.cells #[.int .i64 c1, .int .i64 c2] 154)) b W.heap.size two unit lh (fun x => left x && decide (x ≠ (c1, c2))) := hrg2.congr (Below.heap_alloc _ _ _ hrg2.is.lt) (Below.heap_alloc _ _ _ (Ran.lt hrg2))
  obtain ⟨fn, tmps, assign, body, hy, hR⟩ := hY ss (c1, c2) _ hJ3 hlen
  clear hs2 hg2
  unfold two at hen hy
  unfold two
  gi_wp2
  refine hR.mono ?_
  rintro e W3 (⟨rfl, hJ4, hk4⟩ | ⟨rfl, hJ4⟩)
  ·gi_wp2
   have hrg4 : Ran W3 b W.heap.size two unit lh (fun x => left x && decide (x ≠ (c1, c2))) := by
    obtain ⟨es, clock, since, seen, c0, hb, hr, rest⟩ := hrg3
    exact ⟨es, clock, since, seen, c0, hk4.same b _ hb rfl, hk4.same _ _ hr rfl, rest⟩
   refine ⟨lh.length - (ss ++ [(c1, c2)]).length, by simp; omega, _, ss ++ [(c1, c2)], fun j => #[undef, undef, f 2, .pointer (some ⟨w2.heap.size, 0, none⟩), undef, undef, .tuple #[.bool true, .agg #[.int .i64 c1, .int .i64 c2], unit v], .bool true, .tuple #[.agg #[.int .i64 c1, .int .i64 c2], unit v], .agg #[.int .i64 c1, .int .i64 c2], .func (.yield l) #[] #[], .agg #[.int .i64 c1, .int .i64 c2], .bool true, .bool false].getD j undef, hrg4, hC2, hJ4, rfl, rfl⟩
  ·gi_wp2
   refine bodyPost_ret (v := .tuple #[]) (by simp [results, Tryz.results232]) rfl ?_
   exact ⟨⟨_, rfl⟩, Or.inr ⟨_, trivial, hJ4⟩⟩
theorem x3w (F : Fence) (n : Nat) (hF : F.fn 232) (hro : F.round = none) (hn : 1 ≤ n) (Bm b : Nat) (lh : List ((Int × Int) × Unit)) (w : World) (hm : w.cell? ⟨Bm, 0, none⟩ = some (.map (some b))) (his : Is w b two unit lh) :
  SeqStopsK F n Tryz.prog 232 #[.pointer (some ⟨Bm, 0, none⟩)] (fun x => #[two x]) KeepsWalks (fun ss => ss.Perm (lh.map Prod.fst)) (fun _ => True) lh.length w := fun l J Jx W hW hJ _ hY h0 => by
 have hBm : Bm < w.heap.size := by
  simp only [World.cell?] at hm
  cases he : w.heap[Bm]? with
  | none => simp [he] at hm
  | some o => exact (aL he)
 exact q2p F n hF hro hn l Bm b lh J Jx hY W hJ (by rw [hW.cell (by exact hBm)]; exact hm) (his.congr (hW.block b his.lt)) h0
end Gt
open Go Go.RowKit
attribute [local go_sem] Oper.semAt_some
namespace Gt
open Mp Bk
def kC (k : Int × Int) : List Value := [.int .i64 k.1, .int .i64 k.2]
theorem y6p (k : Int × Int) : (kC k).length = 2 := rfl
theorem q7c : (Tryz.prog.info? 154).map (fun i => (i.zero, i.size, i.bytes)) = some (some (.agg #[.int .i64 0, .int .i64 0]), 2, 16) := by kernel_rfl
def ApI (w : World) (pre : List (Int × Int)) (W : World) : Prop := (∃ v, W.heap[w.heap.size]? = some (.cells #[v] 167 (0, 0)) ∧ W.ownsRow w.heap.size 154 2 v pre.length (pre.flatMap kC)) ∧ Below w.heap.size w W
theorem y6x {W W' : World} {row : Option Nat} {base : Nat} {e : TypeId} {size : Nat} {v : Value} {k : Nat} {xs : List Value} (h : W.ownsRow base e size v k xs) (hg : W.grownBy W' row) (hr : ∀ r, row = some r → ∃ o : Obj, W.heap[r]? = some o ∧ o.isCells = false) : W'.ownsRow base e size v k xs := by
 refine h.kept hg ?_
 rcases h.2 with ⟨rfl, _⟩ | ⟨g, cap, cur, rfl, _, hgb, _⟩
 ·exact .inl rfl
 ·refine .inr fun e' => ?_
  obtain ⟨o, ho, hc⟩ := hr g e'.symm
  rw [hgb] at ho
  cases ho
  cases hc
theorem q7f (w : World) {B : Nat} (hB : w.heap.size ≤ B) : OwnFrom B (ApI w) := by
 rintro pre W W' row ⟨⟨v, hv, hrow⟩, hb⟩ hg hr
 have hr' : ∀ r, row = some r → ∃ o : Obj, W.heap[r]? = some o ∧ o.isCells = false := fun r e => (hr r e).2
 exact ⟨⟨v, (grownBy_keeps_cells hg hr' hv rfl).trans hv, y6x hrow hg hr'⟩, hb.grown hg hb.size fun k e => Nat.le_trans hB (hr k e).1⟩
def ApX (w : World) (sv : Value) (x : Int × Int) (a : Act) (W : World) : Prop := ∃ Bx, w.heap.size < Bx ∧ W.heap[Bx]? = some (.cells #[.int .i64 x.1, .int .i64 x.2] 154 (0, 0)) ∧
 a = { tmps := #[.slice none 0 0, sv, .pointer (some ⟨w.heap.size, 0, none⟩), undef, .slice none 0 0, .pointer (some ⟨Bx, 0, none⟩), sv, two x, undef, undef, undef, undef, undef], defers := [] }
theorem q7g (w : World) (sv : Value) (x : Int × Int) (a : Act) (B : Nat) : OwnFrom B (fun (_ : Unit) W => ApX w sv x a W) := by
 rintro _ W W' row ⟨Bx, h1, h2, h3⟩ hg hr
 exact ⟨Bx, h1, (grownBy_keeps_cells hg (fun r e => (hr r e).2) h2 rfl).trans h2, h3⟩
theorem y0o (w : World) (cs : Array Value) (t : TypeId) : (w.alloc (.cells cs t)).heap[w.heap.size]? = some (.cells cs t (0, 0)) := heap_alloc_new _ _
theorem y3q {W : World} {B : Nat} {v : Value} {t : TypeId} (h : W.heap[B]? = some (.cells #[v] t (0, 0))) : W.cell? ⟨B, 0, none⟩ = some v ∧ W.frozen? ⟨B, 0, none⟩ = false := by
 constructor <;> simp [World.cell?, World.frozen?, h]
theorem z9t {W : World} {B : Nat} {v : Value} {t : TypeId} (v' : Value) (h : W.heap[B]? = some (.cells #[v] t (0, 0))) : (W.setCell ⟨B, 0, none⟩ v').heap[B]? = some (.cells #[v'] t (0, 0)) := by
 obtain ⟨hlt, hk⟩ := Array.getElem?_eq_some_iff.1 h
 show (W.heap.modify B _)[B]? = _
 rw [Array.getElem?_eq_getElem (by rw [Array.size_modify]; exact hlt), Array.getElem_modify_self, hk]
 rfl
theorem cell_two_new (w : World) (x y : Value) (t : TypeId) : ∀ j u, [x, y][j]? = some u → (w.alloc (.cells #[x, y] t)).cell? ((⟨w.heap.size, 0, none⟩ : Addr).add j) = some u := by
 intro j u hj
 rw [Addr.add_mid, Nat.zero_add]
 exact z0c (y0o w #[x, y] t) j (by simpa using hj)
theorem y4i {w : World} {base : Nat} {e : TypeId} {size : Nat} {v : Value} {n : Nat} {xs : List Value} (h : w.ownsRow base e size v (n + 1) xs) : ∃ g cap cur, v = .slice (some ⟨g, 0, none⟩) (n + 1) cap ∧ base ≤ g ∧ w.heap[g]? = some (.cells cur e (0, 0)) ∧ n + 1 ≤ cap ∧ cap ≤ maxLen ∧ cur.size = cap * size ∧ cur.toList.take ((n + 1) * size) = xs := by
 rcases h.2 with ⟨_, h0⟩ | h'
 ·exact absurd h0 (by omega)
 ·exact h'
set_option maxHeartbeats 2000000 in
theorem y5s (F : Fence) (n : Nat) (hA : F.fn 269) (hro : F.round = none) (hn : 2 ≤ n) (g : Nat) (lb : Array Value) (hFg : F.fn g) (eg : ∀ args w, (callFunc g args).run Tryz.prog w = .ok (.enter g args) w)
    (S Sp : List (Int × Int) → Prop) (N : Nat) (hN : N ≤ 1000000000) (w : World) (hseq : SeqStopsK F (n - 1) Tryz.prog g lb (fun x => #[two x]) KeepsWalks S Sp N w) :
    CallsIn F n Tryz.prog 269 #[.slice none 0 0, .func (.func g) #[] lb] w fun e w' => ∃ (v : Value) (ss : List (Int × Int)), e = .returned v ∧ S ss ∧ w'.ownsRow w.heap.size 154 2 v ss.length (ss.flatMap kC) ∧ Below w.heap.size w w' := by
  obtain ⟨i0, hi, hz0, hz1, hz2⟩ := info_parts q7c
  refine callsIn_of_wp_marks Tryz.func269 rfl hA ?_ hro
  simp only [Tryz.ntmps269, List.size_toArray, List.length_cons, List.length_nil, Nat.reduceAdd, Nat.reduceSub, Array.replicate_succ, Array.replicate_zero, List.push_toArray, List.append_toArray, List.nil_append, List.cons_append]
  gi_wp2
  obtain ⟨W0, hW0⟩ : ∃ W0, w.alloc (.cells #[.slice none 0 0] 167) = W0 := ⟨_, rfl⟩
  have hs0 : W0.heap.size = w.heap.size + 1 := by rw [← hW0]; simp
  have hv0 : W0.heap[w.heap.size]? = some (.cells #[.slice none 0 0] 167 (0, 0)) := by rw [← hW0]; exact y0o _ _ _
  have hb0 : Below w.heap.size w W0 := by rw [← hW0]; exact (Below.refl _ w).alloc (Nat.le_refl _) _
  rw [hW0]
  refine wpIn_rangeFunc_ownH hro (by omega) (gf := g) (lb := lb) rfl hFg eg hseq walksK_t walksK_b hb0 (fun _ => rfl) (ApI w) (fun _ _ _ => False) (q7f w (by omega)) (fun _ _ _ _ _ h _ _ => h) ⟨⟨_, hv0, by simp, Or.inl ⟨rfl, rfl⟩⟩, hb0⟩ (ApX w (.func (.func g) #[] lb)) (fun x a' => q7g w _ x a' _) ?assign ?body ?done ?stop
  case assign =>
    rintro l pre ⟨x1, x2⟩ W K hi hK
    have hle := hi.2.size
    obtain ⟨⟨v, hv, hrow⟩, hb⟩ := hi
    have hvl := (aL hv)
    have HK := hK { tmps := #[.slice none 0 0, .func (.func g) #[] lb, .pointer (some ⟨w.heap.size, 0, none⟩), undef, .slice none 0 0, .pointer (some ⟨W.heap.size, 0, none⟩), .func (.func g) #[] lb, two (x1, x2), undef, undef, undef, undef, undef], defers := [] } (W.alloc (.cells #[.int .i64 x1, .int .i64 x2] 154)) ((KeepsOthers.alloc _ _).from _) (KeepsOthers.alloc _ _).walks ⟨⟨v, (Below.heap_alloc _ _ _ hvl).trans hv, hrow.alloc _⟩, hb.alloc hb.size _⟩ ⟨W.heap.size, hvl, y0o _ _ _, rfl⟩
    unfold two at HK ⊢
    gi_wp2
    exact HK
  case body =>
    rintro l pre ⟨x1, x2⟩ a' W hl ⟨r, hr⟩ ⟨⟨v, hv, hrow⟩, hb⟩ ⟨Bx, hBx, hx, rfl⟩ hlt
    obtain ⟨hc, hf⟩ := y3q hv
    have hx1 := z0c hx 0 rfl
    have hx2 := z0c hx 1 rfl
    unfold two
    have hvl := (aL hv)
    have hvb : v.ownBlock ≠ some w.heap.size := fun e => by
      rcases hrow.2 with ⟨rfl, _⟩ | ⟨g', cap, cur, rfl, _, hgb, _⟩
      · cases e
      · injection e with e
        have e' : g' = w.heap.size := e
        rw [e', hv] at hgb
        cases hgb
    gi_wp2_with (first
      | (gi_at_builtin; refine wpListIn_append_own _ rfl _ _ 167 rfl w.heap.size 154 i0 (.agg #[.int .i64 0, .int .i64 0]) 2 16 Tryz.underlying167 hi hz0 hz1 hz2 rfl (by decide) v pre.length (pre.flatMap kC) rfl (hrow.alloc _) ⟨W.heap.size, 0, none⟩ 1 1 [.int .i64 x1, .int .i64 x2] rfl rfl (cell_two_new _ _ _ _) (by simp [Value.oneCell']) (by unfold maxLen; omega) (by omega) (by have := hb.size; simp; omega) ?_; intro v' w3 hown' hg3 hnil3
         have hv3 : w3.heap[w.heap.size]? = some (.cells #[v] 167 (0, 0)) := (hg3.block w.heap.size (by simp; omega) (fun e => hvb e.symm)).trans ((Below.heap_alloc _ _ _ hvl).trans hv)
         obtain ⟨hc3, hf3⟩ := y3q hv3
         obtain ⟨g', cap', cur', rfl, hbase', hgb', hr1, hr2, hr3, hr4⟩ := y4i hown'
         go_frame)
      | (rw [Oper.semAt_eq _ _ _ (fun c h => by cases h)]; go_simp; try go_bits))
    have hko : KeepsOthers W (w3.setCell ⟨w.heap.size, 0, none⟩ (.slice (some ⟨g', 0, none⟩) (pre.length + 1) cap')) := ((KeepsOthers.alloc _ _).trans (KeepsOthers.of_grownBy hg3 fun j o hj ho => (by
      rcases (hrow.alloc _).2 with ⟨rfl, _⟩ | ⟨g2, cap, cur, rfl, _, hgb, _⟩
      · cases hj
      · injection hj with hj
        have e' : g2 = j := hj
        rw [← e', hgb] at ho
        cases ho
        rfl))).trans (KeepsOthers.setCell _ _ _)
    have hg4 := grownBy_setCell' w3 w.heap.size (.slice (some ⟨g', 0, none⟩) (pre.length + 1) cap')
    have hb3 : Below w.heap.size w w3 := (hb.alloc hb.size _).grown hg3 (by have := hb.size; simp; omega) (fun k e => (hrow.lt k e).1)
    refine ⟨hko.from _, hko.walks, ⟨⟨_, z9t _ hv3, ?_⟩, hb3.grown hg4 hb3.size fun k e => by cases e; exact Nat.le_refl _⟩⟩
    have := hown'.kept hg4 (Or.inr fun e => by
      have e' : g' = w.heap.size := Option.some.inj e
      rw [e', hv3] at hgb'
      cases hgb')
    rw [List.length_append, List.flatMap_append]
    simpa [kC] using this
  case done =>
    intro D xs W hD hS hI hK
    obtain ⟨⟨v, hv, hrow⟩, hb⟩ := hI
    obtain ⟨hc, hf⟩ := y3q hv
    gi_wp2
    refine ⟨by simp, .inl ⟨_, _, rfl, run_takeDeferred hK, ?_⟩⟩
    exact ⟨_, results_tmp rfl _ _ _, v, xs, rfl, hS, y6x hrow (grownBy_putObj' _ _ _) (fun r e => by cases e; exact ⟨_, hK, rfl⟩), hb.grown (grownBy_putObj' _ _ _) hb.size fun k e => by cases e; omega⟩
  case stop =>
    intro D c pre W _ _ h
    exact h.elim
theorem y2p (F : Fence) (n : Nat) (hC : F.fn 230) (hA : F.fn 269) (hro : F.round = none) (hn : 3 ≤ n) (g : Nat) (lb : Array Value) (hFg : F.fn g) (eg : ∀ args w, (callFunc g args).run Tryz.prog w = .ok (.enter g args) w)
  (S Sp : List (Int × Int) → Prop) (N : Nat) (hN : N ≤ 1000000000) (w : World) (hseq : SeqStopsK F (n - 1 - 1) Tryz.prog g lb (fun x => #[two x]) KeepsWalks S Sp N w) :
  CallsIn F n Tryz.prog 230 #[.func (.func g) #[] lb] w fun e w' => ∃ (v : Value) (ss : List (Int × Int)), e = .returned v ∧ S ss ∧ w'.ownsRow w.heap.size 154 2 v ss.length (ss.flatMap kC) ∧ Below w.heap.size w w' := by
 have h1 : 1 ≤ n := by omega
 have e11 : ∀ args w, (callFunc 269 args).run Tryz.prog w = .ok (.enter 269 args) w := enters_of Tryz.func269 (by kernel_rfl) rfl
 refine callsIn_of_wp Tryz.func230 rfl hC ?_ hro
 simp only [Tryz.ntmps230, List.size_toArray, List.length_cons, List.length_nil, Nat.reduceAdd, Nat.reduceSub, Array.replicate_succ, Array.replicate_zero, List.push_toArray, List.append_toArray, List.nil_append, List.cons_append]
 gi_wp2_with (gi_at_fn 269; refine (y5s F (n - 1) hA hro (by omega) g lb hFg eg S Sp N hN _ hseq).mono ?_; rintro e w' ⟨v, ss, rfl, hS, hrow, hb⟩)
 go_ret
 exact ⟨v, ss, rfl, hS, hrow, hb⟩
theorem x5z (Bm b : Nat) (lh : List ((Int × Int) × Unit)) (hl : lh.length ≤ 1000000000) (w : World) (hm : w.cell? ⟨Bm, 0, none⟩ = some (.map (some b))) (his : Is w b two unit lh) :
  Calls Tryz.prog 230 #[.func (.func 232) #[] #[.pointer (some ⟨Bm, 0, none⟩)]] w fun e w' => ∃ v, e = .returned v ∧ (∃ ss : List (Int × Int), ss.Perm (lh.map Prod.fst) ∧ w'.ownsRow w.heap.size 154 2 v ss.length (ss.flatMap kC)) ∧ Below w.heap.size w w' := by
 refine Calls.mono (calls_of_every_depth (L := [230, 269, 232]) (n := 3) fun D => y2p (Fence.list [230, 269, 232] (some D)) 3 ?_ ?_ rfl (Nat.le_refl _) 232 #[.pointer (some ⟨Bm, 0, none⟩)] ?_ ?_ _ _ lh.length hl w (x3w _ _ ?_ rfl (by omega) Bm b lh w hm his)) ?_
 ·simp [Fence.list]
 ·simp [Fence.list]
 ·simp [Fence.list]
 ·exact enters_of Tryz.func232 (by kernel_rfl) rfl
 ·simp [Fence.list]
 ·rintro e w' ⟨v, ss, rfl, hS, hrow, hb⟩
  exact ⟨v, rfl, ⟨ss, hS, hrow⟩, hb⟩
end Gt
open Go Go.RowKit
namespace Gt
open Mp Bk Tk
theorem y0a (x y : Int) : z9z x y < 0 ↔ x < y := by
 unfold z9z
 split
 ·simp [*]
 ·split <;> simp <;> omega
theorem z3i (x y : Int) : z9z x y = 0 ↔ x = y := by
 unfold z9z
 split
 ·simp; omega
 ·split <;> simp <;> omega
theorem z5n (x : Int) (r : List Int) : orL (x :: r) = if x = 0 then orL r else x := by
 unfold orL
 rw [List.find?_cons]
 by_cases h : x = 0 <;> simp [h]
theorem y9f : orL [] = 0 := rfl
theorem x0p (x y : Int × Int) : y8j x y < 0 ↔ Lt2 x y := by
 unfold y8j Lt2
 rw [z5n, z5n, y9f]
 have h1 := y0a x.1 y.1
 have h2 := z3i x.1 y.1
 have h3 := y0a x.2 y.2
 by_cases e : z9z x.1 y.1 = 0
 ·rw [if_pos e]
  have := h2.1 e
  split
  ·rename_i e2
   have := (z3i x.2 y.2).1 e2
   omega
  ·rw [h3]; omega
 ·rw [if_neg e, h1]
  have : ¬ x.1 = y.1 := fun h => e (h2.2 h)
  omega
theorem x5x (x y : Int × Int) : y8j x y = 0 ↔ x = y := by
 unfold y8j
 rw [z5n, z5n, y9f]
 have h2 := z3i x.1 y.1
 have h3 := z3i x.2 y.2
 constructor
 ·intro h
  by_cases e : z9z x.1 y.1 = 0
  ·rw [if_pos e] at h
   by_cases e2 : z9z x.2 y.2 = 0
   ·exact Prod.ext (h2.1 e) (h3.1 e2)
   ·rw [if_neg e2] at h; exact absurd h e2
  ·rw [if_neg e] at h; exact absurd h e
 ·rintro rfl
  simp [(z3i x.1 x.1).2 rfl, (z3i x.2 x.2).2 rfl]
theorem q1g (x y : En) : q0f x y < 0 ↔ LtE x y := by
 unfold q0f LtE
 rw [z5n, z5n, z5n, y9f]
 have h1 := y0a x.2.1 y.2.1
 have h2 := z3i x.2.1 y.2.1
 have h3 := y0a x.2.2 y.2.2
 have h4 := z3i x.2.2 y.2.2
 have h5 := x0p x.1 y.1
 have h6 := x5x x.1 y.1
 by_cases e : z9z x.2.1 y.2.1 = 0
 ·rw [if_pos e]
  have a := h2.1 e
  by_cases e2 : z9z x.2.2 y.2.2 = 0
  ·rw [if_pos e2]
   have b := h4.1 e2
   have hp : x.2 = y.2 := Prod.ext a b
   have hn : ¬ Lt2 x.2 y.2 := by rw [hp]; exact Lt2.irrefl
   by_cases e3 : y8j x.1 y.1 = 0
   ·rw [if_pos e3]
    have : ¬ Lt2 x.1 y.1 := by rw [h6.1 e3]; exact Lt2.irrefl
    simp [hn, this]
   ·rw [if_neg e3, h5]
    constructor
    ·exact fun h => Or.inr ⟨hp, h⟩
    ·rintro (h | h)
     ·exact absurd h hn
     ·exact h.2
  ·rw [if_neg e2, h3]
   have b : ¬ x.2.2 = y.2.2 := fun h => e2 (h4.2 h)
   have hp : ¬ x.2 = y.2 := fun h => b (by rw [h])
   simp only [hp, false_and, or_false]
   unfold Lt2
   omega
 ·rw [if_neg e, h1]
  have b : ¬ x.2.1 = y.2.1 := fun h => e (h2.2 h)
  have hp : ¬ x.2 = y.2 := fun h => b (by rw [h])
  simp only [hp, false_and, or_false]
  unfold Lt2
  omega
theorem Lt2.total {x y : Int × Int} (h : ¬ Lt2 x y) : x = y ∨ Lt2 y x := by
 by_cases e : x = y
 ·exact Or.inl e
 ·exact Or.inr (Lt2.other e h)
theorem LtE.total {x y : En} (h : ¬ LtE x y) : x = y ∨ LtE y x := by
 unfold LtE at *
 rcases Lt2.total (fun h1 => h (Or.inl h1) : ¬ Lt2 x.2 y.2) with e | h1
 ·rcases Lt2.total (fun h1 => h (Or.inr ⟨e, h1⟩) : ¬ Lt2 x.1 y.1) with e1 | h1
  ·exact Or.inl (Prod.ext e1 e)
  ·exact Or.inr (Or.inr ⟨e.symm, h1⟩)
 ·exact Or.inr (Or.inl h1)
theorem q6m {α : Type} {R : α → α → Prop} {lt : α → α → Bool} (hl : ∀ x y, lt x y = true ↔ R x y) (irr : ∀ x, ¬ R x x) (tr : ∀ x y z, R x y → R y z → R x z) (tot : ∀ x y, ¬ R x y → x = y ∨ R y x) : Sort.SWO lt where
 irrefl x := by
  cases h : lt x x
  ·rfl
  ·exact absurd ((hl x x).1 h) (irr x)
 trans x y z h1 h2 := (hl x z).2 (tr x y z ((hl x y).1 h1) ((hl y z).1 h2))
 ntrans x y z h1 h2 := by
  cases h : lt x z
  ·rfl
  ·have h3 := (hl x z).1 h
   have n1 : ¬ R x y := fun hr => by rw [(hl x y).2 hr] at h1; cases h1
   have n2 : ¬ R y z := fun hr => by rw [(hl y z).2 hr] at h2; cases h2
   rcases tot x y n1 with rfl | h4
   ·exact absurd h3 n2
   ·rcases tot y z n2 with rfl | h5
    ·exact absurd h3 n1
    ·exact absurd (tr _ _ _ h3 (tr _ _ _ h5 h4)) (irr x)
theorem q6b (x y : Int × Int) : Go.Proofs.ltOf y8j x y = true ↔ Lt2 x y := by
 unfold Go.Proofs.ltOf
 rw [decide_eq_true_eq]
 exact x0p x y
theorem q6c (x y : En) : Go.Proofs.ltOf q0f x y = true ↔ LtE x y := by
 unfold Go.Proofs.ltOf
 rw [decide_eq_true_eq]
 exact q1g x y
theorem j3g : Sort.SWO (Go.Proofs.ltOf y8j) := q6m q6b (fun _ => Lt2.irrefl) (fun _ _ _ h k => h.trans k) fun _ _ h => Lt2.total h
theorem j3h : Sort.SWO (Go.Proofs.ltOf q0f) := q6m q6c (fun _ => LtE.irrefl) (fun _ _ _ h k => h.trans k) fun _ _ h => LtE.total h
theorem y6c {α : Type} [Inhabited α] (enc : α → List Value) (k : Nat) (hk0 : 0 < k) (hk : ∀ x, (enc x).length = k) (d : Array α) : (Sort.flatK enc k d).toList = d.toList.flatMap enc := by
 have hl : (d.toList.flatMap enc).length = d.size * k := by
  have : ∀ l : List α, (l.flatMap enc).length = l.length * k := by
   intro l
   induction l with
   | nil => simp
   | cons x r ih => rw [List.flatMap_cons, List.length_append, ih, hk, List.length_cons, Nat.add_mul]; omega
  rw [this]
  simp
 apply List.ext_getElem?
 intro t
 by_cases h : t < d.size * k
 ·have hq : t / k < d.size := by rw [Nat.div_lt_iff_lt_mul hk0]; exact h
  have hr : t % k < k := Nat.mod_lt _ hk0
  have h1 := Sort.get_flatK enc k d t h
  have hx : d.toList[t / k]? = some d[t / k]! := by
   rw [getElem!_pos d (t / k) hq]
   simp [hq]
  have h2 := flat_get enc k hk d.toList (t / k) (t % k) _ hx hr
  rw [show t / k * k + t % k = t by rw [Nat.mul_comm]; exact Nat.div_add_mod t k] at h2
  rw [h2]
  have ht : t < (Sort.flatK enc k d).size := by simpa using h
  have h3 : (Sort.flatK enc k d)[t]? = some (Sort.flatK enc k d)[t]! := by rw [getElem!_pos _ t ht]; simp
  have e1 : (Sort.flatK enc k d).toList[t]? = (Sort.flatK enc k d)[t]? := by simp
  rw [e1, h3, h1, getElem!_pos _ _ (by rw [hk]; exact hr)]
  simp
 ·rw [List.getElem?_eq_none (by simp; omega), List.getElem?_eq_none (by rw [hl]; omega)]
theorem y6n {α : Type} [Inhabited α] (enc : α → List Value) (k : Nat) (hk0 : 0 < k) (hk : ∀ x, (enc x).length = k) {w : World} {blk : Nat} {cur : Array Value} {T : TypeId} (hb : w.heap[blk]? = some (.cells cur T (0, 0))) (d : Array α) (hc : cur.toList.take (d.size * k) = d.toList.flatMap enc) : Sort.HoldsK enc k w blk 0 d := by
 intro j hj
 have hj : j < d.size * k := by simpa using hj
 rw [← y6c enc k hk0 hk d] at hc
 have h1 : (Sort.flatK enc k d).toList[j]? = some (Sort.flatK enc k d)[j]! := by
  have : j < (Sort.flatK enc k d).size := by simpa using hj
  rw [getElem!_pos _ j this]
  simp
 rw [← hc, List.getElem?_take_of_lt hj] at h1
 rw [Nat.zero_add]
 constructor
 ·exact z0c hb j (by simpa using h1)
 ·simp [World.frozen?, hb]
theorem z9m {α : Type} [Inhabited α] (enc : α → List Value) (k : Nat) (hk0 : 0 < k) (hk : ∀ x, (enc x).length = k) {w : World} {blk : Nat} {cur : Array Value} {T : TypeId} (hb : w.heap[blk]? = some (.cells cur T (0, 0))) (d' : Array α) (n : Nat) (os : Array Obj) (hsz : d'.size * k ≤ cur.size) :
  (∃ cur', (sortWorldK enc k w blk 0 n d' os).heap[blk]? = some (.cells cur' T (0, 0)) ∧ cur'.size = cur.size ∧ cur'.toList.take (d'.size * k) = d'.toList.flatMap enc) ∧ Fr (fun b => b = blk) w.heap.size w (sortWorldK enc k w blk 0 n d' os) := by
 have hlt := (aL hb)
 have hm : (Sort.putRow id (Sort.ahead w n) blk 0 (Sort.flatK enc k d')).heap[blk]? = some (.cells (Sort.putCells id 0 (Sort.flatK enc k d') cur) T (0, 0)) := by
  show (w.heap.modify blk _)[blk]? = _
  rw [Array.getElem?_modify, if_pos rfl, hb]
  rfl
 refine ⟨⟨Sort.putCells id 0 (Sort.flatK enc k d') cur, ?_, by simp [Sort.putCells], ?_⟩, ⟨rfl, rfl, rfl, ?_, fun j hj hne => ?_⟩⟩
 ·show ((Sort.putRow id (Sort.ahead w n) blk 0 (Sort.flatK enc k d')).heap ++ os)[blk]? = _
  rw [Array.getElem?_append_left (by rw [show (Sort.putRow id (Sort.ahead w n) blk 0 (Sort.flatK enc k d')).heap.size = w.heap.size from by show (w.heap.modify blk _).size = _; simp]; exact hlt)]
  exact hm
 ·rw [← y6c enc k hk0 hk d']
  apply List.ext_getElem?
  intro j
  by_cases hj : j < d'.size * k
  ·have hj2 : j < (Sort.flatK enc k d').size := by simpa using hj
   rw [List.getElem?_take_of_lt hj]
   have : (Sort.putCells id 0 (Sort.flatK enc k d') cur).toList[j]? = (Sort.putCells id 0 (Sort.flatK enc k d') cur)[j]? := by simp
   rw [this, Sort.putCells, Array.getElem?_mapIdx, Array.getElem?_eq_getElem (by omega)]
   simp [hj]
  ·rw [List.getElem?_eq_none (by rw [List.length_take]; omega), List.getElem?_eq_none (by simp; omega)]
 ·show w.heap.size ≤ ((w.heap.modify blk _) ++ os).size
  simp
 ·show ((Sort.putRow id (Sort.ahead w n) blk 0 (Sort.flatK enc k d')).heap ++ os)[j]? = _
  have hs : (Sort.putRow id (Sort.ahead w n) blk 0 (Sort.flatK enc k d')).heap.size = w.heap.size := by show (w.heap.modify blk _).size = _; simp
  rw [Array.getElem?_append_left (by rw [hs]; exact hj)]
  show (w.heap.modify blk _)[j]? = _
  rw [Array.getElem?_modify, if_neg (fun e => hne e.symm)]
theorem y7a {α : Type} [Inhabited α] {d d' : Array α} (h : Sort.PermIn 0 d.size d d') : d'.toList.Perm d.toList := by
 obtain ⟨h1, _, h3⟩ := h
 simp at h3
 rwa [List.take_of_length_le (by simp [h1])] at h3
theorem y6z {α : Type} [Inhabited α] {lt : α → α → Bool} {n : Nat} {d : Array α} (h : Sort.SortedIn lt 0 n d) (hn : n = d.size) : d.toList.Pairwise fun x y => lt y x = false := by
 rw [List.pairwise_iff_getElem]
 intro i j hi hj hij
 have hi' : i < d.size := by simpa using hi
 have hj' : j < d.size := by simpa using hj
 have := h i j (Nat.zero_le _) hij (by omega)
 rw [getElem!_pos d i hi', getElem!_pos d j hj'] at this
 simpa using this
theorem x9f (ks : List (Int × Int)) (w : World) (blk cap : Nat) {cur : Array Value} (hb : w.heap[blk]? = some (.cells cur 154 (0, 0))) (hc : cur.toList.take (ks.length * 2) = ks.flatMap kC) (hcs : ks.length * 2 ≤ cur.size) (hl : ks.length < 4611686018427387904) :
  Calls Tryz.prog 231 #[.slice (some ⟨blk, 0, none⟩) ks.length cap, .func (.func 161) #[] #[]] w fun e w' => ∃ v, e = .returned v ∧ v = .tuple #[] ∧ (∃ ks' : List (Int × Int), ks'.Perm ks ∧ (ks'.Pairwise fun x y => ¬ Lt2 y x) ∧ ∃ cur', w'.heap[blk]? = some (.cells cur' 154 (0, 0)) ∧ cur'.size = cur.size ∧ cur'.toList.take (ks.length * 2) = ks'.flatMap kC) ∧ Fr (fun b => b = blk) w.heap.size w w' := by
 have hH := y6n kC 2 (by omega) y6p hb ks.toArray (by simpa using hc)
 have hlt := (aL hb)
 have eg : ∀ args w, (callFunc 161 args).run Tryz.prog w = .ok (.enter 161 args) w := enters_of Tryz.func161 (by kernel_rfl) rfl
 have hcmp : CmpLays Tryz.prog 161 #[] kC 2 y8j blk 0 ks.toArray.size w := fun m os dk _ x y => x5q x.1 x.2 y.1 y.2 _
 have h1 : ∀ x : Int × Int, ∀ v ∈ kC x, v.oneCell' = true := fun x v hv => by
  simp [kC] at hv
  rcases hv with rfl | rfl <;> rfl
 have hcon := AnyQ.slices_SortFunc x9e 2 Tryz.isAgg154 Tryz.sizeOf154 kC y6p h1 y8j j3g 161 #[] blk 0 cap ks.toArray w eg hcmp hH hlt (by simpa using hl)
 change Calls Tryz.prog 231 _ _ _ at hcon
 refine Calls.mono hcon ?_
 rintro e w' ⟨rfl, d', n, os, hp, hs, rfl⟩
 have hps := y7a hp
 have hsz : d'.size = ks.length := by simpa using hp.1
 obtain ⟨⟨cur', c1, c2, c3⟩, hf⟩ := z9m kC 2 (by omega) y6p hb d' n os (by rw [hsz]; exact hcs)
 refine ⟨_, rfl, rfl, ⟨d'.toList, by simpa using hps, ?_, cur', c1, c2, by rw [← hsz]; exact c3⟩, hf⟩
 refine (y6z hs (by simpa using hsz.symm)).imp fun {x y} h => ?_
 intro hlt2
 rw [(q6b y x).2 hlt2] at h
 cases h
theorem y2q (e : En) : (eC e).length = 4 := rfl
theorem x9h (es : List En) (w : World) (blk cap : Nat) {cur : Array Value} (hb : w.heap[blk]? = some (.cells cur 245 (0, 0))) (hc : cur.toList.take (es.length * 4) = es.flatMap eC) (hcs : es.length * 4 ≤ cur.size) (hl : es.length < 4611686018427387904) :
  Calls Tryz.prog 152 #[.slice (some ⟨blk, 0, none⟩) es.length cap, .func (.func 153) #[] #[]] w fun e w' => ∃ v, e = .returned v ∧ v = .tuple #[] ∧ (∃ es' : List En, es'.Perm es ∧ (es'.Pairwise fun x y => ¬ LtE y x) ∧ ∃ cur', w'.heap[blk]? = some (.cells cur' 245 (0, 0)) ∧ cur'.size = cur.size ∧ cur'.toList.take (es.length * 4) = es'.flatMap eC) ∧ Fr (fun b => b = blk) w.heap.size w w' := by
 have hH := y6n eC 4 (by omega) y2q hb es.toArray (by simpa using hc)
 have hlt := (aL hb)
 have eg : ∀ args w, (callFunc 153 args).run Tryz.prog w = .ok (.enter 153 args) w := enters_of Tryz.func153 (by kernel_rfl) rfl
 have hcmp : CmpLays Tryz.prog 153 #[] eC 4 q0f blk 0 es.toArray.size w := fun m os dk _ x y => q1a x.1.1 x.1.2 x.2.1 x.2.2 y.1.1 y.1.2 y.2.1 y.2.2 _
 have h1 : ∀ x : En, ∀ v ∈ eC x, v.oneCell' = true := fun x v hv => by
  simp [eC] at hv
  rcases hv with rfl | rfl | rfl | rfl <;> rfl
 have hcon := AnyQ.slices_SortFunc x9g 4 Tryz.isAgg245 Tryz.sizeOf245 eC y2q h1 q0f j3h 153 #[] blk 0 cap es.toArray w eg hcmp hH hlt (by simpa using hl)
 change Calls Tryz.prog 152 _ _ _ at hcon
 refine Calls.mono hcon ?_
 rintro e w' ⟨rfl, d', n, os, hp, hs, rfl⟩
 have hps := y7a hp
 have hsz : d'.size = es.length := by simpa using hp.1
 obtain ⟨⟨cur', c1, c2, c3⟩, hf⟩ := z9m eC 4 (by omega) y2q hb d' n os (by rw [hsz]; exact hcs)
 refine ⟨_, rfl, rfl, ⟨d'.toList, by simpa using hps, ?_, cur', c1, c2, by rw [← hsz]; exact c3⟩, hf⟩
 refine (y6z hs (by simpa using hsz.symm)).imp fun {x y} h => ?_
 intro hlt2
 rw [(q6c y x).2 hlt2] at h
 cases h
end Gt
open Go Go.RowKit
namespace Mp
section
variable {F : Fence} {n : Nat} {P : Program} (w : World) {ops : Array Oper} {rest : List Oper} {o : Oper} {a : Act} {Q : Exit → Act → World → Prop}
theorem y6o (hg : o.guard = none) (m : Operand) (t : TypeId) (hop : o.op = Op.range t m) {k e : TypeId} (ht : P.underlying t = some (.map k e)) (hm : a.eval m = .map none)
  (hK : wpListIn F n P ops Q rest (a.put o.dst (.pointer (some ⟨w.heap.size, 0, none⟩))) (w.alloc (.mapIter none 0 #[] 0))) : wpListIn F n P ops Q (o :: rest) a w := by
 refine wpListIn_plain hg fun K' hK' => ?_
 have h1 := run_range_nilMap (P := P) w t k e ht
 unfold Oper.wpIn
 refine ⟨by simp [Oper.about, hop], ?_⟩
 rw [Oper.semAt_plain F _ _ (by rw [hop]; intro c hc'; cases hc')]
 simp [execOp, hop, hm, h1, Result.andThen]
 exact hK' _ _ hK
theorem y8y (hg : o.guard = none) (it : Operand) (hop : o.op = Op.next it false) (r : Nat) (hit : a.eval it = .pointer (some ⟨r, 0, none⟩)) {x y : Nat} {s : Array Nat} (hr : w.heap[r]? = some (.mapIter none x s y)) (hK : wpListIn F n P ops Q rest (a.put o.dst (.tuple #[.bool false])) w) : wpListIn F n P ops Q (o :: rest) a w := by
 refine wpListIn_plain hg fun K' hK' => ?_
 have h1 : (Instr.next (.pointer (some ⟨r, 0, none⟩)) false o.type).run P w = .ok (.tuple #[.bool false]) w := by
  simp only [Instr.next, getObj, Sem.run_bind, Sem.run, hr, Result.andThen]
  rfl
 unfold Oper.wpIn
 refine ⟨by simp [Oper.about, hop], ?_⟩
 rw [Oper.semAt_plain F _ _ (by rw [hop]; intro c hc'; cases hc')]
 simp [execOp, hop, hit, h1, Result.andThen]
 exact hK' _ _ hK
end
end Mp
namespace Gt
open Mp Bk Tk
theorem keys_nil (F : Fence) (n : Nat) (hF : F.fn 232) (hro : F.round = none) (Bm : Nat) (w : World) (hm : w.cell? ⟨Bm, 0, none⟩ = some (.map none)) :
  SeqStopsK F n Tryz.prog 232 #[.pointer (some ⟨Bm, 0, none⟩)] (fun x => #[two x]) KeepsWalks (fun ss => ss = []) (fun _ => True) 0 w := fun l J Jx W hW hJ _ _ h0 => by
 have hBm : Bm < w.heap.size := by
  simp only [World.cell?] at hm
  cases he : w.heap[Bm]? with
  | none => simp [he] at hm
  | some o => exact (aL he)
 have hm : W.cell? ⟨Bm, 0, none⟩ = some (.map none) := by rw [hW.cell (by exact hBm)]; exact hm
 have hJ0 : J [] (W.alloc (.mapIter none 0 #[] 0)) := hJ [] W _ none h0 (World.grownBy_alloc W _ none) (fun r e => by cases e)
 have hit : (W.alloc (.mapIter none 0 #[] 0)).heap[W.heap.size]? = some (.mapIter none 0 #[] 0) := heap_alloc_new _ _
 show CallsIn F n Tryz.prog 232 #[.func (.yield l) #[] #[], .pointer (some ⟨Bm, 0, none⟩)] W _
 refine callsIn_of_wp Tryz.func232 rfl hF ?_ hro
 simp only [Tryz.ntmps232, List.size_toArray, List.length_cons, List.length_nil, Nat.reduceAdd, Nat.reduceSub, Array.replicate_succ, Array.replicate_zero, List.push_toArray, List.append_toArray, List.nil_append, List.cons_append]
 gi_wp2_with (first
  | (gi_at_range; refine y6o _ rfl _ _ rfl z6d rfl ?_)
  | gi_in)
 generalize W.alloc (.mapIter none 0 #[] 0) = w1 at *
 refine Ks.q6a (fun _ a wr => wr = w1 ∧ a = { tmps := #[.func (.yield l) #[] #[], .pointer (some ⟨Bm, 0, none⟩), undef, undef, .map none, .pointer (some ⟨W.heap.size, 0, none⟩), undef, undef, undef, undef, undef, undef, undef, undef], defers := [] }) 0 ⟨rfl, rfl⟩ ?_
 rintro m a wr ⟨rfl, rfl⟩
 gi_wp2_with (first
  | (gi_at_next; refine y8y _ rfl _ rfl _ rfl hit ?_)
  | gi_in)
 gi_wp2
 go_end0
 exact ⟨⟨_, rfl⟩, Or.inl ⟨[], rfl, hJ0⟩⟩
theorem y8k (Bm : Nat) (w : World) (hm : w.cell? ⟨Bm, 0, none⟩ = some (.map none)) :
  Calls Tryz.prog 230 #[.func (.func 232) #[] #[.pointer (some ⟨Bm, 0, none⟩)]] w fun e w' => ∃ v, e = .returned v ∧ (∃ ss : List (Int × Int), ss = [] ∧ w'.ownsRow w.heap.size 154 2 v ss.length (ss.flatMap kC)) ∧ Below w.heap.size w w' := by
 refine Calls.mono (calls_of_every_depth (L := [230, 269, 232]) (n := 3) fun D => y2p (Fence.list [230, 269, 232] (some D)) 3 ?_ ?_ rfl (Nat.le_refl _) 232 #[.pointer (some ⟨Bm, 0, none⟩)] ?_ ?_ _ _ 0 (by omega) w (keys_nil _ _ ?_ rfl Bm w hm)) ?_
 ·simp [Fence.list]
 ·simp [Fence.list]
 ·simp [Fence.list]
 ·exact enters_of Tryz.func232 (by kernel_rfl) rfl
 ·simp [Fence.list]
 ·rintro e w' ⟨v, ss, rfl, hS, hrow, hb⟩
  exact ⟨v, rfl, ⟨ss, hS, hrow⟩, hb⟩
theorem x4c (m : Value) (hm : m.cells = #[m]) (w : World) : Calls Tryz.prog 160 #[m] w fun e w' => ∃ v, e = .returned v ∧ (∃ b, v = .func (.func 232) #[] #[.pointer (some ⟨b, 0, none⟩)] ∧ w'.heap[b]? = some (.cells #[m] 137 (0, 0))) ∧ Below w.heap.size w w' := by
 go_enter Tryz.func160, Tryz.ntmps160
 refine wp_seq ?_
 refine Ks.reg ?_
 refine Ks.box rfl _ _ rfl #[m] (by exact hm) ?_
 intro w1 b1 Hb1 HX1 HB1 HS1
 simp only [zD]
 refine Ks.v (.nilFunc) ?_
 simp only [zD]
 refine Ks.done ?_
 refine wp_seq ?_
 refine Ks.reg ?_
 refine Ks.v (.func (.func 232) #[] #[.pointer (some ⟨b1, 0, none⟩)]) ?_
 simp only [zD]
 refine Ks.v (.func (.func 232) #[] #[.pointer (some ⟨b1, 0, none⟩)]) ?_
 simp only [zD]
 refine Ks.done ?_
 refine wp_ret ?_
 repeat (refine Ks.ret ?_)
 refine bodyPost_ret (v := .func (.func 232) #[] #[.pointer (some ⟨b1, 0, none⟩)]) (by simp [results, Tryz.results160]) rfl ?_
 exact ⟨_, rfl, ⟨b1, rfl, HX1.out⟩, HB1.out⟩
theorem q4n (sv : Value) (ks0 : List (Int × Int)) (hl : ks0.length ≤ 1000000) (w : World) (hc : Calls Tryz.prog 230 #[sv] w fun e w' => ∃ v, e = .returned v ∧ (∃ ss : List (Int × Int), ss.Perm ks0 ∧ w'.ownsRow w.heap.size 154 2 v ss.length (ss.flatMap kC)) ∧ Below w.heap.size w w') :
  Calls Tryz.prog 159 #[sv, .func (.func 161) #[] #[]] w fun e w' => ∃ v, e = .returned v ∧ (∃ ks : List (Int × Int), ks.Perm ks0 ∧ (ks.Pairwise fun x y => ¬ Lt2 y x) ∧ Row (fun k => w.heap.size ≤ k) w' 154 2 v ks.length (ks.flatMap kC)) ∧ Below w.heap.size w w' := by
 go_enter Tryz.func159, Tryz.ntmps159
 refine wp_seq ?_
 refine Ks.reg ?_
 refine Ks.v (.slice none 0 0) ?_
 simp only [zD]
 refine Ks.done ?_
 refine wp_seq ?_
 refine Ks.reg ?_
 refine Ks.v (sv) ?_
 simp only [zD]
 refine Ks.call rfl 230 #[sv] (by kernel_rfl) hc ?_
 rintro v w1 ⟨⟨ss, hp, hrow⟩, hb1⟩
 simp only [zD]
 refine Ks.v (v) ?_
 simp only [zD]
 refine Ks.done ?_
 have hlen : ss.length ≤ 1000000 := by rw [hp.length_eq]; exact hl
 refine wp_seq ?_
 refine Ks.reg ?_
 refine Ks.v (v) ?_
 simp only [zD]
 refine Ks.v (.func (.func 161) #[] #[]) ?_
 simp only [zD]
 rcases hrow.2 with ⟨rfl, h0⟩ | ⟨g, cap, cur, rfl, hbase, hgb, h1, h2, h3, h4⟩
 ·obtain rfl : ss = [] := List.length_eq_zero_iff.1 h0
  have hn : Calls Tryz.prog 231 #[.slice none 0 0, .func (.func 161) #[] #[]] w1 fun e w' => ∃ v, e = .returned v ∧ v = .tuple #[] ∧ w' = w1 := by
   have := AnyF.slices_SortFunc_none x9e none 0 (.func (.func 161) #[] #[]) w1
   exact Calls.mono this fun e w' h => ⟨_, h.1, rfl, h.2⟩
  refine Ks.call rfl 231 #[.slice none 0 0, .func (.func 161) #[] #[]] (by kernel_rfl) hn ?_
  rintro _ _ ⟨rfl, rfl⟩
  simp only [zD]
  refine Ks.done ?_
  refine wp_seq ?_
  refine Ks.reg ?_
  refine Ks.v (.slice none 0 0) ?_
  simp only [zD]
  refine Ks.v (.slice none 0 0) ?_
  simp only [zD]
  refine Ks.done ?_
  refine wp_ret ?_
  repeat (refine Ks.ret ?_)
  refine bodyPost_ret (v := .slice none 0 0) (by simp [results, Tryz.results159]) rfl ?_
  exact ⟨_, rfl, ⟨[], hp, List.Pairwise.nil, Row.nil _ _ _ _⟩, hb1⟩
 ·have hs := x9f ss w1 g cap hgb h4 (by rw [h3]; omega) (by omega)
  refine Ks.call rfl 231 #[.slice (some ⟨g, 0, none⟩) ss.length cap, .func (.func 161) #[] #[]] (by kernel_rfl) hs ?_
  rintro _ w2 ⟨rfl, ⟨ks, hp2, hs2, cur', c1, c2, c3⟩, hf⟩
  simp only [zD]
  refine Ks.done ?_
  refine wp_seq ?_
  refine Ks.reg ?_
  refine Ks.v (.slice (some ⟨g, 0, none⟩) ss.length cap) ?_
  simp only [zD]
  refine Ks.v (.slice (some ⟨g, 0, none⟩) ss.length cap) ?_
  simp only [zD]
  refine Ks.done ?_
  refine wp_ret ?_
  repeat (refine Ks.ret ?_)
  refine bodyPost_ret (v := .slice (some ⟨g, 0, none⟩) ss.length cap) (by simp [results, Tryz.results159]) rfl ?_
  have hkl : ks.length = ss.length := hp2.length_eq
  refine ⟨_, rfl, ⟨ks, hp2.trans hp, hs2, ⟨?_, ?_⟩, fun b hb => ?_⟩, hb1.trans (hf.below hb1.size fun k hk e => by omega)⟩
  ·rw [← c3, List.length_take, hkl]
   simp only [Array.length_toList]
   omega
  ·exact Or.inr ⟨g, cap, cur', by rw [hkl], Nat.zero_le _, c1, by rw [hkl]; exact h1, h2, by rw [c2, h3], by rw [hkl]; exact c3⟩
  ·injection hb with hb
   have e : g = b := hb
   show w.heap.size ≤ b
   omega
theorem y9b {ks m : List (Int × Int)} (hp : ks.Perm m) (hm : m.Pairwise Lt2) (hs : ks.Pairwise fun x y => ¬ Lt2 y x) : ks = m := by
 have hmn : m.Nodup := by
  refine List.Pairwise.imp (R := Lt2) ?_ hm
  rintro a b h rfl
  exact Lt2.irrefl h
 have hn : ks.Nodup := hp.nodup_iff.2 hmn
 have h2 : ks.Pairwise Lt2 := by
  have := List.Pairwise.and hs hn
  refine this.imp fun {a b} h => ?_
  rcases Lt2.total h.1 with e | h3
  ·exact absurd e.symm h.2
  ·exact h3
 exact z6j (R := Lt2) (fun _ => Lt2.irrefl) (fun h k => h.trans k) h2 hm fun x => hp.mem_iff
theorem z9c {S : Nat → Prop} {w : World} {g : Nat} {s : St} (h : z0h S w g s) (hI : Inv s) : Calls Tryz.prog 88 #[.pointer (some ⟨g, 3, none⟩)] w fun e w' => ∃ v, e = .returned v ∧ Row (fun k => w.heap.size ≤ k) w' 154 2 v s.l.length ((s.l.map It.key).flatMap kC) ∧ Below w.heap.size w w' := by
 obtain ⟨_, vh, vd, vu, hg, hm⟩ := h
 have hgl := (aL hg)
 have hone : vh.cells = #[vh] := by
  rcases hm with ⟨rfl, _⟩ | ⟨bh, bd, bu, lh, ld, lu, rfl, _⟩ <;> rfl
 have hfew := hI.few
 have HC : Hid (∀ (w1 : World) (b : Nat), Below w.heap.size w w1 → w1.heap[b]? = some (.cells #[vh] 137 (0, 0)) → Calls Tryz.prog 230 #[.func (.func 232) #[] #[.pointer (some ⟨b, 0, none⟩)]] w1 fun e w' => ∃ v, e = .returned v ∧ (∃ ss : List (Int × Int), ss.Perm (s.l.map It.key) ∧ w'.ownsRow w1.heap.size 154 2 v ss.length (ss.flatMap kC)) ∧ Below w1.heap.size w1 w') := by
  intro w1 b hb1 hbx
  rcases hm with ⟨rfl, rfl, rfl, hl⟩ | ⟨bh, bd, bu, lh, ld, lu, rfl, rfl, rfl, s1, s2, s3, n1, n2, n3, i1, i2, i3, H⟩
  ·refine Calls.mono (y8k b w1 (z0c hbx 0 rfl)) ?_
   rintro e w' ⟨v, rfl, ⟨ss, rfl, hrow⟩, hb⟩
   exact ⟨v, rfl, ⟨[], by rw [hl]; exact List.Perm.refl _, hrow⟩, hb⟩
  ·have e := H.len
   refine Calls.mono (x5z b bh lh (by omega) w1 (z0c hbx 0 rfl) (i1.congr (hb1.block bh i1.lt))) ?_
   rintro e w' ⟨v, rfl, ⟨ss, hp, hrow⟩, hb⟩
   exact ⟨v, rfl, ⟨ss, hp.trans H.heard, hrow⟩, hb⟩
 have HP : Hid (w.cell? ⟨g, 4, none⟩ = some vh) := z0c hg 4 rfl
 have hk := hI.rises
 clear hm hg
 go_enter Tryz.func88, Tryz.ntmps88
 refine wp_seq ?_
 refine Ks.reg ?_
 refine Ks.v (.slice none 0 0) ?_
 simp only [zD]
 refine Ks.done ?_
 refine wp_seq ?_
 refine Ks.reg ?_
 refine Ks.v (.pointer (some ⟨g, 3, none⟩)) ?_
 simp only [zD]
 refine Ks.v (.pointer (some ⟨g, 3, none⟩)) ?_
 simp only [zD]
 refine Ks.v (.pointer (some ⟨g, 4, none⟩)) ?_
 simp only [zD]
 refine Ks.cell rfl _ _ rfl z6d rfl g 4 vh rfl HP.out ?_
 simp only [zD]
 refine Ks.call rfl 160 #[vh] (by kernel_rfl) (x4c vh hone w) ?_
 rintro _ w1 ⟨⟨b, rfl, hbx⟩, hb1⟩
 simp only [zD]
 refine Ks.call rfl 159 #[.func (.func 232) #[] #[.pointer (some ⟨b, 0, none⟩)], .func (.func 161) #[] #[]] (by kernel_rfl) (q4n _ (s.l.map It.key) (by rw [List.length_map]; omega) w1 (HC.out w1 b hb1 hbx)) ?_
 rintro v w2 ⟨⟨ks, hp, hs, hrow⟩, hb2⟩
 obtain rfl := y9b hp (List.pairwise_map.2 hk) hs
 simp only [zD]
 refine Ks.v (v) ?_
 simp only [zD]
 refine Ks.done ?_
 refine wp_ret ?_
 repeat (refine Ks.ret ?_)
 refine bodyPost_ret (v := v) (by simp [results, Tryz.results88]) rfl ?_
 refine ⟨v, rfl, ?_, hb1.trans (hb2.mono hb1.size)⟩
 have := hrow.mono (T := fun k => w.heap.size ≤ k) fun k h => Nat.le_trans hb1.size h
 rwa [List.length_map] at this
end Gt
open Go Go.RowKit
namespace Gt
open Mp Bk Tk
def inC (n : Int) : Value := .int .i64 n
def snC (s : Sn) (m : Value) : List Value := [.int .i64 s.gate, .int .i64 s.upto, m]
theorem y4t (p : Sn × Value) : (snC p.1 p.2).length = 3 := rfl
def y1o (l : List (Sn × Value)) : List Value := l.flatMap fun p => snC p.1 p.2
theorem q9a : (Tryz.prog.info? 3).map (fun i => (i.zero, i.size, i.bytes)) = some (some (.int .i64 0), 1, 8) := by kernel_rfl
theorem k6m : (Tryz.prog.info? 213).map (fun i => (i.zero, i.size, i.bytes)) = some (some (.agg #[.int .i64 0, .int .i64 0, .slice none 0 0]), 3, 40) := by kernel_rfl
structure z1e (S : Nat → Prop) (w : World) (v : Value) (l : List (Sn × Value)) : Prop where
 row : Row S w 213 3 v l.length (y1o l)
 more : ∀ p ∈ l, Row S w 3 1 p.2 p.1.more.length (p.1.more.map inC)
 apart : l.Pairwise fun a b => ∀ k, a.2.ownBlock = some k → b.2.ownBlock ≠ some k
theorem j0c {S : Nat → Prop} (w : World) (bs o : Nat) (cs : Array Value) (s : Sn) (m : Value) (n : Int) (hb : w.heap[bs]? = some (.cells cs 213 (0, 0))) (h1 : cs[o + 1]? = some (.int .i64 s.upto)) (h2 : cs[o + 2]? = some m) (hm : Row S w 3 1 m s.more.length (s.more.map inC)) (hu : 0 ≤ s.upto ∧ s.upto ≤ 100000) (hl : s.more.length ≤ 100000) :
  Calls Tryz.prog 158 #[.pointer (some ⟨bs, o, none⟩), .int .i64 n] w fun e w' => ∃ v, e = .returned v ∧ v = .tuple #[] ∧ (∃ m', Row (fun k => m.ownBlock = some k ∨ w.heap.size ≤ k) w' 3 1 m' (s.see n).more.length ((s.see n).more.map inC) ∧ w'.heap[bs]? = some (.cells ((cs.setIfInBounds (o + 1) (.int .i64 (s.see n).upto)).setIfInBounds (o + 2) m') 213 (0, 0))) ∧ Fr (fun k => k = bs ∨ m.ownBlock = some k) w.heap.size w w' := by
 have hbl := (aL hb)
 have ho1 : o + 1 < cs.size := (aL h1)
 have ho2 : o + 2 < cs.size := (aL h2)
 have hmb : m.ownBlock ≠ some bs := z2e hm hb (by decide)
 go_enter Tryz.func158, Tryz.ntmps158
 refine wp_seq ?_
 refine Ks.reg ?_
 refine Ks.v (.int .i64 n) ?_
 simp only [zD]
 refine Ks.v (.pointer (some ⟨bs, o, none⟩)) ?_
 simp only [zD]
 refine Ks.v (.pointer (some ⟨bs, o, none⟩)) ?_
 simp only [zD]
 refine Ks.v (.pointer (some ⟨bs, o + 1, none⟩)) ?_
 simp only [zD]
 refine Ks.cell rfl _ _ rfl Tryz.underlying3 rfl bs (o + 1) (.int .i64 s.upto) rfl (z0c hb (o + 1) h1) ?_
 simp only [zD]
 refine Ks.val rfl (.int .i64 (s.upto + 1)) (by
  simp [execOp, go_sem]
  rw [IntWalk.i64_in _ ⟨by omega, by omega⟩]) ?_
 simp only [zD]
 refine Ks.v (.bool (decide (n = s.upto + 1))) ?_
 simp only [zD]
 refine Ks.done ?_
 refine wp_cond_split rfl ?_ ?_
 ·intro he
  have he : n = s.upto + 1 := of_decide_eq_true he
  have es : s.see n = { s with upto := n } := if_pos he
  rw [es]
  refine Ks.reg ?_
  refine Ks.v (.pointer (some ⟨bs, o, none⟩)) ?_
  simp only [zD]
  refine Ks.v (.int .i64 n) ?_
  simp only [zD]
  refine Ks.v (.pointer (some ⟨bs, o, none⟩)) ?_
  simp only [zD]
  refine Ks.v (.pointer (some ⟨bs, o + 1, none⟩)) ?_
  simp only [zD]
  refine Ks.store rfl _ _ _ rfl bs (o + 1) (.int .i64 n) rfl rfl hb ho1 (by kernel_rfl) rfl (cs.setIfInBounds (o + 1) (.int .i64 n)) rfl ?_
  intro w1 HC HF HO HS
  simp only [Act.put]
  refine Ks.fin ?_
  refine bodyPost_end (v := .tuple #[]) (by simp [results, Tryz.results158]) rfl ?_
  refine ⟨_, rfl, rfl, ⟨m, (Row.self (Row.other hm hmb HO.out)).mono fun _ h => Or.inl h, ?_⟩, HF.out _ _ (Or.inl (Or.inl rfl))⟩
  rw [HC.out]
  show some (Obj.cells _ _ _) = some (Obj.cells _ _ _)
  rw [x2h (i := o + 2)]
  rw [Array.getElem?_setIfInBounds, if_neg (by omega)]
  exact h2
 ·intro he
  have he : ¬ n = s.upto + 1 := of_decide_eq_false he
  have es : s.see n = { s with more := s.more ++ [n] } := if_neg he
  rw [es]
  refine Ks.reg ?_
  refine Ks.v (.pointer (some ⟨bs, o, none⟩)) ?_
  simp only [zD]
  refine Ks.v (.pointer (some ⟨bs, o, none⟩)) ?_
  simp only [zD]
  refine Ks.v (.pointer (some ⟨bs, o, none⟩)) ?_
  simp only [zD]
  refine Ks.v (.pointer (some ⟨bs, o + 2, none⟩)) ?_
  simp only [zD]
  refine Ks.cell rfl _ _ rfl Tryz.underlying25 rfl bs (o + 2) m rfl (z0c hb (o + 2) h2) ?_
  simp only [zD]
  refine Ks.v (.int .i64 n) ?_
  simp only [zD]
  refine Ks.push rfl rfl 25 3 _ _ _ rfl rfl (.int .i64 n) (.int .i64 0) rfl #[.int .i64 n] 1 8 Tryz.underlying25 q9a (by decide) (by decide) (by kernel_rfl) rfl (by decide) (fun k => m.ownBlock = some k) m s.more.length (s.more.map inC) (fun _ => rfl) (fun _ => rfl) (Row.self hm) rfl (by simp [Value.oneCell']) (by omega) ?_
  intro u m' w1 hrow hf
  have hb1 : w1.heap[bs]? = some (.cells cs 213 (0, 0)) := (hf.block bs hbl (fun e => hmb e)).trans hb
  have hmb1 : m'.ownBlock ≠ some bs := z2e hrow hb1 (by decide)
  simp only [zD]
  refine Ks.v (.pointer (some ⟨bs, o, none⟩)) ?_
  simp only [zD]
  refine Ks.v (.pointer (some ⟨bs, o + 2, none⟩)) ?_
  simp only [zD]
  refine Ks.store rfl _ _ _ rfl bs (o + 2) m' rfl rfl hb1 ho2 (by kernel_rfl) (Row.one hrow) (cs.setIfInBounds (o + 2) m') rfl ?_
  intro w2 HC HF HO HS
  simp only [Act.put]
  refine Ks.fin ?_
  refine bodyPost_end (v := .tuple #[]) (by simp [results, Tryz.results158]) rfl ?_
  refine ⟨_, rfl, rfl, ⟨m', ?_, ?_⟩, (hf.mono (Nat.le_refl _) fun k _ h => Or.inr h).trans (HF.out _ _ (Or.inl (Or.inl rfl)))⟩
  ·have := Row.other hrow hmb1 HO.out
   simpa [inC] using this
  ·rw [HC.out]
   show some (Obj.cells _ _ _) = some (Obj.cells _ _ _)
   rw [x2h (i := o + 1) h1]
end Gt
end Go.Proofs.YtbojijefenfbgaaGreatDoor

/- Walks of the program's gate: twice. Walk of the program's gate: Twice. -/
import Derived.Test.YtbojijefenfbgaaGreatDoorTtHearD
set_option maxRecDepth 100000
namespace Go.Proofs.YtbojijefenfbgaaGreatDoor
open Go Go.RowKit
namespace Ks
theorem k9n {P : Program} {ops : Array Oper} {rest : List Oper} {o : Oper} {a : Act} {w : World} {Q : Exit → Act → World → Prop} (hg : o.guard = none) (l c : Operand) (t : TypeId) (hop : o.op = Op.makeSlice t l c) (e : TypeId) (z : Value) (by1 : Nat) (h1 : P.underlying t = some (.slice e)) (h2 : (P.info? e).map (fun i => (i.zero, i.size, i.bytes)) = some (some z, 1, by1)) (hz : z.cells = #[z]) (n : Nat) (hl : a.eval l = .int .i64 (n : Int)) (hc : a.eval c = .int .i64 (n : Int)) (b2 : by1 * n ≤ 281474976710656) (b3 : n ≤ 281474976710656)
  (h : ∀ w' b, Hid (b = w.heap.size) → (∃ cur : Array Value, w'.heap[b]? = some (.cells cur e (0, 0)) ∧ cur.size = n) → Hid (Below w.heap.size w w') → wpList P ops Q rest (a.put o.dst (.slice (some ⟨b, 0, none⟩) n n)) w') : wpList P ops Q (o :: rest) a w := by
 refine Own.z4y w hg l c t hop e z by1 h1 h2 hz .i64 .i64 n n n hl hc rfl rfl b2 b3 ?_
 refine h _ _ rfl ⟨_, heap_alloc_new _ _, ?_⟩ ((Below.refl _ _).alloc (Nat.le_refl _) _)
 simp [Own.z4z, Own.z0f]
end Ks
namespace Gt
open Mp Bk Tk
theorem x6x : (Tryz.prog.info? 3).map (fun i => (i.zero, i.size, i.bytes)) = some (some (.int .i64 0), 1, 8) := by kernel_rfl
structure z5x (w : World) (b n : Nat) (l : List Int) (k : Nat) : Prop where
 row : ∃ cur, w.heap[b]? = some (.cells cur 3 (0, 0)) ∧ cur.size = n ∧ ∀ j, j < k → cur[j]? = (l[j]?).map inC
theorem z5x.below {w w' : World} {b n k : Nat} {l : List Int} (h : z5x w b n l k) (hb : Below w.heap.size w w') : z5x w' b n l k := by
 obtain ⟨cur, h1, h2⟩ := h.row
 exact ⟨cur, (hb.block b (aL h1)).trans h1, h2⟩
theorem z5x.full {w : World} {b : Nat} {l : List Int} (h : z5x w b l.length l l.length) (hl : l.length ≤ 1000000) : Row (fun k => k = b) w 3 1 (.slice (some ⟨b, 0, none⟩) l.length l.length) l.length (l.map inC) := by
 obtain ⟨cur, h1, h2, h3⟩ := h.row
 refine ⟨⟨by simp, Or.inr ⟨b, l.length, cur, rfl, Nat.zero_le _, h1, Nat.le_refl _, ?_, by rw [h2]; omega, ?_⟩⟩, fun k hk => (Option.some.inj hk).symm⟩
 ·unfold maxLen; omega
 ·rw [List.take_of_length_le (by simp [h2])]
  apply List.ext_getElem?
  intro j
  rw [Array.getElem?_toList, List.getElem?_map]
  by_cases hj : j < l.length
  ·exact h3 j hj
  ·rw [Array.getElem?_eq_none (by omega), List.getElem?_eq_none (by omega)]
   rfl
def y4y (g off n cap b0 b k : Nat) (f : Nat → Value) : Act := { tmps := #[.slice (some ⟨g, off, none⟩) n cap, f 1, .pointer (some ⟨b0, 0, none⟩), .slice (some ⟨b, 0, none⟩) n n, f 4, f 5, f 6, f 7, f 8, .slice (some ⟨g, off, none⟩) n cap, .int .i64 (n : Int), .int .i64 (k : Int), f 12, f 13, f 14, f 15, f 16, f 17, f 18, f 19, f 20, f 21, f 22, f 23, f 24, f 25, f 26, f 27, f 28, f 29, f 30, f 31, f 32, f 33, f 34], defers := [] }
theorem k1z (w : World) (g off cap : Nat) (es : List En) (h : y3d w g off es) (e0 : En) (he0 : es[0]? = some e0) (hl : es.length ≤ 1000000) : Calls Tryz.prog 82 #[.slice (some ⟨g, off, none⟩) es.length cap] w fun e w' => ∃ v, e = .returned v ∧ (∃ m, v = .agg #[.int .i64 e0.2.1, .int .i64 e0.2.2, m] ∧ Row (fun k => w.heap.size ≤ k) w' 3 1 m es.length ((es.map fun x => x.1.1).map inC)) ∧ Below w.heap.size w w' := by
 have hne : 0 < es.length := (lL he0)
 go_enter Tryz.func82, Tryz.ntmps82
 refine wp_seq ?_
 refine Ks.reg ?_
 refine Ks.alloc rfl _ rfl (.agg #[.int .i64 0, .int .i64 0, .slice none 0 0]) (by kernel_rfl) #[.int .i64 0, .int .i64 0, .slice none 0 0] rfl ?_
 intro w1 b0 Hb0 HX1 HB1 HS1
 simp only [zD]
 refine Ks.done ?_
 refine wp_seq ?_
 refine Ks.reg ?_
 refine Ks.v (.slice (some ⟨g, off, none⟩) es.length cap) ?_
 simp only [zD]
 refine Ks.v (.int .i64 (es.length : Int)) ?_
 simp only [zD]
 refine Ks.k9n rfl _ _ _ rfl 3 (.int .i64 0) 8 Tryz.underlying25 x6x rfl es.length rfl rfl (by omega) (by omega) ?_
 rintro w2 b Hb ⟨cur0, hcur0, hsz0⟩ HB2
 have hX2 : w2.heap[b0]? = some (.cells #[.int .i64 0, .int .i64 0, .slice none 0 0] 86 (0, 0)) := (HB2.out.block b0 (aL HX1.out)).trans HX1.out
 have hB2 : Below w.heap.size w w2 := HB1.out.trans (HB2.out.mono HB1.out.size)
 have hbw : w.heap.size ≤ b := by rw [Hb.out]; exact HB1.out.size
 have hb0w : w.heap.size ≤ b0 := Nat.le_of_eq Hb0.out.symm
 have hN0 : z5x w2 b es.length (es.map fun x => x.1.1) 0 := ⟨⟨cur0, hcur0, hsz0, fun j hj => absurd hj (Nat.not_lt_zero _)⟩⟩
 clear HB1 HB2 HX1 HS1 Hb Hb0 hcur0 hsz0
 simp only [zD]
 refine Ks.v (.slice (some ⟨b, 0, none⟩) es.length es.length) ?_
 simp only [zD]
 refine Ks.done ?_
 refine wp_seq ?_
 refine wp_seq ?_
 refine Ks.reg ?_
 refine Ks.v (.slice (some ⟨g, off, none⟩) es.length cap) ?_
 simp only [zD]
 refine Ks.v (.int .i64 (es.length : Int)) ?_
 simp only [zD]
 refine Ks.v (.int .i64 0) ?_
 simp only [zD]
 refine Ks.done ?_
 refine wp_block ?_
 refine Ks.loop (fun m a wr => ∃ (k : Nat) (f : Nat → Value), k ≤ es.length ∧ m = es.length - k ∧ z5x wr b es.length (es.map fun x => x.1.1) k ∧ wr.heap[b0]? = some (.cells #[.int .i64 0, .int .i64 0, .slice none 0 0] 86 (0, 0)) ∧ Below w.heap.size w wr ∧ a = y4y g off es.length cap b0 b k f) es.length ⟨0, fun j => Array.getD #[undef, undef, undef, undef, undef, undef, .slice (some ⟨g, off, none⟩) es.length cap, .int .i64 (es.length : Int), .slice (some ⟨b, 0, none⟩) es.length es.length] j undef, Nat.zero_le _, rfl, hN0, hX2, hB2, rfl⟩ ?_
 clear hN0 hX2 hB2
 rintro m a wr ⟨k, f, hk, rfl, hN, hX, hB, rfl⟩
 have fin : ∀ (a' : Act) (w' : World) (k' : Nat), k < k' → k' ≤ es.length → z5x w' b es.length (es.map fun x => x.1.1) k' → w'.heap[b0]? = some (.cells #[.int .i64 0, .int .i64 0, .slice none 0 0] 86 (0, 0)) → Below w.heap.size w w' → a' = y4y g off es.length cap b0 b k' (fun j => a'.tmps.getD j undef) → ∃ m, m < es.length - k ∧ ∃ (k : Nat) (f : Nat → Value), k ≤ es.length ∧ m = es.length - k ∧ z5x w' b es.length (es.map fun x => x.1.1) k ∧ w'.heap[b0]? = some (.cells #[.int .i64 0, .int .i64 0, .slice none 0 0] 86 (0, 0)) ∧ Below w.heap.size w w' ∧ a' = y4y g off es.length cap b0 b k f := fun a' w' k' q1 q2 q3 q4 q5 q6 => ⟨es.length - k', by omega, k', _, q2, rfl, q3, q4, q5, q6⟩
 have hE := h.below hB
 unfold y4y
 refine wp_seq ?_
 refine Ks.reg ?_
 refine Ks.v (.bool (decide ((k : Int) < es.length))) ?_
 simp only [zD]
 refine Ks.done ?_
 refine wp_seq ?_
 refine wp_cond_split rfl ?_ ?_
 ·intro hlt
  have hlt : k < es.length := by have := of_decide_eq_true hlt; omega
  obtain ⟨x, hx⟩ : ∃ x, es[k]? = some x := ⟨_, List.getElem?_eq_getElem hlt⟩
  refine wp_skip ?_
  refine Ks.norm ?_
  refine wp_seq ?_
  refine wp_block ?_
  refine wp_seq ?_
  refine Ks.reg ?_
  refine Ks.v (.int .i64 (k : Int)) ?_
  simp only [zD]
  refine Ks.q5t (by kernel_rfl) _ _ _ rfl 245 4 Tryz.underlying155 (by kernel_rfl) (by kernel_rfl) g off es.length cap k rfl rfl hlt ?_
  simp only [zD]
  refine Ks.mid rfl _ _ rfl g (off + k * 4) rfl (eC x) (hE.elt hx) Tryz.underlying245 rfl (by kernel_rfl) ?_
  simp only [zD]
  refine Ks.alloc rfl _ rfl (.agg #[.int .i64 0, .int .i64 0, .int .i64 0, .int .i64 0]) (by kernel_rfl) #[.int .i64 0, .int .i64 0, .int .i64 0, .int .i64 0] rfl ?_
  intro w3 b4 Hb4 HX3 HB3 HS3
  simp only [zD]
  refine Ks.v (.int .i64 (k : Int)) ?_
  simp only [zD]
  refine Ks.whole rfl _ _ _ rfl b4 (eC x).toArray rfl rfl HX3.out (by kernel_rfl) rfl (by kernel_rfl) ?_
  intro w4 HR4 H2 H3 H4
  have hb34 : Below wr.heap.size wr w4 := HB3.out.trans ((H2.out (fun _ => False) wr.heap.size (Or.inr (Nat.le_of_eq Hb4.out.symm))).below (Nat.le_refl _) fun _ _ h => h)
  have hN4 := hN.below hb34
  have hX4 : w4.heap[b0]? = some (.cells #[.int .i64 0, .int .i64 0, .slice none 0 0] 86 (0, 0)) := (hb34.block b0 (aL hX)).trans hX
  have hB4 : Below w.heap.size w w4 := hB.trans (hb34.mono hB.size)
  clear HX3 HB3 HS3 H2 H3 H4 hb34 hN hX
  simp only [Act.put]
  refine Ks.done ?_
  refine Ks.reg ?_
  refine Ks.v (.slice (some ⟨b, 0, none⟩) es.length es.length) ?_
  simp only [zD]
  refine Ks.v (.int .i64 (k : Int)) ?_
  simp only [zD]
  refine Ks.v (.pointer (some ⟨b4, 0, none⟩)) ?_
  simp only [zD]
  refine Ks.v (.pointer (some ⟨b4, 0, none⟩)) ?_
  simp only [zD]
  refine Ks.cell rfl _ _ rfl Tryz.underlying3 rfl b4 0 (.int .i64 x.1.1) rfl (z0c HR4.out 0 rfl) ?_
  simp only [zD]
  refine Ks.idx (by kernel_rfl) _ _ _ rfl 3 1 Tryz.underlying25 (by kernel_rfl) (by kernel_rfl) b es.length es.length k rfl rfl hlt ?_
  simp only [zD]
  obtain ⟨cur, hc1, hc2, hc3⟩ := hN4.row
  refine Ks.store rfl _ _ _ rfl b (k * 1) (.int .i64 x.1.1) rfl rfl hc1 (by omega) (by kernel_rfl) rfl (cur.setIfInBounds (k * 1) (.int .i64 x.1.1)) rfl ?_
  intro w5 HC HF HO HS
  have hX5 : w5.heap[b0]? = some (.cells #[.int .i64 0, .int .i64 0, .slice none 0 0] 86 (0, 0)) := (HO.out b0 fun e => by rw [e, hc1] at hX4; cases hX4).trans hX4
  have hB5 : Below w.heap.size w w5 := hB4.trans ((HF.out (fun _ => False) w.heap.size (Or.inr hbw)).below (Nat.le_refl _) fun _ _ h => h)
  have hN5 : z5x w5 b es.length (es.map fun x => x.1.1) (k + 1) := ⟨_, HC.out, by simpa using hc2, fun j hj => by
   rw [Array.getElem?_setIfInBounds]
   by_cases e : k = j
   ·subst e
    rw [Nat.mul_one, if_pos rfl, if_pos (by omega), List.getElem?_map, hx]
    rfl
   ·rw [Nat.mul_one, if_neg e]
    exact hc3 j (by omega)⟩
  simp only [Act.put]
  refine Ks.fin ?_
  refine Ks.inb ?_
  refine Ks.reg ?_
  refine Ks.val rfl (.int .i64 ((k + 1 : Nat) : Int)) (by
   simp [execOp, go_sem]
   rw [IntWalk.i64_in _ ⟨by omega, by omega⟩]) ?_
  simp only [zD]
  refine Ks.v (.int .i64 ((k + 1 : Nat) : Int)) ?_
  simp only [zD]
  refine Ks.done ?_
  exact fin _ w5 (k + 1) (by omega) hlt hN5 hX5 hB5 rfl
 ·intro hlt
  obtain rfl : k = es.length := by have := of_decide_eq_false hlt; omega
  refine wp_exit ?_
  refine Ks.z3r ?_
  refine Ks.norm ?_
  have hrow : Row (fun k => w.heap.size ≤ k) wr 3 1 (.slice (some ⟨b, 0, none⟩) es.length es.length) es.length ((es.map fun x => x.1.1).map inC) := by
   have h1 : z5x wr b (es.map fun x => x.1.1).length (es.map fun x => x.1.1) (es.map fun x => x.1.1).length := by rw [List.length_map]; exact hN
   have := h1.full (by rw [List.length_map]; exact hl)
   rw [List.length_map] at this
   exact this.mono fun _ e => e ▸ hbw
  refine wp_seq ?_
  refine Qg.z0q 12 (by kernel_rfl) (by kernel_rfl) ?_
  simp only [List.take_succ_cons, List.take_zero, List.drop_succ_cons, List.drop_zero]
  refine Qg.val (by kernel_rfl) (.slice (some ⟨g, off, none⟩) es.length cap) (fun _ _ => by kernel_rfl) ?_
  simp only [zD]
  refine Qg.q5t (by kernel_rfl) _ _ _ rfl 245 4 Tryz.underlying155 (by kernel_rfl) (by kernel_rfl) g off es.length cap 0 rfl rfl hne ?_
  simp only [zD]
  refine Qg.val (by kernel_rfl) (.pointer (some ⟨g, off + 0 * 4 + 2, none⟩)) (fun _ _ => by kernel_rfl) ?_
  simp only [zD]
  refine Qg.val (by kernel_rfl) (.pointer (some ⟨g, off + 0 * 4 + 2, none⟩)) (fun _ _ => by kernel_rfl) ?_
  simp only [zD]
  refine Qg.cell (by kernel_rfl) _ _ rfl Tryz.underlying3 rfl g (off + 0 * 4 + 2) (.int .i64 e0.2.1) rfl hE.lt (hE.pass he0 0 _ rfl) ?_
  simp only [zD]
  refine Qg.val (by kernel_rfl) (.slice (some ⟨g, off, none⟩) es.length cap) (fun _ _ => by kernel_rfl) ?_
  simp only [zD]
  refine Qg.q5t (by kernel_rfl) _ _ _ rfl 245 4 Tryz.underlying155 (by kernel_rfl) (by kernel_rfl) g off es.length cap 0 rfl rfl hne ?_
  simp only [zD]
  refine Qg.val (by kernel_rfl) (.pointer (some ⟨g, off + 0 * 4 + 2, none⟩)) (fun _ _ => by kernel_rfl) ?_
  simp only [zD]
  refine Qg.val (by kernel_rfl) (.pointer (some ⟨g, off + 0 * 4 + 3, none⟩)) (fun _ _ => by kernel_rfl) ?_
  simp only [zD]
  refine Qg.cell (by kernel_rfl) _ _ rfl Tryz.underlying3 rfl g (off + 0 * 4 + 3) (.int .i64 e0.2.2) rfl hE.lt (hE.pass he0 1 _ rfl) ?_
  simp only [zD]
  refine Qg.val (by kernel_rfl) (.slice (some ⟨b, 0, none⟩) es.length es.length) (fun _ _ => by kernel_rfl) ?_
  simp only [zD]
  refine Qg.val (by kernel_rfl) (.agg #[.int .i64 e0.2.1, .int .i64 e0.2.2, .slice (some ⟨b, 0, none⟩) es.length es.length]) (fun _ _ => by kernel_rfl) ?_
  simp only [zD]
  refine wpQuiet_nil ?_
  intro w3 hb3
  have hX3 : w3.heap[b0]? = some (.cells #[.int .i64 0, .int .i64 0, .slice none 0 0] 86 (0, 0)) := (Below.block hb3 b0 (aL hX)).trans hX
  have hrow3 := hrow.below hb3 (Nat.le_refl _)
  have hB3 : Below w.heap.size w w3 := hB.trans (Below.mono hb3 hB.size)
  refine Ks.whole rfl _ _ _ rfl b0 #[.int .i64 e0.2.1, .int .i64 e0.2.2, .slice (some ⟨b, 0, none⟩) es.length es.length] rfl rfl hX3 (by kernel_rfl) rfl (by kernel_rfl) ?_
  intro w4 HR4 H2 H3 H4
  simp only [Act.put]
  refine Ks.done ?_
  refine wp_ret ?_
  exact Own.z1g Tryz.results82 rfl b0 _ #[.int .i64 e0.2.1, .int .i64 e0.2.2, .slice (some ⟨b, 0, none⟩) es.length es.length] _ _ rfl HR4.out Tryz.underlying86 rfl (by kernel_rfl) ⟨_, rfl, ⟨_, rfl, Row.other hrow3 (z2e hrow3 hX3 (by decide)) H3.out⟩, hB3.trans ((H2.out (fun _ => False) w.heap.size (Or.inr hb0w)).below (Nat.le_refl _) (fun _ _ h => h))⟩
end Gt
open Go Go.RowKit
namespace Gt
open Mp Bk Tk
def twC (l : List (Tw × Value)) : List Value := l.flatMap fun p => [.int .i64 p.1.epoch, .int .i64 p.1.serial, p.2]
theorem k6z : (Tryz.prog.info? 86).map (fun i => (i.zero, i.size, i.bytes)) = some (some (.agg #[.int .i64 0, .int .i64 0, .slice none 0 0]), 3, 40) := by kernel_rfl
structure y5o (S : Nat → Prop) (w : World) (v : Value) (l : List (Tw × Value)) : Prop where
 row : Row S w 86 3 v l.length (twC l)
 more : ∀ p ∈ l, Row S w 3 1 p.2 p.1.gates.length (p.1.gates.map inC)
theorem y5o.nil (S : Nat → Prop) (w : World) : y5o S w (.slice none 0 0) [] := ⟨Row.nil _ _ _ _, fun _ hp => (List.not_mem_nil hp).elim⟩
theorem y5o.below {S : Nat → Prop} {w w' : World} {v : Value} {l : List (Tw × Value)} (h : y5o S w v l) (hb : Below w.heap.size w w') : y5o S w' v l := ⟨h.row.below hb (Nat.le_refl _), fun p hp => (h.more p hp).below hb (Nat.le_refl _)⟩
theorem y5o.mono {S T : Nat → Prop} {w : World} {v : Value} {l : List (Tw × Value)} (h : y5o S w v l) (hS : ∀ k, S k → T k) : y5o T w v l := ⟨h.row.mono hS, fun p hp => (h.more p hp).mono hS⟩
theorem y5o.push {S : Nat → Prop} {w w' : World} {v v' : Value} {l : List (Tw × Value)} (h : y5o S w v l) {t : Tw} {m : Value} (hm : Row S w 3 1 m t.gates.length (t.gates.map inC)) (hr : Row (fun k => S k ∨ w.heap.size ≤ k) w' 86 3 v' (l.length + 1) (twC l ++ [.int .i64 t.epoch, .int .i64 t.serial, m])) (hf : Fr (fun k => v.ownBlock = some k) w.heap.size w w') : y5o (fun k => S k ∨ w.heap.size ≤ k) w' v' (l ++ [(t, m)]) := by
 have hk : ∀ {u : Value} {n : Nat} {xs : List Value}, Row S w 3 1 u n xs → Row (fun k => S k ∨ w.heap.size ≤ k) w' 3 1 u n xs := fun hu => by
  refine (hu.congr fun b hb => hf.block b (hu.lt b hb) fun e => ?_).mono fun _ h => Or.inl h
  obtain ⟨cur, hc⟩ := Row.blk h.row e
  exact z2e hu hc (by decide) hb
 refine ⟨?_, ?_⟩
 ·rw [List.length_append]
  simpa [twC] using hr
 ·intro p hp
  rcases List.mem_append.1 hp with hp | hp
  ·exact hk (h.more p hp)
  ·obtain rfl : p = _ := List.mem_singleton.1 hp
   exact hk hm
def x0i (w : World) (v : Value) (rest : List En) : Prop := ∃ p cap, v = .slice p rest.length cap ∧ rest.length ≤ cap ∧ (0 < rest.length → ∃ g off cur, p = some ⟨g, off, none⟩ ∧ y3d w g off rest ∧ w.heap[g]? = some (.cells cur 245 (0, 0)))
theorem x0i.k5t {S : Nat → Prop} {w : World} {v : Value} {es : List En} (h : Row S w 245 4 v es.length (es.flatMap eC)) : x0i w v es := by
 rcases h.1.2 with ⟨rfl, h0⟩ | ⟨g, cap, cur, rfl, _, hg, hc, _, _, h4⟩
 ·exact ⟨none, 0, by rw [h0], by omega, fun h => absurd h (by omega)⟩
 ·refine ⟨some ⟨g, 0, none⟩, cap, rfl, hc, fun _ => ⟨g, 0, cur, rfl, ⟨(aL hg), fun j x hx => ?_⟩, hg⟩⟩
  rw [Nat.zero_add]
  refine (cell_of_row w g j _ _ _ hg).trans ?_
  rw [← h4] at hx
  have := (lL hx)
  rw [List.length_take] at this
  rw [List.getElem?_take_of_lt (by omega)] at hx
  simpa using hx
theorem y3d.split {w : World} {g off : Nat} {a b : List En} (h : y3d w g off (a ++ b)) : y3d w g off a ∧ y3d w g (off + a.length * 4) b := by
 have hl : (a.flatMap eC).length = a.length * 4 := by
  clear h
  induction a with
  | nil => rfl
  | cons x r ih => rw [List.flatMap_cons, List.length_append, ih, y2q, List.length_cons]; omega
 have hr := h.rng
 rw [List.flatMap_append] at hr
 refine ⟨⟨h.lt, fun j v hv => hr j v (by rw [List.getElem?_append_left (lL hv)]; exact hv)⟩, ⟨h.lt, fun j v hv => ?_⟩⟩
 have := hr (a.length * 4 + j) v (by rw [List.getElem?_append_right (by omega), hl, Nat.add_sub_cancel_left]; exact hv)
 rwa [show off + a.length * 4 + j = off + (a.length * 4 + j) by omega]
theorem x8v {rest : List En} {e0 : En} (h0 : rest[0]? = some e0) (hp : rest.Pairwise LtE) : ∃ run tail, rest = run ++ tail ∧ runN rest = run.length ∧ run[0]? = some e0 ∧ (∀ x ∈ run, x.2 = e0.2) ∧ ∀ y ∈ tail, Lt2 e0.2 y.2 := by
 cases rest with
 | nil => cases h0
 | cons z r =>
  obtain rfl : z = e0 := by simpa using h0
  refine ⟨(z :: r).takeWhile fun x => decide (x.2 = z.2), (z :: r).dropWhile fun x => decide (x.2 = z.2), (List.takeWhile_append_dropWhile ..).symm, rfl, by simp, fun x hx => by
   have := List.all_eq_true.1 (List.all_takeWhile (p := fun x : En => decide (x.2 = z.2)) (l := z :: r)) x hx
   simpa using this, ?_⟩
  have hz : z ∈ (z :: r).takeWhile fun x => decide (x.2 = z.2) := by simp
  rw [← List.takeWhile_append_dropWhile (p := fun x : En => decide (x.2 = z.2)) (l := z :: r), List.pairwise_append] at hp
  generalize hT : (z :: r).dropWhile (fun x => decide (x.2 = z.2)) = T at hp ⊢
  cases T with
  | nil => intro y hy; cases hy
  | cons y0 T =>
   have hy0 : y0.2 ≠ z.2 := by
    have := List.head_dropWhile_not (fun x : En => decide (x.2 = z.2)) (l := z :: r) (by rw [hT]; simp)
    simp only [hT, List.head_cons] at this
    simpa using this
   have h1 : Lt2 z.2 y0.2 := by
    rcases hp.2.2 z hz y0 (by simp) with h | h
    ·exact h
    ·exact absurd h.1.symm hy0
   intro y hy
   rcases List.mem_cons.1 hy with rfl | hy
   ·exact h1
   ·rcases (List.pairwise_cons.1 hp.2.1).1 y hy with h | h
    ·exact h1.trans h
    ·exact h.1 ▸ h1
theorem x6j {P : Program} {o : Oper} {f : Operand → Value} {w : World} (t : TypeId) (x y : Operand) (ho : o.op = .slice t x none (some y) none) (ht : P.underlying t = some (.slice (P.elem t))) {sz : Nat} (hs : P.cellsOf (P.elem t) = sz) (hi0 : (P.info? (P.elem t)).isSome = true) (b off n cap k : Nat) (hx : f x = .slice (some ⟨b, off, none⟩) n cap) (hy : f y = .int .i64 (k : Int)) (hk : k ≤ cap) :
  (execOp f o).run P w = .ok (.value (.slice (some ⟨b, off, none⟩) k cap)) w := by
 obtain ⟨i, hi1⟩ := Option.isSome_iff_exists.1 hi0
 have h2 : (sizeOf (P.elem t)).run P w = .ok sz w := by rw [← hs]; exact run_sizeOf w hi1
 have hr := run_slice_h (P := P) w t (some ⟨b, off, none⟩) n cap ht .i64 (k : Int) (by omega) (by omega)
 rw [h2, Result.andThen_ok] at hr
 have e : sliced (some ⟨b, off, none⟩) 0 (k : Int).toNat cap sz = .slice (some ⟨b, off, none⟩) k cap := by
  unfold sliced
  split <;> simp [Addr.add_mid]
 rw [e] at hr
 unfold execOp
 simp only [ho, hx, hy, Option.map_some, Option.map_none, Sem.run_bind, Sem.run_pure, Result.andThen_ok, run_sliceAt_slice w t _ _ _ _ ht, hr]
theorem x6k {P : Program} {o : Oper} {f : Operand → Value} {w : World} (t : TypeId) (x y : Operand) (ho : o.op = .slice t x (some y) none none) (ht : P.underlying t = some (.slice (P.elem t))) {sz : Nat} (hs : P.cellsOf (P.elem t) = sz) (hi0 : (P.info? (P.elem t)).isSome = true) (b off n cap k : Nat) (hx : f x = .slice (some ⟨b, off, none⟩) n cap) (hy : f y = .int .i64 (k : Int)) (hk : k ≤ n) :
  (execOp f o).run P w = .ok (.value (.slice (some ⟨b, if cap = k then off else off + k * sz, none⟩) (n - k) (cap - k))) w := by
 obtain ⟨i, hi1⟩ := Option.isSome_iff_exists.1 hi0
 have h2 : (sizeOf (P.elem t)).run P w = .ok sz w := by rw [← hs]; exact run_sizeOf w hi1
 have hr := run_slice_l (P := P) w t (some ⟨b, off, none⟩) n cap ht .i64 (k : Int) (by omega) (by omega)
 rw [h2, Result.andThen_ok] at hr
 have e : sliced (some ⟨b, off, none⟩) (k : Int).toNat n cap sz = .slice (some ⟨b, if cap = k then off else off + k * sz, none⟩) (n - k) (cap - k) := by
  unfold sliced
  rw [Int.toNat_natCast]
  split <;> simp [Addr.add_mid]
 rw [e] at hr
 unfold execOp
 simp only [ho, hx, hy, Option.map_some, Option.map_none, Sem.run_bind, Sem.run_pure, Result.andThen_ok, run_sliceAt_slice w t _ _ _ _ ht, hr]
def z6p (g : Nat) (lv rv : Value) (f : Nat → Value) : Act := { tmps := #[.pointer (some ⟨g, 0, none⟩), f 1, .slice none 0 0, lv, rv, f 5, f 6, f 7, f 8, f 9, f 10, f 11, f 12, f 13, f 14, f 15, f 16, f 17, f 18, f 19, f 20, f 21, f 22, f 23, f 24, f 25, f 26, f 27, f 28, f 29], defers := [] }
structure k8e (B : Nat) (w wr : World) (es done rest : List En) (lv rv : Value) (l : List (Tw × Value)) : Prop where
 eq : es = done ++ rest
 at_ : y5o (fun k => B ≤ k) wr lv l
 left : x0i wr rv rest
 of_ : y0l done (l.map Prod.fst)
 lt : ∀ x ∈ done, ∀ y ∈ rest, Lt2 x.2 y.2
 below : Below B w wr
 few : l.length ≤ done.length
theorem x0y {S : Nat → Prop} {w : World} {g : Nat} {s : St} (h : z0h S w g s) (hI : Inv s) : Calls Tryz.prog 33 #[.pointer (some ⟨g, 0, none⟩)] w fun e w' => ∃ v, e = .returned v ∧ (∃ l : List (Tw × Value), x5c s.l (l.map Prod.fst) ∧ y5o (fun k => w.heap.size ≤ k) w' v l) ∧ Below w.heap.size w w' := by
 go_enter Tryz.func33, Tryz.ntmps33
 refine wp_seq ?_
 refine Ks.reg ?_
 refine Ks.v (.slice none 0 0) ?_
 simp only [zD]
 refine Ks.done ?_
 refine wp_seq ?_
 refine wp_seq ?_
 refine Ks.reg ?_
 refine Ks.v (.pointer (some ⟨g, 0, none⟩)) ?_
 simp only [zD]
 refine Ks.v (.bool false) ?_
 simp only [zD]
 refine Ks.done ?_
 refine wp_cond_false rfl ?_
 refine wp_skip ?_
 refine Ks.norm ?_
 refine wp_seq ?_
 refine Ks.reg ?_
 refine Ks.v (.slice none 0 0) ?_
 simp only [zD]
 refine Ks.done ?_
 refine wp_seq ?_
 refine wp_seq ?_
 refine Ks.reg ?_
 refine Ks.v (.pointer (some ⟨g, 0, none⟩)) ?_
 simp only [zD]
 refine Ks.v (.pointer (some ⟨g, 0, none⟩)) ?_
 simp only [zD]
 refine Ks.v (.pointer (some ⟨g, 3, none⟩)) ?_
 simp only [zD]
 refine Ks.call rfl 80 #[.pointer (some ⟨g, 3, none⟩)] (by kernel_rfl) (x6i h hI) ?_
 rintro ev w1 ⟨⟨es, hperm, hsort, hrow⟩, hB1⟩
 have hesl : es.length ≤ 16000 := by
  rw [hperm.length_eq, List.length_map]
  exact Nat.le_trans (List.length_filter_le _ _) hI.few
 simp only [zD]
 refine Ks.v (ev) ?_
 simp only [zD]
 refine Ks.done ?_
 refine wp_block ?_
 refine Ks.loop (fun m a wr => ∃ (done rest : List En) (lv rv : Value) (l : List (Tw × Value)) (f : Nat → Value), m = rest.length ∧ k8e w.heap.size w wr es done rest lv rv l ∧ a = z6p g lv rv f) es.length ⟨[], es, _, ev, [], fun j => Array.getD #[undef, undef, undef, undef, undef, undef, .pointer (some ⟨g, 0, none⟩), .bool false, .pointer (some ⟨g, 0, none⟩), .pointer (some ⟨g, 0, none⟩), .pointer (some ⟨g, 3, none⟩), ev] j undef, rfl, ⟨rfl, y5o.nil _ _, x0i.k5t hrow, y0l.nil, fun x hx => (by cases hx), hB1, Nat.le_refl _⟩, rfl⟩ ?_
 clear hrow hB1
 rintro m a wr ⟨done, rest, lv, rv, l, f, rfl, hT, rfl⟩
 have fin : ∀ (a' : Act) (w' : World) (done' rest' : List En) (lv' rv' : Value) (l' : List (Tw × Value)), rest'.length < rest.length → k8e w.heap.size w w' es done' rest' lv' rv' l' → a' = z6p g lv' rv' (fun j => a'.tmps.getD j undef) → ∃ m, m < rest.length ∧ ∃ (done rest : List En) (lv rv : Value) (l : List (Tw × Value)) (f : Nat → Value), m = rest.length ∧ k8e w.heap.size w w' es done rest lv rv l ∧ a' = z6p g lv rv f := fun a' w' done' rest' lv' rv' l' q1 q2 q3 => ⟨_, q1, done', rest', lv', rv', l', _, rfl, q2, q3⟩
 obtain ⟨p, cap, rfl, hcap, hne⟩ := hT.left
 unfold z6p
 refine wp_seq ?_
 refine wp_seq ?_
 refine Ks.reg ?_
 refine Ks.v (.slice p rest.length cap) ?_
 simp only [zD]
 refine Ks.v (.int .i64 (rest.length : Int)) ?_
 simp only [zD]
 refine Ks.v (.bool (decide (0 < (rest.length : Int)))) ?_
 simp only [zD]
 refine Ks.done ?_
 refine wp_cond_split rfl ?_ ?_
 ·intro hlt
  have hlt : 0 < rest.length := by have := of_decide_eq_true hlt; omega
  obtain ⟨b, off, cur, rfl, hE, hcur⟩ := hne hlt
  have hrl : rest.length ≤ 16000 := by
   have := congrArg List.length hT.eq
   rw [List.length_append] at this
   omega
  obtain ⟨e0, he0⟩ : ∃ e0, rest[0]? = some e0 := ⟨_, List.getElem?_eq_getElem hlt⟩
  obtain ⟨run, tail, hsp, hn, hr0, hr1, hr2⟩ := x8v he0 (by
   have := hsort
   rw [hT.eq] at this
   exact (List.pairwise_append.1 this).2.1)
  have hrun : 0 < run.length := (lL hr0)
  have hlen : rest.length = run.length + tail.length := by rw [hsp, List.length_append]
  have hTR := hT.of_.run hr1 fun x hx => hT.lt x hx e0 (List.mem_of_getElem? he0)
  refine wp_skip ?_
  refine Ks.norm ?_
  refine wp_block ?_
  refine wp_seq ?_
  refine Ks.reg ?_
  refine Ks.v (.slice (some ⟨b, off, none⟩) rest.length cap) ?_
  simp only [zD]
  refine Ks.call rfl 81 #[.slice (some ⟨b, off, none⟩) rest.length cap] (by kernel_rfl) (R := fun v w' => v = .int .i64 (runN rest : Int) ∧ Below wr.heap.size wr w') (Calls.mono (y9n wr b off cap rest hE hlt (by omega)) fun e w' h => ⟨_, h.1, rfl, h.2⟩) ?_
  rintro _ w2 ⟨rfl, hb2⟩
  rw [hn]
  simp only [zD]
  refine Ks.v (.int .i64 (run.length : Int)) ?_
  simp only [zD]
  refine Ks.done ?_
  have hE2 := hE.below hb2
  have hcur2 : w2.heap[b]? = some (.cells cur 245 (0, 0)) := (hb2.block b hE.lt).trans hcur
  have hB2 : Below w.heap.size w w2 := hT.below.trans (hb2.mono hT.below.size)
  have hA2 := hT.at_.below hb2
  refine Ks.cut (fun a' w' => ∃ (lv' : Value) (l' : List (Tw × Value)) (f : Nat → Value), y5o (fun k => w.heap.size ≤ k) w' lv' l' ∧ y0l (done ++ run) (l'.map Prod.fst) ∧ y3d w' b off rest ∧ w'.heap[b]? = some (.cells cur 245 (0, 0)) ∧ Below w.heap.size w w' ∧ l'.length ≤ done.length + run.length ∧ f 5 = .int .i64 (run.length : Int) ∧ a' = z6p g lv' (.slice (some ⟨b, off, none⟩) rest.length cap) f) ?_ ?_
  ·have finM : ∀ (a' : Act) (w' : World) (lv' : Value) (l' : List (Tw × Value)), y5o (fun k => w.heap.size ≤ k) w' lv' l' → y0l (done ++ run) (l'.map Prod.fst) → y3d w' b off rest → w'.heap[b]? = some (.cells cur 245 (0, 0)) → Below w.heap.size w w' → l'.length ≤ done.length + run.length → a'.tmps.getD 5 undef = .int .i64 (run.length : Int) → a' = z6p g lv' (.slice (some ⟨b, off, none⟩) rest.length cap) (fun j => a'.tmps.getD j undef) → ∃ (lv' : Value) (l' : List (Tw × Value)) (f : Nat → Value), y5o (fun k => w.heap.size ≤ k) w' lv' l' ∧ y0l (done ++ run) (l'.map Prod.fst) ∧ y3d w' b off rest ∧ w'.heap[b]? = some (.cells cur 245 (0, 0)) ∧ Below w.heap.size w w' ∧ l'.length ≤ done.length + run.length ∧ f 5 = .int .i64 (run.length : Int) ∧ a' = z6p g lv' (.slice (some ⟨b, off, none⟩) rest.length cap) f := fun a' w' lv' l' q1 q2 q3 q4 q5 q6 q7 q8 => ⟨lv', l', _, q1, q2, q3, q4, q5, q6, q7, q8⟩
   refine wp_seq ?_
   refine Ks.reg ?_
   refine Ks.v (.int .i64 (run.length : Int)) ?_
   simp only [zD]
   refine Ks.v (.bool (decide (1 < (run.length : Int)))) ?_
   simp only [zD]
   refine Ks.done ?_
   refine wp_cond_split rfl ?_ ?_
   ·intro h1
    have h1 : 1 < run.length := by have := of_decide_eq_true h1; omega
    rw [if_pos h1] at hTR
    refine Ks.reg ?_
    refine Ks.v (lv) ?_
    simp only [zD]
    refine Ks.v (.slice (some ⟨b, off, none⟩) rest.length cap) ?_
    simp only [zD]
    refine Ks.v (.int .i64 (run.length : Int)) ?_
    simp only [zD]
    refine Ks.val rfl (.slice (some ⟨b, off, none⟩) run.length cap) (x6j _ _ _ rfl Tryz.underlying155 (sz := 4) (by kernel_rfl) (by kernel_rfl) b off rest.length cap run.length rfl rfl (by omega)) ?_
    simp only [zD]
    have hEr : y3d w2 b off run := by
     have := hE2
     rw [hsp] at this
     exact this.split.1
    refine Ks.call rfl 82 #[.slice (some ⟨b, off, none⟩) run.length cap] (by kernel_rfl) (k1z w2 b off cap run hEr e0 hr0 (by omega)) ?_
    rintro _ w3 ⟨⟨m, rfl, hm⟩, hb3⟩
    have hA3 := hA2.below hb3
    have hm3 : Row (fun k => w.heap.size ≤ k) w3 3 1 m run.length ((run.map fun x => x.1.1).map inC) := hm.mono fun k hk => Nat.le_trans hB2.size hk
    have hE3 := hE2.below hb3
    have hcur3 : w3.heap[b]? = some (.cells cur 245 (0, 0)) := (hb3.block b hE2.lt).trans hcur2
    have hB3 : Below w.heap.size w w3 := hB2.trans (hb3.mono hB2.size)
    have hlb : lv.ownBlock ≠ some b := z2e hA3.row hcur3 (by decide)
    simp only [zD]
    have hll : l.length ≤ 16000 := by
     have := congrArg List.length hT.eq
     rw [List.length_append] at this
     have := hT.few
     omega
    refine Ks.push rfl rfl 83 86 _ _ _ rfl rfl (.agg #[.int .i64 e0.2.1, .int .i64 e0.2.2, m]) (.agg #[.int .i64 0, .int .i64 0, .slice none 0 0]) rfl #[.int .i64 e0.2.1, .int .i64 e0.2.2, m] 3 40 Tryz.underlying83 k6z (by decide) (by decide) (by kernel_rfl) rfl (by decide) _ lv l.length (twC l) (fun _ => rfl) (fun _ => rfl) hA3.row rfl (by have := Row.one hm; simp [Value.oneCell'] at this ⊢; exact this) (by omega) ?_
    intro u lv' w4 hr4 hf4
    have hA4 := hA3.push (t := ⟨e0.2.1, e0.2.2, run.map fun x => x.1.1⟩) (m := m) (by rw [List.length_map]; exact hm3) hr4 hf4
    have hA4' := hA4.mono (T := fun k => w.heap.size ≤ k) fun k hk => hk.elim id fun h => Nat.le_trans hB3.size h
    have hcur4 : w4.heap[b]? = some (.cells cur 245 (0, 0)) := (hf4.block b hE3.lt hlb).trans hcur3
    have hE4 : y3d w4 b off rest := ⟨(aL hcur4), fun j v hv => by
     have := hE3.rng j v hv
     rw [cell_of_row _ _ _ _ _ _ hcur3] at this
     rw [cell_of_row _ _ _ _ _ _ hcur4]
     exact this⟩
    have hB4 : Below w.heap.size w w4 := hB3.trans (hf4.below hB3.size fun k hk e => by have := hA3.row.2 k e; omega)
    simp only [zD]
    refine Ks.v (lv') ?_
    simp only [zD]
    refine Ks.fin ?_
    refine finM _ w4 lv' _ hA4' ?_ hE4 hcur4 hB4 (by have := hT.few; rw [List.length_append, List.length_singleton]; omega) rfl rfl
    rw [List.map_append]
    exact hTR
   ·intro h1
    have h1 : ¬ 1 < run.length := by have := of_decide_eq_false h1; omega
    rw [if_neg h1] at hTR
    refine wp_skip ?_
    exact finM _ w2 lv l hA2 hTR hE2 hcur2 hB2 (Nat.le_trans hT.few (Nat.le_add_right _ _)) rfl rfl
  ·rintro a' w5 ⟨lv', l', f', hA5, hO5, hE5, hcur5, hB5, hfew5, e5, rfl⟩
   unfold z6p
   rw [e5]
   refine Ks.reg ?_
   refine Ks.v (.slice (some ⟨b, off, none⟩) rest.length cap) ?_
   simp only [zD]
   refine Ks.v (.int .i64 (run.length : Int)) ?_
   simp only [zD]
   refine Ks.val rfl (.slice (some ⟨b, if cap = run.length then off else off + run.length * 4, none⟩) (rest.length - run.length) (cap - run.length)) (x6k _ _ _ rfl Tryz.underlying155 (sz := 4) (by kernel_rfl) (by kernel_rfl) b off rest.length cap run.length rfl rfl (by omega)) ?_
   simp only [zD]
   refine Ks.v (.slice (some ⟨b, if cap = run.length then off else off + run.length * 4, none⟩) (rest.length - run.length) (cap - run.length)) ?_
   simp only [zD]
   refine Ks.fin ?_
   refine Ks.inb ?_
   refine fin _ w5 (done ++ run) tail lv' _ l' (by omega) ⟨?_, hA5, ?_, hO5, ?_, hB5, by rw [List.length_append]; exact hfew5⟩ rfl
   ·rw [hT.eq, hsp, List.append_assoc]
   ·refine ⟨_, _, by rw [show rest.length - run.length = tail.length by omega], by omega, fun h0 => ⟨b, off + run.length * 4, cur, ?_, ?_, hcur5⟩⟩
    ·rw [if_neg (by omega)]
    ·have := hE5
     rw [hsp] at this
     exact this.split.2
   ·intro x hx y hy
    rcases List.mem_append.1 hx with hx | hx
    ·exact hT.lt x hx y (by rw [hsp]; exact List.mem_append_right _ hy)
    ·rw [hr1 x hx]
     exact hr2 y hy
 ·intro hlt
  obtain rfl : rest = [] := List.length_eq_zero_iff.1 (by have := of_decide_eq_false hlt; omega)
  refine wp_exit ?_
  refine Ks.z3r ?_
  refine wp_seq ?_
  refine Ks.reg ?_
  refine Ks.v (lv) ?_
  simp only [zD]
  refine Ks.v (lv) ?_
  simp only [zD]
  refine Ks.done ?_
  refine wp_ret ?_
  repeat (refine Ks.ret ?_)
  refine bodyPost_ret (v := lv) (by simp [results, Tryz.results33]) rfl ?_
  have hd : es = done := by rw [hT.eq, List.append_nil]
  exact ⟨lv, rfl, ⟨l, q2n hI.rises hperm hsort (by rw [hd]; exact hT.of_), hT.at_⟩, hT.below⟩
end Gt
end Go.Proofs.YtbojijefenfbgaaGreatDoor

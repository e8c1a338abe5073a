/- Walk of the document's book of signatures that were asked. Walks of the document's gate: New, Look. -/
import Derived.Test.YtbojijefenfbgaaGreatDoorGgShort
import Derived.Test.YtbojijefenfbgaaGreatDoorGgRefB
import Derived.Test.YtbojijefenfbgaaGreatDoorGgApp
namespace Go.Proofs.YtbojijefenfbgaaGreatDoor
open Go Go.RowKit
namespace Gt
open Mp Bk Tk
def ckC (k t g : List UInt8) : List Value := [str k, str t, str g]
theorem ckInfo : (Tryz.prog.info? 34).map (fun i => (i.zero, i.size, i.bytes)) = some (some (.agg #[.string ⟨#[]⟩, .string ⟨#[]⟩, .string ⟨#[]⟩]), 3, 48) := by kernel_rfl
theorem blInfo : (Tryz.prog.info? 4).map (fun i => (i.zero, i.size, i.bytes)) = some (some (.bool false), 1, 1) := by kernel_rfl
theorem map_three {l : List Field} {a b c : String × TypeId × Nat} (h : l.map (fun f => (f.name, f.type, f.offset)) = [a, b, c]) : ∃ f g k : Field, l = [f, g, k] ∧ (f.name, f.type, f.offset) = a ∧ (g.name, g.type, g.offset) = b ∧ (k.name, k.type, k.offset) = c := by
 match l, h with
 | [], h => simp at h
 | [f], h => simp at h
 | [f, g], h => simp at h
 | [f, g, k], h =>
  simp only [List.map_cons, List.map_nil, List.cons.injEq, and_true] at h
  exact ⟨f, g, k, rfl, h.1, h.2.1, h.2.2⟩
 | f :: g :: k :: m :: r, h => simp at h
set_option maxRecDepth 100000 in
theorem eq_check (a b c a' b' c' : List UInt8) (w : World) : (Op.equalIn 10000 34 (.agg (ckC a b c).toArray) (.agg (ckC a' b' c').toArray)).run Tryz.prog w = .ok (decide (a = a' ∧ b = b' ∧ c = c')) w := by
 have hs := run_equalIn_struct (P := Tryz.prog) w 9999 34 (ckC a b c).toArray (ckC a' b' c').toArray (by kernel_rfl) (by kernel_rfl)
 have hf : (Tryz.prog.fieldsOf 34).toList.map (fun f => (f.name, f.type, f.offset)) = [("Key", 9, 0), ("Text", 9, 1), ("Signature", 9, 2)] := by kernel_rfl
 obtain ⟨f, g, k, hl, h1, h2, h3⟩ := map_three hf
 injection h1 with f1 h1
 injection h1 with f2 f3
 injection h2 with g1 h2
 injection h2 with g2 g3
 injection h3 with k1 h3
 injection h3 with k2 k3
 have p0 := fun x y z : List UInt8 => run_part_plain (P := Tryz.prog) w (e := 9) (xs := (ckC x y z).toArray) (off := 0) (v := str x) (by kernel_rfl) rfl
 have p1 := fun x y z : List UInt8 => run_part_plain (P := Tryz.prog) w (e := 9) (xs := (ckC x y z).toArray) (off := 1) (v := str y) (by kernel_rfl) rfl
 have p2 := fun x y z : List UInt8 => run_part_plain (P := Tryz.prog) w (e := 9) (xs := (ckC x y z).toArray) (off := 2) (v := str z) (by kernel_rfl) rfl
 have e3 : ∀ x y : List UInt8, (Op.equalIn 9999 9 (str x) (str y)).run Tryz.prog w = .ok (decide (x = y)) w := fun x y => by
  unfold str
  simp [go_sem]
  rw [Bool.eq_iff_iff]
  simp
 show (Op.equalIn (9999 + 1) _ _ _).run _ w = _
 rw [hs, hl]
 simp only [Op.eqFields, f1, g1, k1, f2, g2, k2, f3, g3, k3, ne_eq]
 by_cases h1 : a = a'
 ·by_cases h2 : b = b'
  ·by_cases h3 : c = c'
   ·simp [h1, h2, h3, p0, p1, p2, e3]
   ·simp [h1, h2, h3, p0, p1, p2, e3]
  ·simp [h1, h2, p0, p1, e3]
 ·simp [h1, p0, e3]
def kFrame (kn bc : Nat) (k t g : List UInt8) (i : Nat) (f : Nat → Value) : Act := { tmps := #[.pointer (some ⟨kn, 0, none⟩), str k, str t, str g, f 4, f 5, f 6, f 7, .bool false, .pointer (some ⟨bc, 0, none⟩), .int .i64 (i : Int), f 11, f 12, f 13, f 14, f 15, f 16, f 17, f 18, f 19, f 20, f 21, f 22, f 23, f 24, f 25, f 26, f 27, f 28, f 29, f 30, f 31, f 32, f 33, f 34, f 35, f 36, f 37, f 38, f 39, f 40, f 41, f 42, f 43, f 44, f 45, f 46, f 47, f 48, f 49, f 50, f 51, f 52, f 53, f 54, f 55, f 56, f 57, f 58, f 59, f 60, f 61, f 62, f 63, f 64, f 65], defers := [] }
theorem asC_len (x : Asked) : (asC x).length = 3 := rfl
theorem row_block {S : Nat → Prop} {w : World} {e : TypeId} {sz : Nat} {v : Value} {n : Nat} {xs : List Value} (h : Row S w e sz v n xs) {b : Nat} (hb : v.ownBlock = some b) : ∃ cur, w.heap[b]? = some (.cells cur e (0, 0)) := by
 rcases h.cases with ⟨rfl, _⟩ | ⟨g, _, cur, rfl, _, hg, _⟩
 ·cases hb
 ·injection hb with hb
  subst hb
  exact ⟨cur, hg⟩
theorem row_apart {S T : Nat → Prop} {w : World} {e e' : TypeId} {sz sz' : Nat} {v v' : Value} {n n' : Nat} {xs xs' : List Value} (h : Row S w e sz v n xs) (h' : Row T w e' sz' v' n' xs') (hne : e ≠ e') {b : Nat} (hb : v.ownBlock = some b) : v'.ownBlock ≠ some b := fun hb' => by
 obtain ⟨c1, h1⟩ := row_block h hb
 obtain ⟨c2, h2⟩ := row_block h' hb'
 rw [h1] at h2
 injection h2 with h2
 injection h2 with _ h2
 exact hne h2
theorem row_not {S : Nat → Prop} {w : World} {e : TypeId} {sz : Nat} {v : Value} {n : Nat} {xs : List Value} (h : Row S w e sz v n xs) {g : Nat} {cs : Array Value} {t : TypeId} {fr : Nat × Nat} (hg : w.heap[g]? = some (.cells cs t fr)) (hne : e ≠ t) : v.ownBlock ≠ some g := fun hb => by
 obtain ⟨c1, h1⟩ := row_block h hb
 rw [h1] at hg
 injection hg with hg
 injection hg with _ hg
 exact hne hg
theorem asL_snoc (l : List Asked) (x : Asked) : asL (l ++ [x]) = asL l ++ asC x := by simp [asL]
theorem yesL_snoc (l : List Asked) (x : Asked) : yesL (l ++ [x]) = yesL l ++ [.bool x.yes] := by simp [yesL]
theorem one_check {w : World} {o : Oper} {a : Act} {B : Nat} (x : Operand) (ho : o.op = .buildSlice 22 1 #[(0, x)]) (k t g : List UInt8) (hx : a.eval x = .agg (ckC k t g).toArray) (hB : B ≤ w.heap.size) : Qt.UponR Tryz.prog w (Ap.OneAt B 34 (ckC k t g)) ((execOp a.eval o).run Tryz.prog w) :=
 Gw.rel_slice 22 34 1 _ ho (ckC k t g).toArray (.agg #[.string ⟨#[]⟩, .string ⟨#[]⟩, .string ⟨#[]⟩]) 3 48 Tryz.underlying22 ckInfo (by decide) (by decide) [(0, .agg (ckC k t g).toArray)] (by simp [hx]) (by kernel_rfl) ⟨w.heap.size, rfl, hB, heap_alloc_new _ _⟩
theorem app_upon {P : Program} {o : Oper} {a : Act} {w : World} (s x : Operand) (t : TypeId) (ho : o.op = .call { callee := .builtin .append, args := #[s, x], argTypes := #[t, t] })
  (e : TypeId) (z : Value) (size bytes : Nat) (ht : P.underlying t = some (.slice e)) (h2 : (P.info? e).map (fun i => (i.zero, i.size, i.bytes)) = some (some z, size, bytes)) (hzs : z.cells.size = size) (hsz : 0 < size) (hby : bytes ≤ 4096)
  (S : Nat → Prop) (v : Value) (n : Nat) (xs : List Value) (hs : a.eval s = v) (hown : Row S w e size v n xs)
  (b cp : Nat) (cs : List Value) (hx : a.eval x = .slice (some ⟨b, 0, none⟩) 1 cp) (hu : ∀ j c, cs[j]? = some c → w.cell? ⟨b, j, none⟩ = some c) (hl : cs.length = 1 * size) (h1 : ∀ c ∈ cs, c.oneCell' = true) (hn : n + 1 ≤ 30000000000) (B : Nat) (hB : B ≤ w.heap.size) :
  Qt.UponT P (fun w w' => Fr S w.heap.size w w') w (fun v' w' => Row (fun k => S k ∨ B ≤ k) w' e size v' (n + 1) (xs ++ cs)) ((execOp a.eval o).run P w) := by
 obtain ⟨i, hi, hz0, hz1, hz2⟩ := info_parts h2
 obtain ⟨v', w', hr, h3, h4, h5, h6⟩ := run_append_own_at (P := P) w 0 t o.type e i z size bytes ht hi hz0 hz1 hz2 hzs hsz v n xs hown.1 ⟨b, 0, none⟩ 1 cp cs hl (fun j u hj => by
  rw [Addr.add_mid, Nat.zero_add]
  exact hu j u hj) h1 (by unfold maxLen; omega) (by
  have : (n + 1) * bytes ≤ 30000000000 * 4096 := Nat.mul_le_mul (by omega) hby
  omega) (Nat.zero_le _)
 unfold execOp
 simp only [ho, resolve, invoke, builtin, Sem.run_bind, Sem.run_pure, Result.andThen_ok, List.map_toArray, List.map_cons, List.map_nil, hs, hx, hr]
 refine ⟨⟨h3, fun k hk => ?_⟩, (Fr.refl S _ w).grown h4 (Nat.le_refl _) fun k hk => Or.inl (hown.2 k hk)⟩
 rcases h6 with h6 | h6
 ·exact Or.inl (hown.2 k (by rw [← h6]; exact hk))
 ·rw [h6] at hk
  injection hk with hk
  exact Or.inr (by omega)
def RK (S : Nat → Prop) (B kn : Nat) (lv : Value) (n : Nat) (xs cs : List Value) : Nat → Value → World → Prop
 | 4, v, _ => v = lv
 | 5, v, _ => v = .agg cs.toArray
 | 6, v, w => ∃ b, v = .slice (some ⟨b, 0, none⟩) 1 1 ∧ B ≤ b ∧ w.heap[b]? = some (.cells cs.toArray 34 (0, 0))
 | 7, v, w => Row (fun k => S k ∨ B ≤ k) w 34 3 v (n + 1) (xs ++ cs)
 | _, v, _ => v = .pointer (some ⟨kn, 0, none⟩)
theorem u_val {P : Program} {T : World → World → Prop} {w : World} {R : Value → World → Prop} {r : Result Next} (v : Value) (h : r = .ok (.value v) w) (hR : R v w) (hT : T w w) : Qt.UponT P T w R r := by
 rw [h]
 exact ⟨hR, hT⟩
theorem run_load_at {P : Program} {o : Oper} {a : Act} {w : World} {ty : TypeId} {x : Operand} {p : Addr} {v : Value} (h : (o.op, a.eval x) = (.load ty x, .pointer (some p))) (h1 : (loadVar ty p).run P w = .ok v w) : (execOp a.eval o).run P w = .ok (.value v) w := by
 injection h with ho hx
 unfold execOp
 simp only [ho, hx, Instr.loadAt, Instr.sureAddr, Sem.run_bind, Sem.run_pure, Result.andThen_ok, h1]
def TK (S : Nat → Prop) : Nat → World → World → Prop
 | 6, w, w' => Below w.heap.size w w'
 | 7, w, w' => Fr S w.heap.size w w'
 | _, w, w' => w' = w
set_option maxRecDepth 10000 in
set_option maxHeartbeats 1000000 in
theorem known_r {S : Nat → Prop} {w : World} {kn : Nat} {ks : List Asked} (h : KAt Gw.rightE S w kn ks) (k t g : List UInt8) (htl : t.length ≤ 900000000) (hn : ks.length ≤ 20000000000) : Calls Tryz.prog 203 #[.pointer (some ⟨kn, 0, none⟩), str k, str t, str g] w fun e w' => ∃ v, e = .returned v ∧ v = .bool (Gw.rightE k t g) ∧ (∃ ks', ks'.length ≤ ks.length + 1 ∧ KAt Gw.rightE (fun j => S j ∨ w.heap.size ≤ j) w' kn ks') ∧ Fr S w.heap.size w w' := by
 obtain ⟨hS, hall, lv, yv, hkn, hL, hY⟩ := h
 have HK0 : Hid (w.heap[kn]? = some (.cells #[lv, yv] 120 (0, 0))) := hkn
 have HL0 : Hid (Row S w 34 3 lv ks.length (asL ks)) := hL
 have HY0 : Hid (Row S w 4 1 yv ks.length (yesL ks)) := hY
 have hkl := (Array.getElem?_eq_some_iff.1 hkn).1
 have Hri : Hid (∀ w, Calls Tryz.prog 10 #[str k, str t, str g] w fun e w' => e = .returned (.bool (Gw.rightE k t g)) ∧ Below w.heap.size w w') := Dc.right_d k t g htl
 obtain ⟨R, hR⟩ : ∃ R, R = Gw.rightE k t g := ⟨_, rfl⟩
 rw [← hR] at Hri ⊢
 clear hkn hL hY
 go_enter Tryz.func203, Tryz.ntmps203
 refine wp_seq ?_
 refine Ks.reg ?_
 refine Ks.v (.bool false) ?_
 simp only [Act.put, zA, zB, zC]
 refine Ks.done ?_
 refine wp_seq ?_
 refine Ks.reg ?_
 refine Ks.v (str k) ?_
 simp only [Act.put, zA, zB, zC]
 refine Ks.v (str t) ?_
 simp only [Act.put, zA, zB, zC]
 refine Ks.v (str g) ?_
 simp only [Act.put, zA, zB, zC]
 refine Ks.v (.agg (ckC k t g).toArray) ?_
 simp only [Act.put, zA, zB, zC]
 refine Ks.decl rfl _ rfl (.agg #[.string ⟨#[]⟩, .string ⟨#[]⟩, .string ⟨#[]⟩]) (by kernel_rfl) rfl _ _ rfl (ckC k t g).toArray (fun _ => rfl) (fun _ => rfl) (by kernel_rfl) rfl (by simp [ckC, str, Value.oneCell']) ?_
 intro w1 bc Hbc HC1 HB1
 have hbc : w.heap.size ≤ bc := Hbc.out
 clear Hbc
 simp only [Act.put, zA, zB, zC]
 refine Ks.done ?_
 refine wp_seq ?_
 refine wp_seq ?_
 refine Ks.reg ?_
 refine Ks.v (.int .i64 0) ?_
 simp only [Act.put, zA, zB, zC]
 refine Ks.done ?_
 refine wp_block ?_
 have start : ∀ a0 : Act, a0 = kFrame kn bc k t g 0 (fun j => a0.tmps.getD j undef) → ∃ (i : Nat) (f : Nat → Value), a0 = kFrame kn bc k t g i f ∧ i ≤ ks.length ∧ ks.length = ks.length - i ∧ Below w.heap.size w w1 ∧ w1.heap[bc]? = some (.cells (ckC k t g).toArray 34 (0, 0)) := fun a0 h => ⟨0, _, h, Nat.zero_le _, rfl, HB1.out, HC1.out⟩
 refine Ks.loop (fun m a wr => ∃ (i : Nat) (f : Nat → Value), a = kFrame kn bc k t g i f ∧ i ≤ ks.length ∧ m = ks.length - i ∧ Below w.heap.size w wr ∧ wr.heap[bc]? = some (.cells (ckC k t g).toArray 34 (0, 0))) ks.length (start _ rfl) ?_
 clear start HC1 HB1 w1
 rintro m a wr ⟨i, f, rfl, hi, rfl, hB, hc⟩
 have fin : ∀ (a' : Act) (w' : World) i', a' = kFrame kn bc k t g i' (fun j => a'.tmps.getD j undef) → i < i' → i' ≤ ks.length → Below w.heap.size w w' → w'.heap[bc]? = some (.cells (ckC k t g).toArray 34 (0, 0)) → ∃ m, m < ks.length - i ∧ ∃ (i : Nat) (f : Nat → Value), a' = kFrame kn bc k t g i f ∧ i ≤ ks.length ∧ m = ks.length - i ∧ Below w.heap.size w w' ∧ w'.heap[bc]? = some (.cells (ckC k t g).toArray 34 (0, 0)) :=
  fun a' w' i' h1 h2 h3 h4 h5 => ⟨ks.length - i', by omega, i', _, h1, h3, rfl, h4, h5⟩
 have Hfin : Hid _ := fin
 clear fin
 have HBel : Hid (Below w.heap.size w wr) := hB
 have HC : Hid (wr.heap[bc]? = _) := hc
 have HK : Hid (wr.heap[kn]? = some (.cells #[lv, yv] 120 (0, 0))) := (hB.block kn hkl).trans HK0.out
 clear hB hc
 unfold kFrame
 refine wp_seq ?_
 refine wp_seq ?_
 refine Ks.reg ?_
 refine Ks.v (.int .i64 (i : Int)) ?_
 simp only [Act.put, zA, zB, zC]
 refine Ks.v (.pointer (some ⟨kn, 0, none⟩)) ?_
 simp only [Act.put, zA, zB, zC]
 refine Ks.v (.pointer (some ⟨kn, 0, none⟩)) ?_
 simp only [Act.put, zA, zB, zC]
 refine Ks.v (.pointer (some ⟨kn, 0, none⟩)) ?_
 simp only [Act.put, zA, zB, zC]
 refine Ks.cell rfl _ _ rfl Tryz.underlying22 rfl kn 0 lv rfl (row_at HK.out 0 rfl) ?_
 simp only [Act.put, zA, zB, zC]
 refine Ks.val rfl (.int .i64 (ks.length : Int)) (by
  rcases HL0.out.cases with ⟨rfl, h0, _⟩ | ⟨gb, cap, cur, rfl, _⟩
  ·rw [h0]
   kernel_rfl
  ·kernel_rfl) ?_
 simp only [Act.put, zA, zB, zC]
 refine Ks.v (.bool (decide ((i : Int) < ks.length))) ?_
 simp only [Act.put, zA, zB, zC]
 refine Ks.done ?_
 refine wp_cond_split rfl ?_ ?_
 ·intro hlt
  have hlt : i < ks.length := by have := of_decide_eq_true hlt; omega
  obtain ⟨y, hy⟩ : ∃ y, ks[i]? = some y := ⟨_, List.getElem?_eq_getElem hlt⟩
  obtain ⟨gb, cap, cur, rfl, hgb, hcur, _, _, _, htk⟩ : ∃ gb cap cur, lv = .slice (some ⟨gb, 0, none⟩) ks.length cap ∧ S gb ∧ w.heap[gb]? = some (.cells cur 34 (0, 0)) ∧ ks.length ≤ cap ∧ cap ≤ maxLen ∧ cur.size = cap * 3 ∧ cur.toList.take (ks.length * 3) = asL ks := by
   rcases HL0.out.cases with ⟨_, h0, _⟩ | h
   ·omega
   ·exact h
  have HRg0 : Hid (w.rangeAt gb (i * 3) (asC y)) := Row.range asC_len hcur htk hy
  have hgbl := (Array.getElem?_eq_some_iff.1 hcur).1
  clear hcur htk
  refine wp_skip ?_
  refine Ks.norm ?_
  refine wp_seq ?_
  refine wp_block ?_
  refine wp_seq ?_
  refine Qt.wp_all (by kernel_rfl) (by kernel_rfl) ?_
  refine Qt.y_val rfl (.pointer (some ⟨kn, 0, none⟩)) (fun _ _ => by kernel_rfl) ?_
  refine Qt.y_val rfl (.pointer (some ⟨kn, 0, none⟩)) (fun _ _ => by kernel_rfl) ?_
  refine Qt.y_val rfl (.pointer (some ⟨kn, 0, none⟩)) (fun _ _ => by kernel_rfl) ?_
  simp only [Act.put, zA, zB, zC]
  refine y_cell rfl _ _ rfl Tryz.underlying22 rfl kn 0 _ rfl (Array.getElem?_eq_some_iff.1 HK.out).1 (row_at HK.out 0 rfl) ?_
  simp only [Act.put, zA, zB, zC]
  refine Qt.y_val rfl (.int .i64 (i : Int)) (fun _ _ => by kernel_rfl) ?_
  simp only [Act.put, zA, zB, zC]
  refine Ks.y_idx rfl _ _ _ rfl 34 3 Tryz.underlying22 (by kernel_rfl) (by kernel_rfl) gb _ cap i rfl rfl hlt ?_
  simp only [Act.put, zA, zB, zC]
  refine Qt.y_mid rfl _ _ rfl gb (i * 3) rfl (asC y) _ (Nat.lt_of_lt_of_le hgbl HBel.out.size) (range_below HRg0.out HBel.out hgbl) Tryz.underlying34 rfl (by kernel_rfl) ?_
  simp only [Act.put, zA, zB, zC]
  refine Qt.y_row rfl _ _ rfl _ rfl _ _ _ _ HC.out Tryz.underlying34 rfl (by kernel_rfl) ?_
  simp only [Act.put, zA, zB, zC]
  refine Qt.y_val rfl (.bool (decide (y.key = k ∧ y.text = t ∧ y.sign = g))) (fun w' _ => Ks.exec_eq _ _ _ _ rfl (asC y).toArray (ckC k t g).toArray rfl rfl (by kernel_rfl) _ (eq_check y.key y.text y.sign k t g w')) ?_
  simp only [Act.put, zA, zB, zC]
  refine Qt.y_nil ?_
  intro w2 hb2
  refine Ks.norm ?_
  have HC : Hid (w2.heap[bc]? = _) := (hb2.block bc (Array.getElem?_eq_some_iff.1 HC.out).1).trans HC.out
  have HBel : Hid (Below w.heap.size w w2) := HBel.out.trans (hb2.mono HBel.out.size)
  have HK : Hid (w2.heap[kn]? = some (.cells #[.slice (some ⟨gb, 0, none⟩) ks.length cap, yv] 120 (0, 0))) := (HBel.out.block kn hkl).trans HK0.out
  clear hb2
  refine wp_cond_split rfl ?_ ?_
  ·intro hc
   have hc := of_decide_eq_true hc
   obtain ⟨gy, capy, cury, rfl, hgy, hcury, _, _, _, htky⟩ : ∃ gb cap cur, yv = .slice (some ⟨gb, 0, none⟩) ks.length cap ∧ S gb ∧ w.heap[gb]? = some (.cells cur 4 (0, 0)) ∧ ks.length ≤ cap ∧ cap ≤ maxLen ∧ cur.size = cap * 1 ∧ cur.toList.take (ks.length * 1) = yesL ks := by
    rcases HY0.out.cases with ⟨_, h0, _⟩ | h
    ·omega
    ·exact h
   have hye : y.yes = R := by
    rw [hR, hall y (List.mem_of_getElem? hy), hc.1, hc.2.1, hc.2.2]
   have HYc : Hid (w2.cell? ⟨gy, i * 1, none⟩ = some (.bool R)) := by
    have h1 : w.cell? ⟨gy, i * 1, none⟩ = some (.bool y.yes) := by
     refine Row.cell hcury htky ?_
     rw [Nat.mul_one]
     unfold yesL
     rw [List.getElem?_map, hy]
     rfl
    show _ = _
    rw [HBel.out.cell (by exact (Array.getElem?_eq_some_iff.1 hcury).1), h1, hye]
   refine wp_seq ?_
   refine Ks.reg ?_
   refine Ks.v (.pointer (some ⟨kn, 0, none⟩)) ?_
   simp only [Act.put, zA, zB, zC]
   refine Ks.v (.pointer (some ⟨kn, 0, none⟩)) ?_
   simp only [Act.put, zA, zB, zC]
   refine Ks.v (.pointer (some ⟨kn, 1, none⟩)) ?_
   simp only [Act.put, zA, zB, zC]
   refine Ks.cell rfl _ _ rfl Tryz.underlying27 rfl kn 1 _ rfl (row_at HK.out 1 rfl) ?_
   simp only [Act.put, zA, zB, zC]
   refine Ks.v (.int .i64 (i : Int)) ?_
   simp only [Act.put, zA, zB, zC]
   refine Ks.idx (by kernel_rfl) _ _ _ rfl 4 1 Tryz.underlying27 (by kernel_rfl) (by kernel_rfl) gy _ capy i rfl rfl hlt ?_
   simp only [Act.put, zA, zB, zC]
   refine Ks.cell rfl _ _ rfl Tryz.underlying4 rfl gy (i * 1) (.bool R) rfl HYc.out ?_
   simp only [Act.put, zA, zB, zC]
   refine Ks.v (.bool R) ?_
   simp only [Act.put, zA, zB, zC]
   refine Ks.done ?_
   refine wp_ret ?_
   repeat (first | refine Ks.ret ?_ | refine Ks.retb ?_)
   refine bodyPost_ret (v := .bool R) (by simp [results, Tryz.results203]) rfl ?_
   refine ⟨_, rfl, rfl, ⟨ks, Nat.le_succ _, KAt.congr (S := S) (w := w) ⟨hS, hall, _, _, HK0.out, HL0.out, HY0.out⟩ (fun j hj => Or.inl hj) fun j _ hj => HBel.out.block j hj⟩, Fr.of_below HBel.out (Nat.le_refl _)⟩
  ·intro hc
   refine wp_skip ?_
   refine Ks.inb ?_
   refine Ks.reg ?_
   refine Ks.v (.int .i64 (i : Int)) ?_
   simp only [Act.put, zA, zB, zC]
   refine Ks.val rfl (.int .i64 ((i + 1 : Nat) : Int)) (by
    simp [execOp, go_sem]
    rw [IntWalk.i64_in _ ⟨by omega, by omega⟩]) ?_
   simp only [Act.put, zA, zB, zC]
   refine Ks.v (.int .i64 ((i + 1 : Nat) : Int)) ?_
   simp only [Act.put, zA, zB, zC]
   refine Ks.done ?_
   exact Hfin.out _ _ (i + 1) rfl (by omega) hlt HBel.out HC.out
 ·intro hlt
  refine wp_exit ?_
  refine Ks.exit2 ?_
  refine Ks.norm ?_
  refine wp_seq ?_
  refine Ks.reg ?_
  refine Ks.v (str k) ?_
  simp only [Act.put, zA, zB, zC]
  refine Ks.v (str t) ?_
  simp only [Act.put, zA, zB, zC]
  refine Ks.v (str g) ?_
  simp only [Act.put, zA, zB, zC]
  refine Ks.pure (by kernel_rfl) 10 #[str k, str t, str g] (by kernel_rfl) (Hri.out wr) ?_
  intro w3 hb3
  have HC3 : Hid (w3.heap[bc]? = _) := (hb3.block bc (Array.getElem?_eq_some_iff.1 HC.out).1).trans HC.out
  have HB3 : Hid (Below w.heap.size w w3) := HBel.out.trans (hb3.mono HBel.out.size)
  have HK3 : Hid (w3.heap[kn]? = some (.cells #[lv, yv] 120 (0, 0))) := (HB3.out.block kn hkl).trans HK0.out
  clear hb3 HC HBel HK
  simp only [Act.put, zA, zB, zC]
  refine Ks.v (.bool R) ?_
  simp only [Act.put, zA, zB, zC]
  refine Ks.done ?_
  refine wp_seq ?_
  obtain ⟨S0, hS0⟩ : ∃ S0 : Nat → Prop, S0 = fun j => lv.ownBlock = some j := ⟨_, rfl⟩
  have h0lt : ∀ j, S0 j → S j ∧ j < w.heap.size := fun j hj => by
   rw [hS0] at hj
   exact ⟨HL0.out.2 j hj, HL0.out.lt j hj⟩
  have hbn : ¬ S0 bc := fun h => by have := (h0lt bc h).2; omega
  have hknn : ¬ S0 kn := fun h => by
   rw [hS0] at h
   exact row_not HL0.out HK0.out (by decide) h
  have hyn : ∀ b, yv.ownBlock = some b → ¬ S0 b := fun b hb h => by
   rw [hS0] at h
   exact row_apart HY0.out HL0.out (by decide) hb h
  refine Qt.wp_relI (m := 7) (T := TK S0) (G := fun b w' => (b = false → Row S0 w' 34 3 lv ks.length (asL ks)) ∧ w'.heap[kn]? = some (.cells #[lv, yv] 120 (0, 0)) ∧ w'.heap[bc]? = some (.cells (ckC k t g).toArray 34 (0, 0)) ∧ Row (fun j => S j ∧ j < w.heap.size) w' 4 1 yv ks.length (yesL ks) ∧ Fr S w.heap.size w w') 8 (RK S0 w.heap.size kn lv ks.length (asL ks) (ckC k t g)) ?_ (by kernel_rfl) ?_ ?_ (by kernel_rfl) ?_ ?_ (by decide) ?_
  ·have hbz : Below w.heap.size w { w3 with drawn := w3.drawn + 1 } := HB3.out.trans ⟨rfl, rfl, rfl, Nat.le_refl _, fun _ _ => rfl⟩
   exact ⟨fun _ => Row.below (B := w.heap.size) (w := w) ⟨HL0.out.1, fun b hb => by rw [hS0]; exact hb⟩ hbz (Nat.le_refl _), HK3.out, HC3.out, Row.below (B := w.heap.size) ⟨HY0.out.1, fun b hb => ⟨HY0.out.2 b hb, HY0.out.lt b hb⟩⟩ hbz (Nat.le_refl _), Fr.of_below hbz (Nat.le_refl _)⟩
  ·intro i b wa wb hi hGa hT
   by_cases h6 : i = 6
   ·subst h6
    have hT : Below wa.heap.size wa wb := hT
    obtain ⟨g1, g2, g3, g4, g5⟩ := hGa
    exact ⟨fun e => (g1 e).below hT (Nat.le_refl _), (hT.block _ (Array.getElem?_eq_some_iff.1 g2).1).trans g2, (hT.block _ (Array.getElem?_eq_some_iff.1 g3).1).trans g3, g4.below hT (Nat.le_refl _), g5.calls hT g5.size⟩
   ·have e : wb = wa := by
     unfold TK at hT
     split at hT
     ·exact absurd rfl h6
     ·exact absurd rfl hi
     ·exact hT
    rw [e]
    exact hGa
  ·intro wa wb hGa hT
   have hT : Fr S0 wa.heap.size wa wb := hT
   obtain ⟨g1, g2, g3, g4, g5⟩ := hGa
   exact ⟨fun e => absurd e (by decide), (hT.block _ (Array.getElem?_eq_some_iff.1 g2).1 hknn).trans g2, (hT.block _ (Array.getElem?_eq_some_iff.1 g3).1 hbn).trans g3, g4.congr fun b hb => hT.block b (g4.lt b hb) (hyn b hb), g5.trans (hT.mono g5.size fun j _ hj => (h0lt j hj).1)⟩
  ·intro i j u wa wb hi hj hne hw b hb hGa hr hT
   by_cases h7 : j = 7
   ·subst h7
    have e : wb = wa := by
     unfold TK at hT
     split at hT
     ·have h2 : false = true := hw.symm.trans (by kernel_rfl)
      cases h2
     ·exact absurd rfl hne
     ·exact hT
    rw [e]
    exact hr
   ·by_cases h6 : j = 6
    ·subst h6
     obtain ⟨b6, e6, hB6, hc6⟩ := hr
     refine ⟨b6, e6, hB6, ?_⟩
     unfold TK at hT
     split at hT
     ·exact absurd rfl hne
     ·exact (hT.block _ (Array.getElem?_eq_some_iff.1 hc6).1 (fun h => by have := (h0lt b6 h).2; omega)).trans hc6
     ·rw [hT]
      exact hc6
    ·unfold RK at hr ⊢
     split
     ·exact hr
     ·exact hr
     ·exact absurd rfl h6
     ·exact absurd rfl h7
     ·simp only at hr
      exact hr
  ·intro i o hi ho U wa b hb hGa hd
   obtain ⟨g1, g2, g3, g4, g5⟩ := hGa
   simp only [Qt.fullA, List.take_succ_cons, List.take_zero, Act.put, List.setIfInBounds_toArray, List.set_cons_zero, List.set_cons_succ]
   have hi8 : i = 0 ∨ i = 1 ∨ i = 2 ∨ i = 3 ∨ i = 4 ∨ i = 5 ∨ i = 6 ∨ i = 7 := by omega
   rcases hi8 with rfl | rfl | rfl | rfl | rfl | rfl | rfl | rfl
   ·obtain rfl := Option.some.inj ho
    exact u_val (.pointer (some ⟨kn, 0, none⟩)) (by kernel_rfl) rfl rfl
   ·obtain rfl := Option.some.inj ho
    exact u_val (.pointer (some ⟨kn, 0, none⟩)) (by kernel_rfl) rfl rfl
   ·obtain rfl := Option.some.inj ho
    have h1 : U 1 = .pointer (some ⟨kn, 0, none⟩) := hd 1 (by decide) (by kernel_rfl)
    rw [h1]
    exact u_val (.pointer (some ⟨kn, 0, none⟩)) (by kernel_rfl) rfl rfl
   ·obtain rfl := Option.some.inj ho
    have h1 : U 2 = .pointer (some ⟨kn, 0, none⟩) := hd 2 (by decide) (by kernel_rfl)
    rw [h1]
    exact u_val (.pointer (some ⟨kn, 0, none⟩)) (by kernel_rfl) rfl rfl
   ·obtain rfl := Option.some.inj ho
    have h1 : U 3 = .pointer (some ⟨kn, 0, none⟩) := hd 3 (by decide) (by kernel_rfl)
    rw [h1]
    refine u_val lv ?_ rfl rfl
    have h2 := Ks.load_cell (P := Tryz.prog) Tryz.underlying22 rfl (row_at g2 0 rfl : wa.cell? ⟨kn, 0, none⟩ = some lv)
    exact run_load_at rfl h2
   ·obtain rfl := Option.some.inj ho
    refine u_val (.agg (ckC k t g).toArray) ?_ rfl rfl
    exact run_load_at rfl (run_loadVar_row wa bc _ 34 (ckC k t g).toArray (0, 0) _ g3 Tryz.underlying34 rfl (by kernel_rfl))
   ·obtain rfl := Option.some.inj ho
    have h1 : U 5 = .agg (ckC k t g).toArray := hd 5 (by decide) (by kernel_rfl)
    rw [h1]
    exact (one_check _ rfl k t g rfl g5.size).toT fun w' hb' => hb'
   ·obtain rfl := Option.some.inj ho
    have h1 : U 4 = lv := hd 4 (by decide) (by kernel_rfl)
    obtain ⟨b6, h6, hB6, hc6⟩ : ∃ b, U 6 = .slice (some ⟨b, 0, none⟩) 1 1 ∧ w.heap.size ≤ b ∧ wa.heap[b]? = some (.cells (ckC k t g).toArray 34 (0, 0)) := hd 6 (by decide) (by kernel_rfl)
    rw [h1, h6]
    exact app_upon _ _ _ rfl 34 (.agg #[.string ⟨#[]⟩, .string ⟨#[]⟩, .string ⟨#[]⟩]) 3 48 Tryz.underlying22 ckInfo rfl (by decide) (by decide) S0 lv ks.length (asL ks) rfl (g1 (hb rfl)) b6 1 (ckC k t g) rfl (fun j c hc => (cell_of_row wa b6 j _ _ _ hc6).trans (by simpa using hc)) rfl (fun c hc => by
     simp [ckC] at hc
     rcases hc with rfl | rfl | rfl <;> rfl) (by omega) w.heap.size g5.size
  ·intro U w5 hGa hd
   obtain ⟨_, g2, g3, g4, g5⟩ := hGa
   have h0 : U 0 = .pointer (some ⟨kn, 0, none⟩) := hd 0 (by decide)
   have h1 : U 1 = .pointer (some ⟨kn, 0, none⟩) := hd 1 (by decide)
   have h2 : U 2 = .pointer (some ⟨kn, 0, none⟩) := hd 2 (by decide)
   have h3 : U 3 = .pointer (some ⟨kn, 0, none⟩) := hd 3 (by decide)
   have h4 : U 4 = lv := hd 4 (by decide)
   have h5 : U 5 = .agg (ckC k t g).toArray := hd 5 (by decide)
   obtain ⟨b6, h6, _, _⟩ : ∃ b, U 6 = .slice (some ⟨b, 0, none⟩) 1 1 ∧ w.heap.size ≤ b ∧ w5.heap[b]? = some (.cells (ckC k t g).toArray 34 (0, 0)) := hd 6 (by decide)
   obtain ⟨v5, h7⟩ : ∃ v, v = U 7 := ⟨_, rfl⟩
   have hrow : Row (fun k => S0 k ∨ w.heap.size ≤ k) w5 34 3 (U 7) (ks.length + 1) (asL ks ++ ckC k t g) := hd 7 (by decide)
   rw [← h7] at hrow
   have HK5 : Hid (w5.heap[kn]? = some (.cells #[lv, yv] 120 (0, 0))) := g2
   have HL5 : Hid (Row (fun j => S j ∨ w.heap.size ≤ j) w5 34 3 v5 (ks.length + 1) (asL ks ++ ckC k t g)) := hrow.mono fun j hj => hj.imp (fun h => (h0lt j h).1) id
   have HY5 : Hid (Row (fun j => S j ∧ j < w.heap.size) w5 4 1 yv ks.length (yesL ks)) := g4
   have HF5 : Hid (Fr S w.heap.size w w5) := g5
   simp only [Qt.fullA, List.take_succ_cons, List.take_zero, List.drop_succ_cons, List.drop_zero, Act.put, List.setIfInBounds_toArray, List.set_cons_zero, List.set_cons_succ, h0, h1, h2, h3, h4, h5, h6, ← h7]
   clear h0 h1 h2 h3 h4 h5 h6 h7 hrow g2 g3 g4 g5 hd HB3 HK3 HC3
   refine Ks.v (.pointer (some ⟨kn, 0, none⟩)) ?_
   simp only [Act.put, zA, zB, zC]
   refine Ks.v (.pointer (some ⟨kn, 0, none⟩)) ?_
   simp only [Act.put, zA, zB, zC]
   refine Ks.store rfl _ _ _ rfl kn 0 _ rfl rfl HK5.out (by show 0 < 2; omega) (by kernel_rfl) (row_one HL5.out) #[v5, yv] rfl ?_
   intro w6 HK6 H2 H3 H4
   have hk5 : v5.ownBlock ≠ some kn := row_not HL5.out HK5.out (by decide)
   have hky : yv.ownBlock ≠ some kn := row_not HY5.out HK5.out (by decide)
   have HL6 : Hid (Row (fun j => S j ∨ w.heap.size ≤ j) w6 34 3 v5 (ks.length + 1) (asL ks ++ ckC k t g)) := HL5.out.congr fun b hb => H3.out b (fun e => hk5 (by rw [hb, e]))
   have HY6 : Hid (Row (fun j => S j ∧ j < w.heap.size) w6 4 1 yv ks.length (yesL ks)) := HY5.out.congr fun b hb => H3.out b (fun e => hky (by rw [hb, e]))
   have HF6 : Hid (Fr S w.heap.size w w6) := HF5.out.trans (H2.out _ _ (Or.inl hS))
   clear H2 H3 H4 HK5 HL5 HY5 HF5
   simp only [Act.put]
   refine Ks.done ?_
   refine wp_seq ?_
   refine Ks.reg ?_
   refine Ks.v (.pointer (some ⟨kn, 0, none⟩)) ?_
   simp only [Act.put, zA, zB, zC]
   refine Ks.v (.pointer (some ⟨kn, 0, none⟩)) ?_
   simp only [Act.put, zA, zB, zC]
   refine Ks.v (.pointer (some ⟨kn, 0, none⟩)) ?_
   simp only [Act.put, zA, zB, zC]
   refine Ks.v (.pointer (some ⟨kn, 1, none⟩)) ?_
   simp only [Act.put, zA, zB, zC]
   refine Ks.cell rfl _ _ rfl Tryz.underlying27 rfl kn 1 yv rfl (row_at HK6.out 1 rfl) ?_
   simp only [Act.put, zA, zB, zC]
   refine Ks.v (.bool R) ?_
   simp only [Act.put, zA, zB, zC]
   refine Ks.single rfl 27 4 _ rfl (.bool R) (.bool false) rfl #[.bool R] 1 1 Tryz.underlying27 blInfo (by decide) (by decide) (by kernel_rfl) ?_
   intro w7 b7 Hb7 HO7 HB7
   have HK7 : Hid (w7.heap[kn]? = some (.cells #[v5, yv] 120 (0, 0))) := (HB7.out.block kn (Array.getElem?_eq_some_iff.1 HK6.out).1).trans HK6.out
   have HL7 : Hid (Row (fun j => S j ∨ w.heap.size ≤ j) w7 34 3 v5 (ks.length + 1) (asL ks ++ ckC k t g)) := HL6.out.below HB7.out (Nat.le_refl _)
   have HY7 : Hid (Row (fun j => S j ∧ j < w.heap.size) w7 4 1 yv ks.length (yesL ks)) := HY6.out.below HB7.out (Nat.le_refl _)
   have HF7 : Hid (Fr S w.heap.size w w7) := HF6.out.calls HB7.out HF6.out.size
   clear HK6 HL6 HY6 HF6 HB7 Hb7
   simp only [Act.put, zA, zB, zC]
   refine app_row rfl _ _ _ rfl 4 (.bool false) 1 1 Tryz.underlying27 blInfo rfl (by decide) (by decide) _ _ ks.length (yesL ks) rfl HY7.out 1 b7 1 [.bool R] rfl (fun j c hc => (cell_of_row w7 b7 j _ _ _ HO7.out).trans (by simpa using hc)) rfl (fun c hc => by
    simp at hc
    rw [hc]
    rfl) (by omega) ?_
   intro v8 w8 hrow hgr
   have hk7 : yv.ownBlock ≠ some kn := row_not HY7.out HK7.out (by decide)
   have HK8 : Hid (w8.heap[kn]? = some (.cells #[v5, yv] 120 (0, 0))) := (hgr.block kn (Array.getElem?_eq_some_iff.1 HK7.out).1 (fun e => hk7 e.symm)).trans HK7.out
   have HY8 : Hid (Row (fun j => S j ∨ w.heap.size ≤ j) w8 4 1 v8 (ks.length + 1) (yesL ks ++ [.bool R])) := hrow.mono fun j hj => hj.elim (fun h => Or.inl h.1) fun e => Or.inr (by rw [e]; exact HF7.out.size)
   have HL8 : Hid (Row (fun j => S j ∨ w.heap.size ≤ j) w8 34 3 v5 (ks.length + 1) (asL ks ++ ckC k t g)) := HL7.out.congr fun b hb => hgr.block b (HL7.out.lt b hb) (fun e => row_apart HL7.out HY7.out (by decide) hb e.symm)
   have HF8 : Hid (Fr S w.heap.size w w8) := HF7.out.grown hgr HF7.out.size fun b hb => Or.inl (HY7.out.2 b hb).1
   clear hrow hgr HK7 HL7 HY7 HF7 HO7
   simp only [Act.put, zA, zB, zC]
   refine Ks.v (.pointer (some ⟨kn, 0, none⟩)) ?_
   simp only [Act.put, zA, zB, zC]
   refine Ks.v (.pointer (some ⟨kn, 1, none⟩)) ?_
   simp only [Act.put, zA, zB, zC]
   refine Ks.store rfl _ _ _ rfl kn 1 _ rfl rfl HK8.out (by show 1 < 2; omega) (by kernel_rfl) (row_one HY8.out) #[v5, v8] rfl ?_
   intro w9 HK9 H2 H3 H4
   have hk8 : v5.ownBlock ≠ some kn := row_not HL8.out HK8.out (by decide)
   have hk9 : v8.ownBlock ≠ some kn := row_not HY8.out HK8.out (by decide)
   have HL9 : Hid (Row (fun j => S j ∨ w.heap.size ≤ j) w9 34 3 v5 (ks.length + 1) (asL ks ++ ckC k t g)) := HL8.out.congr fun b hb => H3.out b (fun e => hk8 (by rw [hb, e]))
   have HY9 : Hid (Row (fun j => S j ∨ w.heap.size ≤ j) w9 4 1 v8 (ks.length + 1) (yesL ks ++ [.bool R])) := HY8.out.congr fun b hb => H3.out b (fun e => hk9 (by rw [hb, e]))
   have HF9 : Hid (Fr S w.heap.size w w9) := HF8.out.trans (H2.out _ _ (Or.inl hS))
   clear H2 H3 H4 HK8 HL8 HY8 HF8
   simp only [Act.put]
   refine Ks.done ?_
   refine wp_seq ?_
   refine Ks.reg ?_
   refine Ks.v (.bool R) ?_
   simp only [Act.put, zA, zB, zC]
   refine Ks.v (.bool R) ?_
   simp only [Act.put, zA, zB, zC]
   refine Ks.done ?_
   refine wp_ret ?_
   repeat (refine Ks.ret ?_)
   refine bodyPost_ret (v := .bool R) (by simp [results, Tryz.results203]) rfl ?_
   refine ⟨_, rfl, rfl, ⟨ks ++ [⟨k, t, g, R⟩], by simp, Or.inl hS, ?_, v5, v8, HK9.out, ?_, ?_⟩, HF9.out⟩
   ·intro x hx
    rcases List.mem_append.1 hx with hx | hx
    ·exact hall x hx
    ·simp at hx
     rw [hx]
     exact hR
   ·rw [asL_snoc, List.length_append]
    exact HL9.out
   ·rw [yesL_snoc, List.length_append]
    exact HY9.out
end Gt
end Go.Proofs.YtbojijefenfbgaaGreatDoor
namespace Go.Proofs.YtbojijefenfbgaaGreatDoor
open Go Go.RowKit
namespace Gt
open Mp Bk Tk
theorem pt_dec (k : List UInt8) : (Dc.ptD k).2 = (Cw.decF k).2 := by
 unfold Dc.ptD
 by_cases hl : k.length = 32
 ·rw [if_pos hl]
  cases h1 : (Dc.ptN (le k)).2 with
  | false =>
   cases h2 : (Cw.decF k).2 with
   | false => rfl
   | true =>
    obtain ⟨p, hp, _, he⟩ := Gw.dec_true h2
    exact absurd he (Dc.pt_false h1 p hp)
  | true =>
   cases h2 : (Cw.decF k).2 with
   | true => rfl
   | false =>
    obtain ⟨p, hp, _, he⟩ := Dc.pt_true hl h1
    exact absurd he (Gw.dec_false h2 p hp)
 ·rw [if_neg hl]
  unfold Cw.decF
  rw [if_neg hl]
theorem pointed_d (k : List UInt8) (w : World) : Calls Tryz.prog 41 #[.string ⟨k.toArray⟩] w fun e w' => e = .returned (.tuple #[.agg (Dc.tp (Dc.ptD k).1), .bool (Dc.ptD k).2]) ∧ Below w.heap.size w w' := by
 unfold Dc.ptD
 by_cases hl : k.length = 32
 ·rw [if_pos hl]
  exact Dc.pointed_long k hl w
 ·rw [if_neg hl]
  exact Dc.pointed_short k hl w
set_option maxRecDepth 10000 in
theorem newR_no (n : Int) (k : List UInt8) (kn : Nat) (h : bet 0 n 15 = false) (w : World) : Calls Tryz.prog 129 #[.int .i64 n, .string ⟨k.toArray⟩, .pointer (some ⟨kn, 0, none⟩)] w fun e w' => e = .returned (.tuple #[.pointer none, .int .i64 2]) ∧ Below w.heap.size w w' := by
 go_enter Tryz.func129, Tryz.ntmps129
 refine wp_seq ?_
 refine Ks.reg ?_
 refine Ks.v (.pointer none) ?_
 simp only [Act.put, zA, zB, zC]
 refine Ks.v (.int .i64 0) ?_
 simp only [Act.put, zA, zB, zC]
 refine Ks.done ?_
 refine wp_seq ?_
 refine Ks.reg ?_
 refine Ks.v (.int .i64 n) ?_
 simp only [Act.put, zA, zB, zC]
 refine Ks.pure (by kernel_rfl) 60 #[.int .i64 n, .int .i64 0, .int .i64 15] (by kernel_rfl) (v := .bool (bet 0 n 15)) ((in_f 0 n 15 w).mono fun e w' h => ⟨h.1, by rw [h.2]; exact Below.refl _ _⟩) ?_
 intro w1 hb1
 rw [h]
 simp only [Act.put, zA, zB, zC]
 refine Ks.v (.bool false) ?_
 simp only [Act.put, zA, zB, zC]
 refine Ks.done ?_
 refine wp_seq ?_
 refine wp_seq ?_
 refine Ks.reg ?_
 refine Ks.v (.bool false) ?_
 simp only [Act.put, zA, zB, zC]
 refine Ks.v (.bool true) ?_
 simp only [Act.put, zA, zB, zC]
 refine Ks.done ?_
 refine wp_cond_true rfl ?_
 refine wp_seq ?_
 refine Ks.reg ?_
 refine Ks.v (.pointer none) ?_
 simp only [Act.put, zA, zB, zC]
 refine Ks.v (.int .i64 2) ?_
 simp only [Act.put, zA, zB, zC]
 refine Ks.done ?_
 refine wp_ret ?_
 repeat (refine Ks.ret ?_)
 refine bodyPost_ret (v := .tuple #[.pointer none, .int .i64 2]) (by simp [results, Tryz.results129]) rfl ?_
 exact ⟨rfl, hb1⟩
set_option maxRecDepth 10000 in
theorem newR (n : Int) (k : List UInt8) (kn : Nat) (h : bet 0 n 15 = true) (w : World) : Calls Tryz.prog 129 #[.int .i64 n, .string ⟨k.toArray⟩, .pointer (some ⟨kn, 0, none⟩)] w fun e w' => ∃ v, e = .returned v ∧ (if (Cw.decF k).2 = true then ∃ g, v = .tuple #[.pointer (some ⟨g, 0, none⟩), .int .i64 0] ∧ RGate (fun k => w.heap.size ≤ k) w' g (St.new n k) kn else v = .tuple #[.pointer none, .int .i64 3]) ∧ Below w.heap.size w w' := by
 have HD : Hid (∀ w, Calls Tryz.prog 41 #[.string ⟨k.toArray⟩] w fun e w' => e = .returned (.tuple #[.agg (Dc.tp (Dc.ptD k).1), .bool (Dc.ptD k).2]) ∧ Below w.heap.size w w') := pointed_d k
 rw [pt_dec] at HD
 obtain ⟨p, hp⟩ : ∃ p, p = (Dc.ptD k).1 := ⟨_, rfl⟩
 obtain ⟨B, hB⟩ : ∃ B, B = (Cw.decF k).2 := ⟨_, rfl⟩
 rw [← hp, ← hB] at HD
 rw [← hB]
 clear hp hB
 go_enter Tryz.func129, Tryz.ntmps129
 refine wp_seq ?_
 refine Ks.reg ?_
 refine Ks.v (.pointer none) ?_
 simp only [Act.put, zA, zB, zC]
 refine Ks.v (.int .i64 0) ?_
 simp only [Act.put, zA, zB, zC]
 refine Ks.done ?_
 refine wp_seq ?_
 refine Ks.reg ?_
 refine Ks.v (.int .i64 n) ?_
 simp only [Act.put, zA, zB, zC]
 refine Ks.pure (by kernel_rfl) 60 #[.int .i64 n, .int .i64 0, .int .i64 15] (by kernel_rfl) (v := .bool (bet 0 n 15)) ((in_f 0 n 15 w).mono fun e w' h => ⟨h.1, by rw [h.2]; exact Below.refl _ _⟩) ?_
 intro w1 hb1
 rw [h]
 simp only [Act.put, zA, zB, zC]
 refine Ks.v (.bool true) ?_
 simp only [Act.put, zA, zB, zC]
 refine Ks.done ?_
 refine wp_seq ?_
 refine wp_seq ?_
 refine Ks.reg ?_
 refine Ks.v (.bool true) ?_
 simp only [Act.put, zA, zB, zC]
 refine Ks.v (.bool false) ?_
 simp only [Act.put, zA, zB, zC]
 refine Ks.done ?_
 refine wp_cond_false rfl ?_
 refine wp_skip ?_
 refine Ks.norm ?_
 refine wp_seq ?_
 refine Ks.reg ?_
 refine Ks.v (.string ⟨k.toArray⟩) ?_
 simp only [Act.put, zA, zB, zC]
 refine Ks.pure (by kernel_rfl) 41 #[.string ⟨k.toArray⟩] (by kernel_rfl) (HD.out w1) ?_
 intro w2 hb2
 simp only [Act.put, zA, zB, zC]
 refine Ks.v (.tuple #[.agg (Dc.tp p), .bool B]) ?_
 simp only [Act.put, zA, zB, zC]
 refine Ks.v (.agg (Dc.tp p)) ?_
 simp only [Act.put, zA, zB, zC]
 refine Ks.v (.bool B) ?_
 simp only [Act.put, zA, zB, zC]
 refine Ks.decl rfl _ rfl (.agg (Dc.tp Dc.t0)) (by rw [Dc.tp_zero]; kernel_rfl) rfl _ _ rfl (Dc.tp p) (fun _ => rfl) (fun _ => rfl) (by rw [Dc.tp_size]; kernel_rfl) ((Dc.tp_size _).trans (Dc.tp_size _).symm) (Dc.tp_one _) ?_
 intro w3 b3 Hb3 HR3 HB3
 have HBA : Hid (Below w.heap.size w w3) := (hb1.trans (hb2.mono hb1.size)).trans (HB3.out.mono (Nat.le_trans hb1.size hb2.size))
 clear hb1 hb2 HB3 HR3 Hb3
 simp only [Act.put, zA, zB, zC]
 refine Ks.v (.bool B) ?_
 simp only [Act.put, zA, zB, zC]
 refine Ks.done ?_
 refine wp_seq ?_
 refine wp_seq ?_
 refine Ks.reg ?_
 refine Ks.v (.bool B) ?_
 simp only [Act.put, zA, zB, zC]
 cases B with
 | false =>
  refine Ks.v (.bool true) ?_
  simp only [Act.put, zA, zB, zC]
  refine Ks.done ?_
  refine wp_cond_true rfl ?_
  refine wp_seq ?_
  refine Ks.reg ?_
  refine Ks.v (.pointer none) ?_
  simp only [Act.put, zA, zB, zC]
  refine Ks.v (.int .i64 3) ?_
  simp only [Act.put, zA, zB, zC]
  refine Ks.done ?_
  refine wp_ret ?_
  repeat (refine Ks.ret ?_)
  refine bodyPost_ret (v := .tuple #[.pointer none, .int .i64 3]) (by simp [results, Tryz.results129]) rfl ?_
  exact ⟨_, rfl, by rw [if_neg (by decide)], HBA.out⟩
 | true =>
  refine Ks.v (.bool false) ?_
  simp only [Act.put, zA, zB, zC]
  refine Ks.done ?_
  refine wp_cond_false rfl ?_
  refine wp_skip ?_
  refine Ks.norm ?_
  refine wp_seq ?_
  refine Ks.reg ?_
  refine Ks.v (.int .i64 n) ?_
  simp only [Act.put, zA, zB, zC]
  refine Ks.v (.string ⟨k.toArray⟩) ?_
  simp only [Act.put, zA, zB, zC]
  refine Ks.v (.pointer (some ⟨kn, 0, none⟩)) ?_
  simp only [Act.put, zA, zB, zC]
  refine Ks.v (.agg (cellsR (St.new n k) (.slice none 0 0) kn)) ?_
  simp only [Act.put, zA, zB, zC]
  refine Ks.box rfl _ _ rfl (cellsR (St.new n k) (.slice none 0 0) kn) rfl ?_
  intro w6 g Hg HG HB6 HS6
  simp only [Act.put, zA, zB, zC]
  refine Ks.v (.pointer (some ⟨g, 0, none⟩)) ?_
  simp only [Act.put, zA, zB, zC]
  refine Ks.v (.int .i64 0) ?_
  simp only [Act.put, zA, zB, zC]
  refine Ks.done ?_
  refine wp_ret ?_
  repeat (refine Ks.ret ?_)
  refine bodyPost_ret (v := .tuple #[.pointer (some ⟨g, 0, none⟩), .int .i64 0]) (by simp [results, Tryz.results129]) rfl ?_
  have hgl : w.heap.size ≤ g := by rw [Hg.out]; exact HBA.out.size
  refine ⟨_, rfl, ?_, HBA.out.trans (HB6.out.mono HBA.out.size)⟩
  rw [if_pos (by decide)]
  exact ⟨g, rfl, hgl, _, HG.out, Row.nil _ _ _ _⟩
end Gt
end Go.Proofs.YtbojijefenfbgaaGreatDoor

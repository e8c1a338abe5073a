/- An element appended to a slice of the call's own: the law in one form. Walk of the document's long. Walk of the document's summed. Walk of the document's Bytes. -/
import Derived.Test.YtbojijefenfbgaaGreatDoorGgShort
import Derived.Test.YtbojijefenfbgaaGreatDoorGgSignN
import Derived.Laws.AppendOwn
import Derived.OwnWalk
import Derived.Below
import Derived.Test.YtbojijefenfbgaaGreatDoorGgQRel
import Derived.Test.YtbojijefenfbgaaGreatDoorGgDocL
namespace Go.Proofs.YtbojijefenfbgaaGreatDoor
open Go Go.RowKit
namespace Ap
theorem own_below {w w' : World} {base : Nat} {e : TypeId} {size : Nat} {v : Value} {n : Nat} {xs : List Value} (h : w.ownsRow base e size v n xs) (hb : Below w.heap.size w w') : w'.ownsRow base e size v n xs := by
 obtain ⟨h1, h2⟩ := h
 refine ⟨h1, h2.imp (fun h => h) ?_⟩
 rintro ⟨g, cap, cur, e1, e2, e3, e4⟩
 exact ⟨g, cap, cur, e1, e2, (hb.block g (Array.getElem?_eq_some_iff.1 e3).1).trans e3, e4⟩
def OneAt (B : Nat) (e : TypeId) (cs : List Value) (u : Value) (w : World) : Prop := ∃ b, u = .slice (some ⟨b, 0, none⟩) 1 1 ∧ B ≤ b ∧ w.heap[b]? = some (.cells cs.toArray e (0, 0))
theorem OneAt.lasts {B : Nat} {e : TypeId} {cs : List Value} (u : Value) (w w' : World) (h : OneAt B e cs u w) (hb : Below w.heap.size w w') : OneAt B e cs u w' := by
 obtain ⟨b, h1, h2, h3⟩ := h
 exact ⟨b, h1, h2, (hb.block b (Array.getElem?_eq_some_iff.1 h3).1).trans h3⟩
theorem app_one {P : Program} {ops : Array Oper} {rest : List Oper} {o : Oper} {a : Act} {w : World} {Q : Exit → Act → World → Prop} (hgd : o.guard = none) (s x : Operand) (t : TypeId) (ho : o.op = .call { callee := .builtin .append, args := #[s, x], argTypes := #[t, t] })
  (e : TypeId) (z : Value) (size bytes : Nat) (ht : P.underlying t = some (.slice e)) (h2 : (P.info? e).map (fun i => (i.zero, i.size, i.bytes)) = some (some z, size, bytes)) (hzs : z.cells.size = size) (hsz : 0 < size) (hby : bytes ≤ 4096)
  (base : Nat) (v : Value) (n : Nat) (xs : List Value) (hs : a.eval s = v) (hown : w.ownsRow base e size v n xs)
  (u : Value) (cs : List Value) (hx : a.eval x = u) (hu : OneAt base e cs u w) (hl : cs.length = size) (h1 : ∀ c ∈ cs, c.oneCell' = true) (hn : n ≤ 30000000000) (hbase : base ≤ w.heap.size)
  (h : ∀ v' w', w'.ownsRow base e size v' (n + 1) (xs ++ cs) → Below base w w' → v' ≠ .slice none 0 0 → wpList P ops Q rest (a.put o.dst v') w') : wpList P ops Q (o :: rest) a w := by
 obtain ⟨i, hi, hz0, hz1, hz2⟩ := info_parts h2
 obtain ⟨b, rfl, hB, hc⟩ := hu
 refine wpList_append_own w hgd s x t ho base e i z size bytes ht hi hz0 hz1 hz2 hzs hsz v n xs hs hown ⟨b, 0, none⟩ 1 1 cs hx (by omega) (fun j u hj => ?_) h1 (by unfold maxLen; omega) ?_ hbase (fun v' w' h3 h4 h5 => ?_)
 ·rw [Addr.add_mid, Nat.zero_add, cell_of_row w b j _ _ _ hc]
  simpa using hj
 ·have : (n + 1) * bytes ≤ 30000000001 * 4096 := Nat.mul_le_mul (by omega) hby
  omega
 ·refine h v' w' h3 ((Below.refl base w).grown h4 hbase fun k hk => (hown.lt k hk).1) fun he => ?_
  have := (h5.1 he).2
  omega
end Ap
end Go.Proofs.YtbojijefenfbgaaGreatDoor
namespace Go.Proofs.YtbojijefenfbgaaGreatDoor
open Go.RowKit
namespace Dc
open Bt Ed Cw
theorem info_int : (Tryz.prog.info? 3).map (fun i => (i.zero, i.size, i.bytes)) = some (some (.int .i64 0), 1, 8) := by kernel_rfl
theorem one_slice {w : World} {o : Oper} {a : Act} {B : Nat} (x : Operand) (ho : o.op = .buildSlice 25 1 #[(0, x)]) (v : Int) (hx : a.eval x = .int .i64 v) (hB : B ≤ w.heap.size) : Qt.UponR Tryz.prog w (Ap.OneAt B 3 [.int .i64 v]) ((execOp a.eval o).run Tryz.prog w) :=
 Gw.rel_slice 25 3 1 _ ho #[.int .i64 v] (.int .i64 0) 1 8 Tryz.underlying25 info_int (by decide) (by decide) [(0, .int .i64 v)] (by simp [hx]) (by kernel_rfl) ⟨w.heap.size, rfl, hB, heap_alloc_new _ _⟩
theorem y_str {W : World} {K : Act → Prop} {l : List Oper} {o : Oper} {a : Act} (hg : o.guard = none) (x ix : Operand) (ho : o.op = .index 9 x ix) (s : ByteArray) (i : Int) (v : Value) (hx : a.eval x = .string s) (hi : a.eval ix = .int .i64 i) (hv : ∀ w, Sem.run Tryz.prog (Instr.index 9 (.string s) (.int .i64 i)) w = .ok v w)
  (h : Qt.Lex Tryz.prog W K l (a.put o.dst v)) : Qt.Lex Tryz.prog W K (o :: l) a := by
 refine Qt.y_val hg v (fun w' _ => ?_) h
 unfold execOp
 simp only [ho, hx, hi, hv, Sem.run_bind, Sem.run_pure, Result.andThen_ok]
def xsN (N k : Nat) : List Value := (List.range k).map fun j => .int .i64 (dg (N : Int) j)
theorem xsN_succ (N k : Nat) : xsN N (k + 1) = xsN N k ++ [.int .i64 (dg (N : Int) k)] := by simp [xsN, List.range_succ]
set_option maxRecDepth 100000 in
set_option maxHeartbeats 400000 in
theorem long_d (s : ByteArray) (n : Nat) (hs : s.size = 2 * n) (hn : n ≤ 100) (hn0 : 0 < n) (w : World) : Calls Tryz.prog 45 #[.string s] w fun e w' => ∃ v, e = .returned v ∧ w'.ownsRow w.heap.size 3 1 v n (xsN (le s.data.toList) n) ∧ Below w.heap.size w w' := by
 have hs' : (s.size : Int) = 2 * (n : Int) := by omega
 have Hs : Hid (s.size = 2 * n) := hs
 clear hs
 go_enter Tryz.func45, Tryz.ntmps45
 go_wp2_with fail
 go_loopw [3, 4] (fun v i wq => ∃ k : Nat, k ≤ n ∧ i = .int .i64 (2 * (k : Int)) ∧ wq.ownsRow w.heap.size 3 1 v k (xsN (le s.data.toList) k) ∧ Below w.heap.size w wq) (fun _ i _ => 2 * n - (intOf i).toNat)
 case atStart => exact ⟨0, by omega, rfl, World.ownsRow_nil _ _ _ _, Below.refl _ _⟩
 case round =>
  rename World => wa
  obtain ⟨k, hk, rfl, ho, hb⟩ := hrel
  have HO : Hid _ := ho
  have HB : Hid _ := hb
  clear ho hb
  by_cases hkn : k < n
  ·have hk1 : 2 * k + 1 < s.size := by have := Hs.out; omega
   have Hp := le_part s.data.toList k (by have : s.data.size = s.size := rfl; simp; omega)
   have hb1 := (s[2 * k]).toNat_lt
   have hb2 := (s[2 * k + 1]).toNat_lt
   have Hx1 : Hid (∀ W, Sem.run Tryz.prog (Instr.index 9 (.string s) (.int .i64 (2 * (k : Int)))) W = .ok (.int .u8 ((s[2 * k]).toNat : Int)) W) := fun W => run_index_str W s (2 * k) (by omega) _ (by omega)
   have Hx2 : Hid (∀ W, Sem.run Tryz.prog (Instr.index 9 (.string s) (.int .i64 (2 * (k : Int) + 1))) W = .ok (.int .u8 ((s[2 * k + 1]).toNat : Int)) W) := fun W => run_index_str W s (2 * k + 1) (by omega) _ (by omega)
   have Hp : Hid (((s[2 * k]).toNat : Int) + 256 * ((s[2 * k + 1]).toNat : Int) = dg (le s.data.toList : Int) k) := Hp
   generalize (s[2 * k]).toNat = x at *
   generalize (s[2 * k + 1]).toNat = y at *
   go_wp2_with fail
   refine Qt.wp_last 12 (Ap.OneAt w.heap.size 3 [.int .i64 ((x : Int) + 256 * (y : Int))]) (by kernel_rfl) (by kernel_rfl) Ap.OneAt.lasts _ rfl ?_
   refine Qt.y_val rfl (u3) (fun _ _ => by kernel_rfl) ?_
   refine Qt.y_val rfl (.string s) (fun _ _ => by kernel_rfl) ?_
   refine Qt.y_val rfl (.int .i64 (2 * (k : Int))) (fun _ _ => by kernel_rfl) ?_
   simp only [Act.put, zA, zB, zC]
   refine y_str rfl _ _ rfl s (2 * (k : Int)) (.int .u8 (x : Int)) rfl rfl Hx1.out ?_
   simp only [Act.put, zA, zB, zC]
   refine Qt.y_val rfl (.int .i64 (x : Int)) (fun w' _ => by go_simp; exact IntWalk.i64_in _ ⟨by omega, by omega⟩) ?_
   refine Qt.y_val rfl (.string s) (fun _ _ => by kernel_rfl) ?_
   refine Qt.y_val rfl (.int .i64 (2 * (k : Int))) (fun _ _ => by kernel_rfl) ?_
   simp only [Act.put, zA, zB, zC]
   refine Qt.y_val rfl (.int .i64 (2 * (k : Int) + 1)) (fun w' _ => by go_simp; exact IntWalk.i64_in _ ⟨by omega, by omega⟩) ?_
   simp only [Act.put, zA, zB, zC]
   refine y_str rfl _ _ rfl s (2 * (k : Int) + 1) (.int .u8 (y : Int)) rfl rfl Hx2.out ?_
   simp only [Act.put, zA, zB, zC]
   refine Qt.y_val rfl (.int .i64 (y : Int)) (fun w' _ => by go_simp; exact IntWalk.i64_in _ ⟨by omega, by omega⟩) ?_
   simp only [Act.put, zA, zB, zC]
   refine Qt.y_val rfl (.int .i64 (256 * (y : Int))) (fun w' _ => by go_simp; exact IntWalk.i64_in _ ⟨by omega, by omega⟩) ?_
   simp only [Act.put, zA, zB, zC]
   refine Qt.y_val rfl (.int .i64 ((x : Int) + 256 * (y : Int))) (fun w' _ => by go_simp; exact IntWalk.i64_in _ ⟨by omega, by omega⟩) ?_
   simp only [Act.put, zA, zB, zC]
   refine Qt.y_nil ⟨fun w' hw' => one_slice _ rfl _ rfl (Nat.le_trans HB.out.size hw'.size), ?_⟩
   intro u w1 hb1 hu1
   simp only [List.setIfInBounds_toArray, List.set_cons_zero, List.set_cons_succ]
   simp only [List.drop_succ_cons, List.drop_zero]
   refine Ap.app_one rfl _ _ 25 rfl 3 (.int .i64 0) 1 8 Tryz.underlying25 info_int rfl (by decide) (by decide) w.heap.size u3 k _ rfl (Ap.own_below HO.out hb1) u _ rfl hu1 rfl (by simp; rfl) (by omega) (Nat.le_trans HB.out.size hb1.size) ?_
   intro v' w2 hown hb2 _
   rw [Hp.out, ← xsN_succ] at hown
   have HO2 : Hid _ := hown
   have HB2 : Hid (Below w.heap.size w w2) := (HB.out.trans (hb1.mono HB.out.size)).trans hb2
   clear hown hb2 hb1 hu1 HO HB
   go_wp2_with fail
   refine ⟨⟨k + 1, by omega, by congr 1, HO2.out, HB2.out⟩, ?_⟩
   show 2 * n - (2 * (k : Int) + 2).toNat < 2 * n - (2 * (k : Int)).toNat
   omega
  ·obtain rfl : k = n := by omega
   go_wp2_with fail
   exact bodyPost_ret (v := u3) (by simp [results, Tryz.results45, go_sem]) rfl ⟨u3, rfl, HO.out, HB.out⟩
theorem long_rest {w w' : World} {v : Value} {N n B : Nat} (hn : 0 < n) (h : w.ownsRow B 3 1 v n (xsN N n)) (hN : N < 2 ^ (16 * n)) (hn1 : n ≤ 100) (hw : Below w.heap.size w w') :
  Calls Tryz.prog 44 #[v] w' fun e w'' => e = .returned (.agg (nm ((N % Sw.LL : Nat) : Int))) ∧ Below w'.heap.size w' w'' := by
 obtain ⟨h1, h2⟩ := Ap.own_below h hw
 rcases h2 with ⟨_, h0⟩ | ⟨g, cap, cur, rfl, hB, hg, hc1, hc2, hsz, hxs⟩
 ·omega
 ·refine rest_d g cap n N hN hn1 w' (fun j hj => ?_) (Array.getElem?_eq_some_iff.1 hg).1
  rw [cell_of_row w' g j _ _ _ hg]
  have : (xsN N n)[j]? = some (.int .i64 (dg (N : Int) j)) := by simp [xsN, hj]
  rw [← hxs, List.getElem?_take_of_lt (by omega)] at this
  simpa using this
end Dc
end Go.Proofs.YtbojijefenfbgaaGreatDoor
namespace Go.Proofs.YtbojijefenfbgaaGreatDoor
open Go.RowKit
namespace Dc
open Bt Ed Cw
end Dc
end Go.Proofs.YtbojijefenfbgaaGreatDoor
namespace Go.Proofs.YtbojijefenfbgaaGreatDoor
open Go.RowKit
namespace Dc
open Bt Ed Cw
theorem dg_addT (N b : Int) (h0 : 0 ≤ N) (hN : N < 57896044618658097711785492504343953926634992332820282019728792003956564819968) (hb : b = 0 ∨ b = 1) (j : Nat) (hj : j < 16) : (if j = 15 then dg N 15 + 32768 * b else dg N j) = dg (N + 57896044618658097711785492504343953926634992332820282019728792003956564819968 * b) j := by
 have e : (57896044618658097711785492504343953926634992332820282019728792003956564819968 : Int) = 32768 * 65536 ^ 15 := by decide
 by_cases ej : j = 15
 ·subst ej
  rw [if_pos rfl]
  unfold dg
  rw [e, show N + 32768 * 65536 ^ 15 * b = N + (32768 * b) * 65536 ^ 15 by rw [Int.mul_right_comm], Int.add_mul_ediv_right _ _ (by decide)]
  have h1 : 0 ≤ N / 65536 ^ 15 ∧ N / 65536 ^ 15 < 32768 := ⟨Int.ediv_nonneg h0 (by decide), Int.ediv_lt_of_lt_mul (by decide) (by rw [← e]; exact hN)⟩
  generalize N / 65536 ^ 15 = x at *
  omega
 ·rw [if_neg ej]
  unfold dg
  have e2 : (65536 : Int) ^ 15 = 65536 ^ (14 - j) * (65536 * 65536 ^ j) := by
   rw [← Int.mul_assoc, Int.mul_comm _ 65536, Int.mul_assoc, ← Int.pow_add, ← Int.pow_succ']
   congr 1
   omega
  rw [e, e2, show N + 32768 * (65536 ^ (14 - j) * (65536 * 65536 ^ j)) * b = N + (65536 * (32768 * 65536 ^ (14 - j) * b)) * 65536 ^ j by
   generalize (65536 : Int) ^ (14 - j) = u
   generalize (65536 : Int) ^ j = v
   simp only [Int.mul_assoc, Int.mul_comm, Int.mul_left_comm]
  , Int.add_mul_ediv_right _ _ (Int.ne_of_gt (pow_pos' (by decide) j))]
  generalize N / 65536 ^ j = x
  generalize (32768 * 65536 ^ (14 - j) * b) = y
  omega
theorem load_rf {ops : Array Oper} {rest : List Oper} {o : Oper} {a : Act} {w : World} {Q : Exit → Act → World → Prop} (hg : o.guard = none) (x : Operand) (ho : o.op = .load 95 x) (b off : Nat) (v : F) (hx : a.eval x = .pointer (some ⟨b, off, none⟩)) (hr : w.rangeAt b off (rn v).toList)
  (h : wpList Tryz.prog ops Q rest (a.put o.dst (.agg (rn v))) w) : wpList Tryz.prog ops Q (o :: rest) a w :=
 wpList_load_mid hg 95 x ho b off hx (rn v).toList _ hr Tryz.underlying95 rfl (by rw [Array.length_toList, rn_size]; kernel_rfl) h
theorem odd_dg (x : F) : dg (x.val : Int) 0 % 2 = if oddF x then 1 else 0 := by
 rw [dg_nat, Nat.pow_zero, Nat.div_one]
 unfold oddF
 rcases Nat.mod_two_eq_zero_or_one x.val with h | h
 ·rw [h, if_neg (by decide)]
  omega
 ·rw [h, if_pos (by decide)]
  omega
theorem enc_int (x y : F) : (y.val : Int) + 57896044618658097711785492504343953926634992332820282019728792003956564819968 * (if oddF x then 1 else 0) = ((enc x y : Nat) : Int) := by
 unfold enc
 split <;> omega
set_option maxRecDepth 100000 in
set_option maxHeartbeats 400000 in
theorem bytes_d (p : T3) (w : World) : Calls Tryz.prog 51 #[.agg (tp p)] w fun e w' => e = .returned (.string ⟨(leB (enc (p.x * inv p.z) (p.y * inv p.z)) 32).toArray⟩) ∧ Below w.heap.size w w' := by
 obtain ⟨s, hs⟩ : ∃ s, s = (leB (enc (p.x * inv p.z) (p.y * inv p.z)) 32).toArray := ⟨_, rfl⟩
 obtain ⟨u, hu⟩ : ∃ u, u = inv p.z := ⟨_, rfl⟩
 have Hun : Hid (∀ w, Calls Tryz.prog 96 #[.agg (rn p.z)] w fun e w' => e = .returned (.agg (rn u)) ∧ Below w.heap.size w w') := by rw [hu]; exact under_d _
 rw [← hs]
 rw [← hu] at hs
 obtain ⟨x, hx⟩ : ∃ x, x = p.x * u := ⟨_, rfl⟩
 obtain ⟨y, hy⟩ : ∃ y, y = p.y * u := ⟨_, rfl⟩
 have Hx : Hid (∀ w, Calls Tryz.prog 93 #[.agg (rn p.x), .agg (rn u)] w fun e w' => e = .returned (.agg (rn x)) ∧ Below w.heap.size w w') := by rw [hx]; exact mul_d _ _
 have Hy : Hid (∀ w, Calls Tryz.prog 93 #[.agg (rn p.y), .agg (rn u)] w fun e w' => e = .returned (.agg (rn y)) ∧ Below w.heap.size w w') := by rw [hy]; exact mul_d _ _
 rw [← hx, ← hy] at hs
 have Hlo : Hid (∀ w, Calls Tryz.prog 104 #[.agg (nm ((enc x y : Nat) : Int))] w fun e w' => e = .returned (.string ⟨s⟩) ∧ Below w.heap.size w w') := by rw [hs]; exact low_d _
 clear hs hx hy hu
 go_enter Tryz.func51, Tryz.ntmps51
 generalize hw0 : w.alloc (.cells (tp p) 100) = w0
 have h0 := al1 hw0
 have HP0 : Hid (TAt w0 w.heap.size p) := h0.1
 have HB0 : Hid _ := h0.2
 have Hw0 : Hid _ := hw0
 clear hw0 h0
 go_wp2_with (first | (rw [Hw0.out]; refine load_rf rfl _ rfl w.heap.size 32 p.z rfl HP0.out.z ?_) | fail)
 refine (Hun.out _).mono ?_
 rintro e w1 ⟨rfl, hb1⟩
 have HP1 : Hid (TAt w1 w.heap.size p) := HP0.out.below hb1 HP0.out.lt
 have HB1 : Hid (Below w.heap.size w w1) := HB0.out.trans (hb1.mono HB0.out.size)
 clear hb1 HP0 HB0 Hw0 Hun
 obtain ⟨gu, hgu⟩ : ∃ x, x = w1.heap.size := ⟨_, rfl⟩
 have hgl : w.heap.size < gu := by
  rw [hgu]
  exact HP1.out.lt
 generalize hw0 : w1.alloc (.cells (rn u) 95) = w2
 have h0 := al1 hw0
 rw [← hgu] at h0
 have HP2 : Hid (TAt w2 w.heap.size p) := HP1.out.below h0.2 (by omega)
 have HU2 : Hid (RAt w2 gu u) := h0.1
 have HB2 : Hid (Below w.heap.size w w2) := HB1.out.trans (h0.2.mono (by omega))
 have Hw0 : Hid _ := hw0
 have Hgu : Hid _ := hgu
 clear hw0 h0 hgu
 go_wp2_with (first | refine l_alloc _ rfl rfl ?_ | (refine new_r' rfl _ _ rfl u rfl _ _ rfl rfl ?_; rw [Hw0.out, ← Hgu.out]) | refine load_rf rfl _ rfl w.heap.size 0 p.x rfl HP2.out.x ?_ | refine load_r rfl _ rfl gu u rfl HU2.out ?_)
 refine (Hx.out _).mono ?_
 rintro e w3 ⟨rfl, hb3⟩
 have HP3 : Hid (TAt w3 w.heap.size p) := HP2.out.below hb3 HP2.out.lt
 have HU3 : Hid (RAt w3 gu u) := HU2.out.below hb3 HU2.out.lt
 have HB3 : Hid (Below w.heap.size w w3) := HB2.out.trans (hb3.mono HB2.out.size)
 clear hb3 HP2 HU2 HB2 Hw0 Hgu HP1 HB1 Hx
 obtain ⟨gx, hgx⟩ : ∃ x, x = w3.heap.size := ⟨_, rfl⟩
 have hgl2 : gu < gx := by
  rw [hgx]
  exact HU3.out.lt
 generalize hw0 : w3.alloc (.cells (rn x) 95) = w4
 have h0 := al1 hw0
 rw [← hgx] at h0
 have HP4 : Hid (TAt w4 w.heap.size p) := HP3.out.below h0.2 (by omega)
 have HU4 : Hid (RAt w4 gu u) := HU3.out.below h0.2 (by omega)
 have HX4 : Hid (RAt w4 gx x) := h0.1
 have HB4 : Hid (Below w.heap.size w w4) := HB3.out.trans (h0.2.mono (by omega))
 have Hw0 : Hid _ := hw0
 have Hgx : Hid _ := hgx
 clear hw0 h0 hgx
 go_wp2_with (first | refine l_alloc _ rfl rfl ?_ | (refine new_r' rfl _ _ rfl x rfl _ _ rfl rfl ?_; rw [Hw0.out, ← Hgx.out]) | refine load_rf rfl _ rfl w.heap.size 16 p.y rfl HP4.out.y ?_ | refine load_r rfl _ rfl gu u rfl HU4.out ?_)
 refine (Hy.out _).mono ?_
 rintro e w5 ⟨rfl, hb5⟩
 have HX5 : Hid (RAt w5 gx x) := HX4.out.below hb5 HX4.out.lt
 have HB5 : Hid (Below w.heap.size w w5) := HB4.out.trans (hb5.mono HB4.out.size)
 clear hb5 HP4 HU4 HX4 HB4 Hw0 Hgx HP3 HU3 HB3 Hy
 obtain ⟨gy, hgy⟩ : ∃ x, x = w5.heap.size := ⟨_, rfl⟩
 have hgl3 : gx < gy := by
  rw [hgy]
  exact HX5.out.lt
 generalize hw0 : w5.alloc (.cells (rn y) 95) = w6
 have h0 := al1 hw0
 rw [← hgy] at h0
 have HX6 : Hid (w6.heap[gx]? = some (.cells (num (dg (x.val : Int))) 95 (0, 0))) := by
  have := HX5.out.below h0.2 (by omega)
  unfold RAt at this
  rw [rn_def] at this
  exact this
 have HY6 : Hid (w6.heap[gy]? = some (.cells (num (dg (y.val : Int))) 95 (0, 0))) := by
  have := h0.1
  rw [rn_def] at this
  exact this
 have HB6 : Hid (Below w.heap.size w w6) := HB5.out.trans (h0.2.mono (by omega))
 have Hw0 : Hid _ := hw0
 have Hgy : Hid _ := hgy
 clear hw0 h0 hgy
 have hc15 := num_cell HY6.out 15 (by omega)
 have hf15 := num_frozen HY6.out 15
 have hc0 := num_cell HX6.out 0 (by omega)
 have hd15 := dg_bd (y.val : Int) 15
 have hd0 := dg_bd (x.val : Int) 0
 have Hodd : Hid _ := odd_dg x
 have HN7 : Hid ((w6.setCell ⟨gy, 15, none⟩ (.int .i64 (dg (y.val : Int) 15 + 32768 * (dg (x.val : Int) 0 % 2)))).heap[gy]? = some (.cells (nm ((enc x y : Nat) : Int)) 95 (0, 0))) := by
  rw [Hodd.out, ← enc_int]
  refine (num_store HY6.out 15 _).trans (congrArg (fun r => some (Obj.cells r 95 (0, 0))) (num_congr fun j hj => ?_))
  refine dg_addT (y.val : Int) _ (Int.natCast_nonneg _) ?_ ?_ j hj
  ·exact Int.lt_trans (Int.ofNat_lt.2 y.isLt) (by decide)
  ·split
   ·exact .inr rfl
   ·exact .inl rfl
 have HB7 : Hid (Below w.heap.size w (w6.setCell ⟨gy, 15, none⟩ (.int .i64 (dg (y.val : Int) 15 + 32768 * (dg (x.val : Int) 0 % 2))))) := below_cell HB6.out _ _ (by omega) _
 obtain ⟨a, ha⟩ : ∃ a, a = dg (y.val : Int) 15 := ⟨_, rfl⟩
 obtain ⟨b, hb⟩ : ∃ b, b = dg (x.val : Int) 0 := ⟨_, rfl⟩
 rw [← ha] at hc15 hd15 HN7 HB7
 rw [← hb] at hc0 hd0 HN7 HB7
 obtain ⟨E, hE⟩ : ∃ E, E = dg ((enc x y : Nat) : Int) := ⟨_, rfl⟩
 have HN8 : Hid ((w6.setCell ⟨gy, 15, none⟩ (.int .i64 (a + 32768 * (b % 2)))).heap[gy]? = some (.cells (num E) 95 (0, 0))) := by rw [hE]; exact HN7.out
 have Hlo2 : Hid (∀ w, Calls Tryz.prog 104 #[.agg (num E)] w fun e w' => e = .returned (.string ⟨s⟩) ∧ Below w.heap.size w w') := by rw [hE]; exact Hlo.out
 clear ha hb HN7 Hodd hE Hlo
 go_wp2_with (first | refine l_alloc _ rfl rfl ?_ | (refine new_r' rfl _ _ rfl y rfl _ _ rfl rfl ?_; rw [Hw0.out, ← Hgy.out]) | refine l_load rfl _ rfl gy E rfl HN8.out ?_)
 refine (Hlo2.out _).mono ?_
 rintro e w8 ⟨rfl, hb8⟩
 have HB8 : Hid (Below w.heap.size w w8) := HB7.out.trans (hb8.mono HB7.out.size)
 clear hb8
 go_wp2_with fail
 exact bodyPost_ret (v := .string ⟨s⟩) (by simp [results, Tryz.results51, go_sem]) rfl ⟨rfl, HB8.out⟩
theorem bytes_rep {e : T3} {p : Pt} (h : RepT e p) (w : World) : Calls Tryz.prog 51 #[.agg (tp e)] w fun e' w' => e' = .returned (.string ⟨(encP p).toArray⟩) ∧ Below w.heap.size w w' := by
 have := bytes_d e w
 rw [repT_x h, repT_y h] at this
 exact this
end Dc
end Go.Proofs.YtbojijefenfbgaaGreatDoor

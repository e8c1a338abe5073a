/- Walks of the program's digits and of the document's High. -/
/- Walks of the program's tickets and orders. -/
/- Walks of the program's and the document's Ticket and Order. -/
/- Walks of the document's Ticket and Order. -/
import Derived.Test.YtbojijefenfbgaaGreatDoorTkSignO
namespace Go.Proofs.YtbojijefenfbgaaGreatDoor
open Go.RowKit
namespace Tk
open Bt
def dF (n size k j : Nat) : Value := if size ≤ j + k then .int .u8 ((n / 256 ^ (size - 1 - j) % 256 : Nat) : Int) else .int .u8 0
theorem dF_step (n size k : Nat) (hk : k < size) (j : Nat) (hj : j < size) : (if j = size - 1 - k then Value.int .u8 ((n / 256 ^ k % 256 : Nat) : Int) else dF n size k j) = dF n size (k + 1) j := by
  unfold dF
  by_cases e : j = size - 1 - k
  · rw [if_pos e, if_pos (by omega), show size - 1 - j = k by omega]
  · rw [if_neg e]
    by_cases h : size ≤ j + k
    · rw [if_pos h, if_pos (by omega)]
    · rw [if_neg h, if_neg (by omega)]
theorem shr_byte (n k : Nat) : ((n : Int) / 2 ^ (8 * k)) % 256 = ((n / 256 ^ k % 256 : Nat) : Int) := by
  rw [Int.natCast_emod, Int.natCast_ediv, Int.natCast_pow, Int.pow_mul]
  rfl
set_option maxRecDepth 100000 in
set_option maxHeartbeats 400000 in
theorem digits_f (n size : Nat) (_hn : n < 4611686018427387904) (hs : size ≤ 8) (w : World) : Calls Tryz.prog 125 #[.int .i64 (n : Int), .int .i64 (size : Int)] w fun e w' => e = .returned (.string ⟨(hiB n size).toArray⟩) ∧ Below w.heap.size w w' := by
  obtain ⟨L, hL⟩ : ∃ L, L = hiB n size := ⟨_, rfl⟩
  have HL : Hid (L.length = size) := by
    rw [hL]
    exact hiB_len _ _
  have HLg : Hid (∀ j (h : j < L.length), (L[j]).toNat = n / 256 ^ (size - 1 - j) % 256) := by
    intro j h
    subst hL
    exact hiB_get _ _ _ _
  rw [← hL]
  clear hL
  go_enter Tryz.func125, Tryz.ntmps125
  go_wp2_with (at_make; refine Own.wpList_make_at _ rfl _ _ 145 rfl 5 (.int .u8 0) 1 Tryz.underlying145 info_u8 rfl .i64 .i64 _ _ size rfl rfl rfl rfl (by omega) (by omega) ?_)
  generalize hw0 : World.alloc _ _ = w0
  obtain ⟨g, hg⟩ : ∃ g, g = w.heap.size := ⟨_, rfl⟩
  have h0 := Dc.al1 hw0
  rw [← hg] at h0 ⊢
  have HR0 : Hid (w0.heap[g]? = some (.cells (Own.mkRow size (dF n size 0)) 5 (0, 0))) := h0.1.trans (congrArg (fun r => some (Obj.cells r 5 (0, 0))) (Own.mkRow_congr fun j hj => (if_neg (by omega)).symm))
  have HB0 : Hid _ := h0.2
  have HG : Hid (w.heap.size ≤ g) := Nat.le_of_eq hg.symm
  clear hg hw0 h0
  go_loopw [11] (fun i wq => ∃ k : Nat, k ≤ size ∧ i = .int .i64 (k : Int) ∧ wq.heap[g]? = some (.cells (Own.mkRow size (dF n size k)) 5 (0, 0)) ∧ Below g w wq) (fun i _ => size - (intOf i).toNat)
  case atStart => exact ⟨0, by omega, rfl, HR0.out, HB0.out⟩
  case round =>
    clear HR0 HB0
    rename World => wa
    obtain ⟨k, hk, rfl, hr, hb⟩ := hrel
    have HR : Hid _ := hr
    have HB : Hid _ := hb
    clear hr hb
    by_cases hks : k < size
    · have hc := Own.row_cell HR.out (size - 1 - k) (by omega)
      have hf := Own.row_frozen HR.out (size - 1 - k)
      have Hs : Hid _ := dF_step n size k hks
      have Hb : Hid _ := shr_byte n k
      go_wp2_with fail
      refine ⟨⟨k + 1, by omega, by rw [Int.natCast_add]; rfl, ?_, ?_⟩, ?_⟩
      · rw [Hb.out]
        exact (Own.row_store HR.out _ _).trans (congrArg (fun r => some (Obj.cells r 5 (0, 0))) (Own.mkRow_congr fun j hj => Hs.out j hj))
      · exact Dc.below_cell HB.out _ _ (Nat.le_refl _) _
      · show size - ((k : Int) + 1).toNat < size - (k : Int).toNat
        omega
    · obtain rfl : k = size := by omega
      have HC : Hid (∀ j (h : j < L.length), wa.cell? ⟨g, 0 + j, none⟩ = some (.int .u8 (L[j].toNat : Int))) := fun j hj => by
        have hj' : j < k := by have := HL.out; omega
        rw [Nat.zero_add, Own.row_cell HR.out j hj', HLg.out j hj, dF, if_pos (by omega)]
      have hll := HL.out
      clear HLg
      go_wp2_with (refine Own.wpList_string_at _ rfl _ 145 9 5 rfl Tryz.underlying145 Tryz.underlying5 Tryz.underlying9 g 0 k L (by rw [hll]; rfl) HC.out ?_)
      go_ret
      exact ⟨rfl, HB.out.mono HG.out⟩
theorem oct_wf (v : Nat) : ((UInt8.ofNat (v % 256)).toNat : Int) = ((v % 256 : Nat) : Int) := by simp
theorem one_byte {w : World} {o : Oper} {a : Act} {B : Nat} (x : Operand) (ho : o.op = .buildSlice 145 1 #[(0, x)]) (v : Int) (hx : a.eval x = .int .u8 v) (hB : B ≤ w.heap.size) : Qt.UponR Tryz.prog w (Ap.OneAt B 5 [.int .u8 v]) ((execOp a.eval o).run Tryz.prog w) :=
  Gw.rel_slice 145 5 1 _ ho #[.int .u8 v] (.int .u8 0) 1 1 Tryz.underlying145 info_u8 (by decide) (by decide) [(0, .int .u8 v)] (by simp [hx]) (by kernel_rfl) ⟨w.heap.size, rfl, hB, heap_alloc_new _ _⟩
theorem byte_string {w : World} {u : Value} {B : Nat} {c : Int} (b : UInt8) (hc : (b.toNat : Int) = c) (h : Ap.OneAt B 5 [.int .u8 c] u w) : Sem.run Tryz.prog (convert 145 9 u) w = .ok (.string ⟨#[b]⟩) w := by
  obtain ⟨g, rfl, _, hg⟩ := h
  refine Own.run_string_at w 145 9 5 Tryz.underlying145 Tryz.underlying5 Tryz.underlying9 g 0 1 1 [b] rfl fun j hj => ?_
  obtain rfl : j = 0 := by simpa using hj
  rw [cell_of_row w g _ _ _ _ hg, ← hc]
  rfl
set_option maxRecDepth 100000 in
set_option maxHeartbeats 400000 in
theorem high_f (n : Nat) : ∀ (v : Nat) (_ : v < 4611686018427387904) (_ : n ≤ 8) (w : World), Calls Tryz.prog 61 #[.int .i64 (v : Int), .int .i64 (n : Int)] w fun e w' => e = .returned (.string ⟨(hiB v n).toArray⟩) ∧ Below w.heap.size w w' := by
  induction n with
  | zero =>
    intro v hv hn w
    go_enter Tryz.func61, Tryz.ntmps61
    go_wp2_with fail
    exact bodyPost_ret (v := .string ⟨#[]⟩) (by simp [results, Tryz.results61, go_sem]) rfl ⟨rfl, Below.refl _ _⟩
  | succ n ih =>
    intro v hv hn w
    have Hih : Hid (∀ w, Calls Tryz.prog 61 #[.int .i64 ((v / 256 : Nat) : Int), .int .i64 (n : Int)] w fun e w' => e = .returned (.string ⟨(hiB (v / 256) n).toArray⟩) ∧ Below w.heap.size w w') := ih (v / 256) (by omega) (by omega)
    have hll := hiB_len (v / 256) n
    clear ih
    have hn1 : ¬ ((n + 1 : Nat) : Int) = 0 := by omega
    go_enter Tryz.func61, Tryz.ntmps61
    go_wp2_with fail
    obtain ⟨c, hcv⟩ : ∃ c, c = ((v % 256 : Nat) : Int) := ⟨_, rfl⟩
    have hcb : 0 ≤ c ∧ c < 256 := by omega
    have Hb : Hid (((UInt8.ofNat (v % 256)).toNat : Int) = c) := by rw [hcv]; exact oct_wf v
    obtain ⟨b, hbv⟩ : ∃ b, b = UInt8.ofNat (v % 256) := ⟨_, rfl⟩
    obtain ⟨hs, hhs⟩ : ∃ h, h = hiB (v / 256) n := ⟨_, rfl⟩
    have Hhi : Hid (hiB v (n + 1) = hs ++ [b]) := by rw [hhs, hbv]; rfl
    have hx1 := Gw.app_str hs [b]
    rw [← hbv] at Hb
    rw [← hhs] at Hih hll
    have Hcv : Hid (c = ((v % 256 : Nat) : Int)) := hcv
    clear hhs hbv hcv
    refine Qt.wp_seqd 11 (Qt.rl [Qt.pu (.int .i64 (v : Int)), Qt.pu (.int .i64 ((v / 256 : Nat) : Int)), Qt.pu (.int .i64 ((n + 1 : Nat) : Int)), Qt.pu (.int .i64 (n : Int)), Qt.pu (.string ⟨hs.toArray⟩), Qt.pu (.int .i64 (v : Int)), Qt.pu (.int .i64 c), Qt.pu (.int .u8 c), Ap.OneAt w.heap.size 5 [.int .u8 c], Qt.pu (.string ⟨#[b]⟩), Qt.pu (.string ⟨(hs ++ [b]).toArray⟩)]) (by kernel_rfl) (by kernel_rfl) (Qt.rl_lasts ?_) ?_
    · intro r hr
      simp only [List.mem_cons, List.not_mem_nil, or_false] at hr
      rcases hr with rfl | rfl | rfl | rfl | rfl | rfl | rfl | rfl | rfl | rfl | rfl
      case inr.inr.inr.inr.inr.inr.inr.inr.inl => exact Ap.OneAt.lasts
      all_goals exact Qt.pu_lasts _
    simp only [List.take_succ_cons, List.take_zero]
    refine Qt.s_pu _ rfl (fun w' _ _ => Qt.upon_val (by kernel_rfl)) ?_
    simp only [Act.put, List.setIfInBounds_toArray, List.set_cons_zero, List.set_cons_succ]
    refine Qt.s_pu _ rfl (fun w' _ _ => Qt.upon_val (by go_simp; exact IntWalk.i64_in _ ⟨by omega, by omega⟩)) ?_
    simp only [Act.put, List.setIfInBounds_toArray, List.set_cons_zero, List.set_cons_succ]
    refine Qt.s_pu _ rfl (fun w' _ _ => Qt.upon_val (by kernel_rfl)) ?_
    simp only [Act.put, List.setIfInBounds_toArray, List.set_cons_zero, List.set_cons_succ]
    refine Qt.s_pu _ rfl (fun w' _ _ => Qt.upon_val (by go_simp; exact IntWalk.i64_in _ ⟨by omega, by omega⟩)) ?_
    simp only [Act.put, List.setIfInBounds_toArray, List.set_cons_zero, List.set_cons_succ]
    refine Qt.s_pu _ rfl (fun w' _ _ => Qt.upon_call 61 #[.int .i64 ((v / 256 : Nat) : Int), .int .i64 (n : Int)] (by kernel_rfl) (Hih.out w')) ?_
    simp only [Act.put, List.setIfInBounds_toArray, List.set_cons_zero, List.set_cons_succ]
    refine Qt.s_pu _ rfl (fun w' _ _ => Qt.upon_val (by kernel_rfl)) ?_
    simp only [Act.put, List.setIfInBounds_toArray, List.set_cons_zero, List.set_cons_succ]
    refine Qt.s_pu _ rfl (fun w' _ _ => Qt.upon_val (by go_simp; rw [Int.tmod_eq_emod_of_nonneg (by omega), Hcv.out]; omega)) ?_
    simp only [Act.put, List.setIfInBounds_toArray, List.set_cons_zero, List.set_cons_succ]
    refine Qt.s_pu _ rfl (fun w' _ _ => Qt.upon_val (by go_simp; exact IntWalk.u8_in _ ⟨by omega, by omega⟩)) ?_
    simp only [Act.put, List.setIfInBounds_toArray, List.set_cons_zero, List.set_cons_succ]
    refine Qt.s_any (fun w' hw' _ => one_byte _ rfl c rfl hw'.size) ?_
    intro u8
    simp only [Act.put, List.setIfInBounds_toArray, List.set_cons_zero, List.set_cons_succ]
    refine Qt.s_pu _ rfl (fun w' hw' hF => Qt.upon_val ?_) ?_
    · have hone : Ap.OneAt w.heap.size 5 [.int .u8 c] u8 w' := (hF 8 (by kernel_rfl)).2 rfl
      have hr := byte_string b Hb.out hone
      show Sem.run Tryz.prog (convert 145 9 u8 >>= fun v => pure (Next.value v)) w' = _
      rw [Sem.run_bind, hr]
      rfl
    simp only [Act.put, List.setIfInBounds_toArray, List.set_cons_zero, List.set_cons_succ]
    refine Qt.s_pu _ rfl (fun w' _ _ => Qt.upon_val (by go_simp; omega)) ?_
    simp only [Act.put, List.setIfInBounds_toArray, List.set_cons_zero, List.set_cons_succ]
    refine Qt.s_nil ?_
    intro w1 hb1 _
    have HB1 : Hid (Below w.heap.size w w1) := hb1
    clear hb1
    simp only [List.drop_succ_cons, List.drop_zero]
    go_wp2_with fail
    exact bodyPost_ret (v := .string ⟨(hs ++ [b]).toArray⟩) (by simp [results, Tryz.results61, go_sem]) rfl ⟨by rw [Hhi.out], HB1.out⟩
end Tk
end Go.Proofs.YtbojijefenfbgaaGreatDoor
namespace Go.Proofs.YtbojijefenfbgaaGreatDoor
open Go.RowKit
namespace Tk
open Bt Gw
theorem load_int (w : World) (b off : Nat) (v : Value) (h : w.cell? ⟨b, off, none⟩ = some v) : (loadVar 3 ⟨b, off, none⟩).run Tryz.prog w = .ok v w := by
  have h1 := run_underlying (P := Tryz.prog) Tryz.underlying3 w
  simp [loadVar, go_sem, h]
/-- A number loaded. -/
theorem y_int {W : World} {K : Act → Prop} {l : List Oper} {o : Oper} {a : Act} (hg : o.guard = none) (x : Operand) (ho : o.op = .load 3 x) (b off : Nat) (v : Value) (hx : a.eval x = .pointer (some ⟨b, off, none⟩)) (hb : b < W.heap.size) (hc : W.cell? ⟨b, off, none⟩ = some v)
    (h : Qt.Lex Tryz.prog W K l (a.put o.dst v)) : Qt.Lex Tryz.prog W K (o :: l) a := by
  refine Qt.y_val hg v (fun w' hw' => ?_) h
  have h1 := load_int w' b off v (by rw [hw'.cell (by exact hb)]; exact hc)
  unfold execOp
  simp only [ho, hx, Instr.loadAt, Instr.sureAddr, Sem.run_bind, Sem.run_pure, Result.andThen_ok, h1]
/-- Two strings joined. -/
theorem y_cat {W : World} {K : Act → Prop} {l : List Oper} {o : Oper} {a : Act} (hg : o.guard = none) (x y : Operand) (ho : o.op = .binOp .add 9 x y 9) (s t r : List UInt8) (hr : s ++ t = r) (hx : a.eval x = .string ⟨s.toArray⟩) (hy : a.eval y = .string ⟨t.toArray⟩) (hl : s.length + t.length ≤ 1000000000000)
    (h : Qt.Lex Tryz.prog W K l (a.put o.dst (.string ⟨r.toArray⟩))) : Qt.Lex Tryz.prog W K (o :: l) a := by
  refine Qt.y_val hg _ (fun w' _ => ?_) h
  have hc := app_str s t
  rw [hr] at hc
  clear h hr
  obtain ⟨dst, op, ty, pos, aft, gd⟩ := o
  simp only at ho
  subst ho
  unfold execOp
  simp only [hx, hy]
  go_simp
  omega
/-- A ticket. -/
def tk (e s c : Int) : Array Value := #[.int .i64 e, .int .i64 s, .int .i64 c]
def tText (e s c : Nat) : List UInt8 := [84] ++ hiB e 2 ++ hiB s 4 ++ hiB c 1
def oText (e : Nat) : List UInt8 := [67] ++ hiB e 2
theorem signed_f (l t : List UInt8) (hl : l.length = 32) (htl : t.length ≤ 900000000) (w : World) (ht : Hs.TabAt w) : Calls Tryz.prog 124 #[.string ⟨l.toArray⟩, .string ⟨t.toArray⟩] w fun e w' => e = .returned (.string ⟨(t ++ sigB l t).toArray⟩) ∧ Below w.heap.size w w' := by
  have Hk : Hid (∀ w, Hs.TabAt w → Calls Tryz.prog 54 #[.string ⟨l.toArray⟩, .string ⟨t.toArray⟩] w fun e w' => e = .returned (.string ⟨(sigB l t).toArray⟩) ∧ Below w.heap.size w w') := fun w ht => sign_f l t (by omega) htl w ht
  have hsl := sig_len l t
  obtain ⟨sb, hsb⟩ : ∃ k, k = sigB l t := ⟨_, rfl⟩
  rw [← hsb] at Hk hsl ⊢
  have hx := app_str t sb
  have Ht : Hid (Hs.TabAt w) := ht
  have hs' : (sb.length : Int) = 64 := by omega
  clear hsb ht hl
  go_enter Tryz.func124, Tryz.ntmps124
  go_wp2_with fail
  refine (Hk.out _ Ht.out).mono ?_
  rintro _ w1 ⟨rfl, hb1⟩
  have HB1 : Hid (Below w.heap.size w w1) := hb1
  clear hb1
  go_wp2_with fail
  exact bodyPost_ret (v := .string ⟨(t ++ sb).toArray⟩) (by simp [results, Tryz.results124, go_sem]) rfl ⟨rfl, HB1.out⟩
theorem t_len (e s c : Nat) : (tText e s c).length = 8 := by simp [tText, hiB_len]
set_option maxRecDepth 100000 in
set_option maxHeartbeats 400000 in
theorem pTicket_f (l : List UInt8) (hl : l.length = 32) (e s c : Nat) (he : e ≤ 65535) (hs : s ≤ 4294967295) (hc : c ≤ 255) (w : World) (ht : Hs.TabAt w) : Calls Tryz.prog 59 #[.string ⟨l.toArray⟩, .agg (tk e s c)] w fun x w' => x = .returned (.string ⟨(tText e s c ++ sigB l (tText e s c)).toArray⟩) ∧ Below w.heap.size w w' := by
  have Hd1 : Hid (∀ w, Calls Tryz.prog 125 #[.int .i64 (e : Int), .int .i64 2] w fun e' w' => e' = .returned (.string ⟨(hiB e 2).toArray⟩) ∧ Below w.heap.size w w') := digits_f e 2 (by omega) (by decide)
  have Hd2 : Hid (∀ w, Calls Tryz.prog 125 #[.int .i64 (s : Int), .int .i64 4] w fun e' w' => e' = .returned (.string ⟨(hiB s 4).toArray⟩) ∧ Below w.heap.size w w') := digits_f s 4 (by omega) (by decide)
  have Hd3 : Hid (∀ w, Calls Tryz.prog 125 #[.int .i64 (c : Int), .int .i64 1] w fun e' w' => e' = .returned (.string ⟨(hiB c 1).toArray⟩) ∧ Below w.heap.size w w') := digits_f c 1 (by omega) (by decide)
  have h1 := hiB_len e 2
  have h2 := hiB_len s 4
  have h3 := hiB_len c 1
  obtain ⟨d1, hd1⟩ : ∃ d, d = hiB e 2 := ⟨_, rfl⟩
  obtain ⟨d2, hd2⟩ : ∃ d, d = hiB s 4 := ⟨_, rfl⟩
  obtain ⟨d3, hd3⟩ : ∃ d, d = hiB c 1 := ⟨_, rfl⟩
  obtain ⟨r, hr⟩ : ∃ r, r = tText e s c ++ sigB l (tText e s c) := ⟨_, rfl⟩
  obtain ⟨t1, ht1⟩ : ∃ t, t = [84] ++ d1 := ⟨_, rfl⟩
  obtain ⟨t2, ht2⟩ : ∃ t, t = t1 ++ d2 := ⟨_, rfl⟩
  obtain ⟨t3, ht3⟩ : ∃ t, t = t2 ++ d3 := ⟨_, rfl⟩
  have e3 : tText e s c = t3 := by rw [ht3, ht2, ht1, hd1, hd2, hd3]; rfl
  have Hsg : Hid (∀ w, Hs.TabAt w → Calls Tryz.prog 124 #[.string ⟨l.toArray⟩, .string ⟨t3.toArray⟩] w fun e w' => e = .returned (.string ⟨r.toArray⟩) ∧ Below w.heap.size w w') := by
    intro w ht
    rw [hr, e3]
    exact signed_f l t3 hl (by rw [← e3, t_len]; decide) w ht
  have hl1 : t1.length = 3 := by rw [ht1, hd1]; simp [hiB_len]
  have hl2 : t2.length = 7 := by rw [ht2, hd2]; simp [hiB_len, hl1]
  have Ht1 : Hid ([84] ++ d1 = t1) := ht1.symm
  have Ht2 : Hid (t1 ++ d2 = t2) := ht2.symm
  have Ht3 : Hid (t2 ++ d3 = t3) := ht3.symm
  clear ht1 ht2 ht3 e3
  rw [← hr]
  rw [← hd1] at Hd1 h1
  rw [← hd2] at Hd2 h2
  rw [← hd3] at Hd3 h3
  have Ht : Hid (Hs.TabAt w) := ht
  clear hd1 hd2 hd3 hr ht hl he hs hc
  go_enter Tryz.func59, Tryz.ntmps59
  go_wp2_with fail
  generalize hw0 : World.alloc _ _ = w0
  have h0 := Dc.al1 hw0
  have HT0 : Hid (w0.heap[w.heap.size]? = some (.cells (tk e s c) 45 (0, 0))) := h0.1
  have HB0 : Hid _ := h0.2
  have Ht0 : Hid (Hs.TabAt w0) := Ht.out.below h0.2 Ht.out.lt
  have Hlt : Hid (w.heap.size < w0.heap.size) := (Array.getElem?_eq_some_iff.1 HT0.out).1
  clear hw0 h0
  refine Qt.wp_tail 14 (by kernel_rfl) (by kernel_rfl) ?_
  refine Qt.y_val rfl (.string ⟨l.toArray⟩) (fun _ _ => by kernel_rfl) ?_
  refine Qt.y_val rfl (.pointer (some ⟨w.heap.size, 0, none⟩)) (fun _ _ => by kernel_rfl) ?_
  refine y_int rfl _ rfl w.heap.size 0 (.int .i64 (e : Int)) rfl Hlt.out (cell_of_row _ _ _ _ _ _ HT0.out) ?_
  simp only [Act.put, List.setIfInBounds_toArray, List.set_cons_zero, List.set_cons_succ]
  refine Qt.y_call rfl 125 #[.int .i64 (e : Int), .int .i64 2] (.string ⟨d1.toArray⟩) (fun _ => by kernel_rfl) (fun w' _ => Hd1.out w') ?_
  simp only [Act.put, List.setIfInBounds_toArray, List.set_cons_zero, List.set_cons_succ]
  refine y_cat rfl _ _ rfl [84] d1 t1 Ht1.out rfl rfl (by simp; omega) ?_
  simp only [Act.put, List.setIfInBounds_toArray, List.set_cons_zero, List.set_cons_succ]
  refine Qt.y_val rfl (.pointer (some ⟨w.heap.size, 1, none⟩)) (fun _ _ => by kernel_rfl) ?_
  refine y_int rfl _ rfl w.heap.size 1 (.int .i64 (s : Int)) rfl Hlt.out (cell_of_row _ _ _ _ _ _ HT0.out) ?_
  simp only [Act.put, List.setIfInBounds_toArray, List.set_cons_zero, List.set_cons_succ]
  refine Qt.y_call rfl 125 #[.int .i64 (s : Int), .int .i64 4] (.string ⟨d2.toArray⟩) (fun _ => by kernel_rfl) (fun w' _ => Hd2.out w') ?_
  simp only [Act.put, List.setIfInBounds_toArray, List.set_cons_zero, List.set_cons_succ]
  refine y_cat rfl _ _ rfl t1 d2 t2 Ht2.out rfl rfl (by omega) ?_
  simp only [Act.put, List.setIfInBounds_toArray, List.set_cons_zero, List.set_cons_succ]
  refine Qt.y_val rfl (.pointer (some ⟨w.heap.size, 2, none⟩)) (fun _ _ => by kernel_rfl) ?_
  refine y_int rfl _ rfl w.heap.size 2 (.int .i64 (c : Int)) rfl Hlt.out (cell_of_row _ _ _ _ _ _ HT0.out) ?_
  simp only [Act.put, List.setIfInBounds_toArray, List.set_cons_zero, List.set_cons_succ]
  refine Qt.y_call rfl 125 #[.int .i64 (c : Int), .int .i64 1] (.string ⟨d3.toArray⟩) (fun _ => by kernel_rfl) (fun w' _ => Hd3.out w') ?_
  simp only [Act.put, List.setIfInBounds_toArray, List.set_cons_zero, List.set_cons_succ]
  refine y_cat rfl _ _ rfl t2 d3 t3 Ht3.out rfl rfl (by omega) ?_
  simp only [Act.put, List.setIfInBounds_toArray, List.set_cons_zero, List.set_cons_succ]
  refine Qt.y_call rfl 124 #[.string ⟨l.toArray⟩, .string ⟨t3.toArray⟩] (.string ⟨r.toArray⟩) (fun _ => by kernel_rfl) (fun w' hw' => Hsg.out w' (Ht0.out.below hw' Ht0.out.lt)) ?_
  simp only [Act.put, List.setIfInBounds_toArray, List.set_cons_zero, List.set_cons_succ]
  refine Qt.y_nil ?_
  intro w1 hb1
  have HB1 : Hid (Below w.heap.size w w1) := HB0.out.trans (hb1.mono HB0.out.size)
  clear hb1
  simp only [List.drop_succ_cons, List.drop_zero]
  go_wp2_with fail
  exact bodyPost_ret (v := .string ⟨r.toArray⟩) (by simp [results, Tryz.results59, go_sem]) rfl ⟨rfl, HB1.out⟩
end Tk
end Go.Proofs.YtbojijefenfbgaaGreatDoor
namespace Go.Proofs.YtbojijefenfbgaaGreatDoor
open Go.RowKit
namespace Tk
open Bt Gw
theorem o_len (e : Nat) : (oText e).length = 3 := by simp [oText, hiB_len]
set_option maxHeartbeats 400000 in
theorem pOrder_f (l : List UInt8) (hl : l.length = 32) (e : Nat) (he : e ≤ 65535) (w : World) (ht : Hs.TabAt w) : Calls Tryz.prog 63 #[.string ⟨l.toArray⟩, .int .i64 (e : Int)] w fun x w' => x = .returned (.string ⟨(oText e ++ sigB l (oText e)).toArray⟩) ∧ Below w.heap.size w w' := by
  have Hd1 : Hid (∀ w, Calls Tryz.prog 125 #[.int .i64 (e : Int), .int .i64 2] w fun e' w' => e' = .returned (.string ⟨(hiB e 2).toArray⟩) ∧ Below w.heap.size w w') := digits_f e 2 (by omega) (by decide)
  have h1 := hiB_len e 2
  obtain ⟨d1, hd1⟩ : ∃ d, d = hiB e 2 := ⟨_, rfl⟩
  obtain ⟨t1, ht1⟩ : ∃ t, t = [67] ++ d1 := ⟨_, rfl⟩
  have e3 : oText e = t1 := by rw [ht1, hd1]; rfl
  obtain ⟨r, hr⟩ : ∃ r, r = oText e ++ sigB l (oText e) := ⟨_, rfl⟩
  have Hsg : Hid (∀ w, Hs.TabAt w → Calls Tryz.prog 124 #[.string ⟨l.toArray⟩, .string ⟨t1.toArray⟩] w fun e w' => e = .returned (.string ⟨r.toArray⟩) ∧ Below w.heap.size w w') := by
    intro w ht
    rw [hr, e3]
    exact signed_f l t1 hl (by rw [← e3, o_len]; decide) w ht
  rw [← hr]
  rw [← hd1] at Hd1 h1
  have hx := app_str [67] d1
  rw [← ht1] at hx
  have hx : (⟨#[67]⟩ : ByteArray) ++ ⟨d1.toArray⟩ = ⟨t1.toArray⟩ := hx
  have h1' : (d1.length : Int) = 2 := by omega
  have Ht : Hid (Hs.TabAt w) := ht
  clear hd1 hr ht hl he ht1 e3
  go_enter Tryz.func63, Tryz.ntmps63
  go_wp2_with fail
  refine (Hd1.out _).mono ?_
  rintro _ w1 ⟨rfl, hb1⟩
  have HB1 : Hid (Below w.heap.size w w1) := hb1
  have Ht1 : Hid (Hs.TabAt w1) := Ht.out.below HB1.out Ht.out.lt
  clear hb1
  go_wp2_with fail
  refine (Hsg.out _ Ht1.out).mono ?_
  rintro _ w2 ⟨rfl, hb2⟩
  have HB2 : Hid (Below w.heap.size w w2) := HB1.out.trans (hb2.mono HB1.out.size)
  clear hb2
  go_wp2_with fail
  exact bodyPost_ret (v := .string ⟨r.toArray⟩) (by simp [results, Tryz.results63, go_sem]) rfl ⟨rfl, HB2.out⟩
/-- What Ticket answers. -/
noncomputable def tAns (l : List UInt8) (e s c : Int) : ByteArray × Int :=
  if l.length = 32 then if bet 0 e 65535 && bet 0 s 4294967295 && bet 0 c 255 then (⟨(tText e.toNat s.toNat c.toNat ++ sigB l (tText e.toNat s.toNat c.toNat)).toArray⟩, 0) else (⟨#[]⟩, 2) else (⟨#[]⟩, 1)
noncomputable def oAns (l : List UInt8) (e : Int) : ByteArray × Int :=
  if l.length = 32 then if bet 0 e 65535 then (⟨(oText e.toNat ++ sigB l (oText e.toNat)).toArray⟩, 0) else (⟨#[]⟩, 2) else (⟨#[]⟩, 1)
theorem bet_nat {n hi : Int} (h : bet 0 n hi = true) : n = (n.toNat : Int) ∧ n ≤ hi := by
  simp [bet] at h
  omega
set_option maxRecDepth 100000 in
set_option maxHeartbeats 400000 in
theorem ticket_f (l : List UInt8) (e s c : Int) (w : World) (ht : Hs.TabAt w) : Calls Tryz.prog 18 #[.string ⟨l.toArray⟩, .agg (tk e s c)] w fun x w' => x = .returned (.tuple #[.string (tAns l e s c).1, .int .i64 (tAns l e s c).2]) ∧ Below w.heap.size w w' := by
  by_cases hl : l.length = 32
  · have hli : (l.length : Int) = 32 := by omega
    have HA : Hid (tAns l e s c = if bet 0 e 65535 && bet 0 s 4294967295 && bet 0 c 255 then (⟨(tText e.toNat s.toNat c.toNat ++ sigB l (tText e.toNat s.toNat c.toNat)).toArray⟩, 0) else (⟨#[]⟩, 2)) := if_pos hl
    have H1 : Hid _ := epoch_f e
    have H2 : Hid _ := serial_f s
    have H3 : Hid _ := class_f c
    have HT : Hid (bet 0 e 65535 = true → bet 0 s 4294967295 = true → bet 0 c 255 = true → ∀ w, Hs.TabAt w → Calls Tryz.prog 59 #[.string ⟨l.toArray⟩, .agg (tk e s c)] w fun x w' => x = .returned (.string ⟨(tText e.toNat s.toNat c.toNat ++ sigB l (tText e.toNat s.toNat c.toNat)).toArray⟩) ∧ Below w.heap.size w w') := by
      intro h1 h2 h3 w ht
      obtain ⟨e1, g1⟩ := bet_nat h1
      obtain ⟨e2, g2⟩ := bet_nat h2
      obtain ⟨e3, g3⟩ := bet_nat h3
      have h := pTicket_f l hl e.toNat s.toNat c.toNat (by omega) (by omega) (by omega) w ht
      rw [← e1, ← e2, ← e3] at h
      exact h
    rw [HA.out]
    obtain ⟨r, hr⟩ : ∃ r, r = (tText e.toNat s.toNat c.toNat ++ sigB l (tText e.toNat s.toNat c.toNat)).toArray := ⟨_, rfl⟩
    rw [← hr] at HT ⊢
    have Ht : Hid (Hs.TabAt w) := ht
    clear hl hr HA ht
    generalize bet 0 e 65535 = b1 at *
    generalize bet 0 s 4294967295 = b2 at *
    generalize bet 0 c 255 = b3 at *
    have HB0 : Hid (Below w.heap.size w (w.alloc (.cells (tk e s c) 45))) := (Below.refl _ _).alloc (Nat.le_refl _) _
    have Ht0 : Hid (Hs.TabAt (w.alloc (.cells (tk e s c) 45))) := Ht.out.below HB0.out Ht.out.lt
    unfold tk at *
    cases b1
    · go_enter Tryz.func18, Tryz.ntmps18
      go_wp2_with (go_at_call 56; refine (H1.out _).mono ?_; rintro _ _ ⟨rfl, rfl⟩)
      exact bodyPost_ret (v := .tuple #[.string ⟨#[]⟩, .int .i64 2]) (by simp [results, Tryz.results18, go_sem]) rfl ⟨by simp, HB0.out⟩
    · cases b2
      · go_enter Tryz.func18, Tryz.ntmps18
        go_wp2_with (first | (go_at_call 56; refine (H1.out _).mono ?_; rintro _ _ ⟨rfl, rfl⟩) | (go_at_call 57; refine (H2.out _).mono ?_; rintro _ _ ⟨rfl, rfl⟩))
        exact bodyPost_ret (v := .tuple #[.string ⟨#[]⟩, .int .i64 2]) (by simp [results, Tryz.results18, go_sem]) rfl ⟨by simp, HB0.out⟩
      · cases b3
        · go_enter Tryz.func18, Tryz.ntmps18
          go_wp2_with (first | (go_at_call 56; refine (H1.out _).mono ?_; rintro _ _ ⟨rfl, rfl⟩) | (go_at_call 57; refine (H2.out _).mono ?_; rintro _ _ ⟨rfl, rfl⟩) | (go_at_call 58; refine (H3.out _).mono ?_; rintro _ _ ⟨rfl, rfl⟩))
          exact bodyPost_ret (v := .tuple #[.string ⟨#[]⟩, .int .i64 2]) (by simp [results, Tryz.results18, go_sem]) rfl ⟨by simp, HB0.out⟩
        · have HT' : Hid _ := HT.out rfl rfl rfl
          clear HT
          go_enter Tryz.func18, Tryz.ntmps18
          go_wp2_with (first | (go_at_call 56; refine (H1.out _).mono ?_; rintro _ _ ⟨rfl, rfl⟩) | (go_at_call 57; refine (H2.out _).mono ?_; rintro _ _ ⟨rfl, rfl⟩) | (go_at_call 58; refine (H3.out _).mono ?_; rintro _ _ ⟨rfl, rfl⟩))
          refine (HT'.out _ Ht0.out).mono ?_
          rintro _ w1 ⟨rfl, hb1⟩
          have HB1 : Hid (Below w.heap.size w w1) := HB0.out.trans (hb1.mono HB0.out.size)
          clear hb1
          go_wp2_with fail
          exact bodyPost_ret (v := .tuple #[.string ⟨r⟩, .int .i64 0]) (by simp [results, Tryz.results18, go_sem]) rfl ⟨by simp, HB1.out⟩
  · have hli : (l.length : Int) ≠ 32 := by omega
    have HA : Hid (tAns l e s c = (⟨#[]⟩, 1)) := if_neg hl
    rw [HA.out]
    clear hl HA ht
    have HB0 : Hid (Below w.heap.size w (w.alloc (.cells (tk e s c) 45))) := (Below.refl _ _).alloc (Nat.le_refl _) _
    go_enter Tryz.func18, Tryz.ntmps18
    go_wp2_with fail
    exact bodyPost_ret (v := .tuple #[.string ⟨#[]⟩, .int .i64 1]) (by simp [results, Tryz.results18, go_sem]) rfl ⟨by simp, HB0.out⟩
theorem order_f (l : List UInt8) (e : Int) (w : World) (ht : Hs.TabAt w) : Calls Tryz.prog 20 #[.string ⟨l.toArray⟩, .int .i64 e] w fun x w' => x = .returned (.tuple #[.string (oAns l e).1, .int .i64 (oAns l e).2]) ∧ Below w.heap.size w w' := by
  by_cases hl : l.length = 32
  · have hli : (l.length : Int) = 32 := by omega
    have HA : Hid (oAns l e = if bet 0 e 65535 then (⟨(oText e.toNat ++ sigB l (oText e.toNat)).toArray⟩, 0) else (⟨#[]⟩, 2)) := if_pos hl
    have H1 : Hid _ := epoch_f e
    have HT : Hid (bet 0 e 65535 = true → ∀ w, Hs.TabAt w → Calls Tryz.prog 63 #[.string ⟨l.toArray⟩, .int .i64 e] w fun x w' => x = .returned (.string ⟨(oText e.toNat ++ sigB l (oText e.toNat)).toArray⟩) ∧ Below w.heap.size w w') := by
      intro h1 w ht
      obtain ⟨e1, g1⟩ := bet_nat h1
      have h := pOrder_f l hl e.toNat (by omega) w ht
      rw [← e1] at h
      exact h
    rw [HA.out]
    obtain ⟨r, hr⟩ : ∃ r, r = (oText e.toNat ++ sigB l (oText e.toNat)).toArray := ⟨_, rfl⟩
    rw [← hr] at HT ⊢
    have Ht : Hid (Hs.TabAt w) := ht
    clear hl hr HA ht
    generalize bet 0 e 65535 = b1 at *
    cases b1
    · go_enter Tryz.func20, Tryz.ntmps20
      go_wp2_with (go_at_call 56; refine (H1.out _).mono ?_; rintro _ _ ⟨rfl, hww⟩; obtain rfl := hww.symm)
      exact bodyPost_ret (v := .tuple #[.string ⟨#[]⟩, .int .i64 2]) (by simp [results, Tryz.results20, go_sem]) rfl ⟨by simp, Below.refl _ _⟩
    · have HT' : Hid _ := HT.out rfl
      clear HT
      go_enter Tryz.func20, Tryz.ntmps20
      go_wp2_with (go_at_call 56; refine (H1.out _).mono ?_; rintro _ _ ⟨rfl, hww⟩; obtain rfl := hww.symm)
      refine (HT'.out _ Ht.out).mono ?_
      rintro _ w1 ⟨rfl, hb1⟩
      have HB1 : Hid (Below w.heap.size w w1) := hb1
      clear hb1
      go_wp2_with fail
      exact bodyPost_ret (v := .tuple #[.string ⟨r⟩, .int .i64 0]) (by simp [results, Tryz.results20, go_sem]) rfl ⟨by simp, HB1.out⟩
  · have hli : (l.length : Int) ≠ 32 := by omega
    have HA : Hid (oAns l e = (⟨#[]⟩, 1)) := if_neg hl
    rw [HA.out]
    clear hl HA ht
    go_enter Tryz.func20, Tryz.ntmps20
    go_wp2_with fail
    exact bodyPost_ret (v := .tuple #[.string ⟨#[]⟩, .int .i64 1]) (by simp [results, Tryz.results20, go_sem]) rfl ⟨by simp, Below.refl _ _⟩
end Tk
end Go.Proofs.YtbojijefenfbgaaGreatDoor
namespace Go.Proofs.YtbojijefenfbgaaGreatDoor
open Go.RowKit
namespace Tk
open Bt Gw
set_option maxRecDepth 100000 in
set_option maxHeartbeats 400000 in
theorem refTicket_f (l : List UInt8) (e s c : Int) (w : World) : Calls Tryz.prog 19 #[.string ⟨l.toArray⟩, .agg (tk e s c)] w fun x w' => x = .returned (.tuple #[.string (tAns l e s c).1, .int .i64 (tAns l e s c).2]) ∧ Below w.heap.size w w' := by
  have HI : Hid _ := in_f
  have HB0 : Hid (Below w.heap.size w (w.alloc (.cells (tk e s c) 45))) := (Below.refl _ _).alloc (Nat.le_refl _) _
  have HT0 : Hid ((w.alloc (.cells (tk e s c) 45)).heap[w.heap.size]? = some (.cells (tk e s c) 45 (0, 0))) := heap_alloc_new _ _
  by_cases hl : l.length = 32
  · have hli : (l.length : Int) = 32 := by omega
    have HA : Hid (tAns l e s c = if bet 0 e 65535 && bet 0 s 4294967295 && bet 0 c 255 then (⟨(tText e.toNat s.toNat c.toNat ++ sigB l (tText e.toNat s.toNat c.toNat)).toArray⟩, 0) else (⟨#[]⟩, 2)) := if_pos hl
    rw [HA.out]
    have Hl : Hid _ := hl
    clear HA hl
    by_cases hall : bet 0 e 65535 = true ∧ bet 0 s 4294967295 = true ∧ bet 0 c 255 = true
    · obtain ⟨h1, h2, h3⟩ := hall
      obtain ⟨e1, g1⟩ := bet_nat h1
      obtain ⟨e2, g2⟩ := bet_nat h2
      obtain ⟨e3, g3⟩ := bet_nat h3
      rw [h1, h2, h3]
      obtain ⟨en, hen⟩ : ∃ n, n = e.toNat := ⟨_, rfl⟩
      obtain ⟨sn, hsn⟩ : ∃ n, n = s.toNat := ⟨_, rfl⟩
      obtain ⟨cn, hcn⟩ : ∃ n, n = c.toNat := ⟨_, rfl⟩
      rw [← hen] at e1
      rw [← hsn] at e2
      rw [← hcn] at e3
      rw [← hen, ← hsn, ← hcn]
      subst e1 e2 e3
      have hb1 : bet 0 (en : Int) 65535 = true := h1
      have hb2 : bet 0 (sn : Int) 4294967295 = true := h2
      have hb3 : bet 0 (cn : Int) 255 = true := h3
      clear hen hsn hcn h1 h2 h3
      have Hd1 : Hid (∀ w, Calls Tryz.prog 61 #[.int .i64 (en : Int), .int .i64 2] w fun e' w' => e' = .returned (.string ⟨(hiB en 2).toArray⟩) ∧ Below w.heap.size w w') := high_f 2 en (by omega) (by decide)
      have Hd2 : Hid (∀ w, Calls Tryz.prog 61 #[.int .i64 (sn : Int), .int .i64 4] w fun e' w' => e' = .returned (.string ⟨(hiB sn 4).toArray⟩) ∧ Below w.heap.size w w') := high_f 4 sn (by omega) (by decide)
      have Hd3 : Hid (∀ w, Calls Tryz.prog 61 #[.int .i64 (cn : Int), .int .i64 1] w fun e' w' => e' = .returned (.string ⟨(hiB cn 1).toArray⟩) ∧ Below w.heap.size w w') := high_f 1 cn (by omega) (by decide)
      have h1 := hiB_len en 2
      have h2 := hiB_len sn 4
      have h3 := hiB_len cn 1
      obtain ⟨d1, hd1⟩ : ∃ d, d = hiB en 2 := ⟨_, rfl⟩
      obtain ⟨d2, hd2⟩ : ∃ d, d = hiB sn 4 := ⟨_, rfl⟩
      obtain ⟨d3, hd3⟩ : ∃ d, d = hiB cn 1 := ⟨_, rfl⟩
      obtain ⟨t1, ht1⟩ : ∃ t, t = [84] ++ d1 := ⟨_, rfl⟩
      obtain ⟨t2, ht2⟩ : ∃ t, t = t1 ++ d2 := ⟨_, rfl⟩
      obtain ⟨t3, ht3⟩ : ∃ t, t = t2 ++ d3 := ⟨_, rfl⟩
      have e3 : tText en sn cn = t3 := by rw [ht3, ht2, ht1, hd1, hd2, hd3]; rfl
      rw [e3]
      have hl3 : t3.length = 8 := by rw [← e3]; exact t_len _ _ _
      have Hsg : Hid (∀ w, Calls Tryz.prog 62 #[.string ⟨l.toArray⟩, .string ⟨t3.toArray⟩] w fun e w' => e = .returned (.tuple #[.string ⟨(sigB l t3).toArray⟩, .int .i64 0]) ∧ Below w.heap.size w w') := Dc.refSign_d l t3 Hl.out (by omega)
      have hsl := sig_len l t3
      obtain ⟨sb, hsb⟩ : ∃ k, k = sigB l t3 := ⟨_, rfl⟩
      rw [← hsb] at Hsg hsl ⊢
      have hl1 : t1.length = 3 := by rw [ht1, hd1]; simp [hiB_len]
      have hl2 : t2.length = 7 := by rw [ht2, hd2]; simp [hiB_len, hl1]
      have Ht1 : Hid ([84] ++ d1 = t1) := ht1.symm
      have Ht2 : Hid (t1 ++ d2 = t2) := ht2.symm
      have Ht3 : Hid (t2 ++ d3 = t3) := ht3.symm
      rw [← hd1] at Hd1 h1
      rw [← hd2] at Hd2 h2
      rw [← hd3] at Hd3 h3
      clear ht1 ht2 ht3 e3 hsb hd1 hd2 hd3
      have hx := app_str t3 sb
      have hl3' : (t3.length : Int) = 8 := by omega
      have hsl' : (sb.length : Int) = 64 := by omega
      unfold tk at *
      go_enter Tryz.func19, Tryz.ntmps19
      go_wp2_with (go_at_call 60; refine (HI.out _ _ _ _).mono ?_; rintro _ _ ⟨rfl, rfl⟩)
      generalize hw0 : w.alloc _ = w0 at *
      have Hlt : Hid (w.heap.size < w0.heap.size) := (Array.getElem?_eq_some_iff.1 HT0.out).1
      refine Qt.wp_tail 12 (by kernel_rfl) (by kernel_rfl) ?_
      refine Qt.y_val rfl (.pointer (some ⟨w.heap.size, 0, none⟩)) (fun _ _ => by kernel_rfl) ?_
      refine y_int rfl _ rfl w.heap.size 0 (.int .i64 (en : Int)) rfl Hlt.out (cell_of_row _ _ _ _ _ _ HT0.out) ?_
      simp only [Act.put, List.setIfInBounds_toArray, List.set_cons_zero, List.set_cons_succ]
      refine Qt.y_call rfl 61 #[.int .i64 (en : Int), .int .i64 2] (.string ⟨d1.toArray⟩) (fun _ => by kernel_rfl) (fun w' _ => Hd1.out w') ?_
      simp only [Act.put, List.setIfInBounds_toArray, List.set_cons_zero, List.set_cons_succ]
      refine y_cat rfl _ _ rfl [84] d1 t1 Ht1.out rfl rfl (by simp; omega) ?_
      simp only [Act.put, List.setIfInBounds_toArray, List.set_cons_zero, List.set_cons_succ]
      refine Qt.y_val rfl (.pointer (some ⟨w.heap.size, 1, none⟩)) (fun _ _ => by kernel_rfl) ?_
      refine y_int rfl _ rfl w.heap.size 1 (.int .i64 (sn : Int)) rfl Hlt.out (cell_of_row _ _ _ _ _ _ HT0.out) ?_
      simp only [Act.put, List.setIfInBounds_toArray, List.set_cons_zero, List.set_cons_succ]
      refine Qt.y_call rfl 61 #[.int .i64 (sn : Int), .int .i64 4] (.string ⟨d2.toArray⟩) (fun _ => by kernel_rfl) (fun w' _ => Hd2.out w') ?_
      simp only [Act.put, List.setIfInBounds_toArray, List.set_cons_zero, List.set_cons_succ]
      refine y_cat rfl _ _ rfl t1 d2 t2 Ht2.out rfl rfl (by omega) ?_
      simp only [Act.put, List.setIfInBounds_toArray, List.set_cons_zero, List.set_cons_succ]
      refine Qt.y_val rfl (.pointer (some ⟨w.heap.size, 2, none⟩)) (fun _ _ => by kernel_rfl) ?_
      refine y_int rfl _ rfl w.heap.size 2 (.int .i64 (cn : Int)) rfl Hlt.out (cell_of_row _ _ _ _ _ _ HT0.out) ?_
      simp only [Act.put, List.setIfInBounds_toArray, List.set_cons_zero, List.set_cons_succ]
      refine Qt.y_call rfl 61 #[.int .i64 (cn : Int), .int .i64 1] (.string ⟨d3.toArray⟩) (fun _ => by kernel_rfl) (fun w' _ => Hd3.out w') ?_
      simp only [Act.put, List.setIfInBounds_toArray, List.set_cons_zero, List.set_cons_succ]
      refine y_cat rfl _ _ rfl t2 d3 t3 Ht3.out rfl rfl (by omega) ?_
      simp only [Act.put, List.setIfInBounds_toArray, List.set_cons_zero, List.set_cons_succ]
      refine Qt.y_nil ?_
      intro w1 hb1
      have HB1 : Hid (Below w.heap.size w w1) := HB0.out.trans (hb1.mono HB0.out.size)
      clear hb1
      simp only [List.drop_succ_cons, List.drop_zero]
      go_wp2_with fail
      refine (Hsg.out _).mono ?_
      rintro _ w2 ⟨rfl, hb2⟩
      have HB2 : Hid (Below w.heap.size w w2) := HB1.out.trans (hb2.mono HB1.out.size)
      clear hb2
      go_wp2_with fail
      exact bodyPost_ret (v := .tuple #[.string ⟨(t3 ++ sb).toArray⟩, .int .i64 0]) (by simp [results, Tryz.results19, go_sem]) rfl ⟨by simp, HB2.out⟩
    · have hf : (bet 0 e 65535 && bet 0 s 4294967295 && bet 0 c 255) = false := by
        rw [Bool.eq_false_iff]
        intro h
        simp only [Bool.and_eq_true] at h
        exact hall ⟨h.1.1, h.1.2, h.2⟩
      rw [hf]
      clear hall Hl
      generalize hg1 : bet 0 e 65535 = b1 at *
      generalize hg2 : bet 0 s 4294967295 = b2 at *
      generalize hg3 : bet 0 c 255 = b3 at *
      unfold tk at *
      cases b1
      · go_enter Tryz.func19, Tryz.ntmps19
        go_wp2_with (go_at_call 60; refine (HI.out _ _ _ _).mono ?_; rintro _ _ ⟨rfl, rfl⟩)
        exact bodyPost_ret (v := .tuple #[.string ⟨#[]⟩, .int .i64 2]) (by simp [results, Tryz.results19, go_sem]) rfl ⟨by simp, HB0.out⟩
      · cases b2
        · go_enter Tryz.func19, Tryz.ntmps19
          go_wp2_with (go_at_call 60; refine (HI.out _ _ _ _).mono ?_; rintro _ _ ⟨rfl, rfl⟩)
          exact bodyPost_ret (v := .tuple #[.string ⟨#[]⟩, .int .i64 2]) (by simp [results, Tryz.results19, go_sem]) rfl ⟨by simp, HB0.out⟩
        · cases b3
          · go_enter Tryz.func19, Tryz.ntmps19
            go_wp2_with (go_at_call 60; refine (HI.out _ _ _ _).mono ?_; rintro _ _ ⟨rfl, rfl⟩)
            exact bodyPost_ret (v := .tuple #[.string ⟨#[]⟩, .int .i64 2]) (by simp [results, Tryz.results19, go_sem]) rfl ⟨by simp, HB0.out⟩
          · simp at hf
  · have hli : (l.length : Int) ≠ 32 := by omega
    have HA : Hid (tAns l e s c = (⟨#[]⟩, 1)) := if_neg hl
    rw [HA.out]
    clear hl HA
    generalize hg1 : bet 0 e 65535 = b1 at *
    generalize hg2 : bet 0 s 4294967295 = b2 at *
    generalize hg3 : bet 0 c 255 = b3 at *
    unfold tk at *
    go_enter Tryz.func19, Tryz.ntmps19
    go_wp2_with (go_at_call 60; refine (HI.out _ _ _ _).mono ?_; rintro _ _ ⟨rfl, rfl⟩)
    exact bodyPost_ret (v := .tuple #[.string ⟨#[]⟩, .int .i64 1]) (by simp [results, Tryz.results19, go_sem]) rfl ⟨by simp, HB0.out⟩
set_option maxHeartbeats 400000 in
theorem refOrder_f (l : List UInt8) (e : Int) (w : World) : Calls Tryz.prog 21 #[.string ⟨l.toArray⟩, .int .i64 e] w fun x w' => x = .returned (.tuple #[.string (oAns l e).1, .int .i64 (oAns l e).2]) ∧ Below w.heap.size w w' := by
  have HI : Hid _ := in_f
  by_cases hl : l.length = 32
  · have hli : (l.length : Int) = 32 := by omega
    have HA : Hid (oAns l e = if bet 0 e 65535 then (⟨(oText e.toNat ++ sigB l (oText e.toNat)).toArray⟩, 0) else (⟨#[]⟩, 2)) := if_pos hl
    rw [HA.out]
    have Hl : Hid _ := hl
    clear HA hl
    by_cases h1 : bet 0 e 65535 = true
    · obtain ⟨e1, g1⟩ := bet_nat h1
      rw [if_pos h1]
      obtain ⟨en, hen⟩ : ∃ n, n = e.toNat := ⟨_, rfl⟩
      rw [← hen] at e1
      rw [← hen]
      subst e1
      have Hd1 : Hid (∀ w, Calls Tryz.prog 61 #[.int .i64 (en : Int), .int .i64 2] w fun e' w' => e' = .returned (.string ⟨(hiB en 2).toArray⟩) ∧ Below w.heap.size w w') := high_f 2 en (by omega) (by decide)
      have h2 := hiB_len en 2
      obtain ⟨d1, hd1⟩ : ∃ d, d = hiB en 2 := ⟨_, rfl⟩
      obtain ⟨t1, ht1⟩ : ∃ t, t = [67] ++ d1 := ⟨_, rfl⟩
      have e3 : oText en = t1 := by rw [ht1, hd1]; rfl
      rw [e3]
      have hl3 : t1.length = 3 := by rw [← e3]; exact o_len _
      have Hsg : Hid (∀ w, Calls Tryz.prog 62 #[.string ⟨l.toArray⟩, .string ⟨t1.toArray⟩] w fun e w' => e = .returned (.tuple #[.string ⟨(sigB l t1).toArray⟩, .int .i64 0]) ∧ Below w.heap.size w w') := Dc.refSign_d l t1 Hl.out (by omega)
      have hsl := sig_len l t1
      obtain ⟨sb, hsb⟩ : ∃ k, k = sigB l t1 := ⟨_, rfl⟩
      rw [← hsb] at Hsg hsl ⊢
      rw [← hd1] at Hd1 h2
      have hx1 : (⟨#[67]⟩ : ByteArray) ++ ⟨d1.toArray⟩ = ⟨t1.toArray⟩ := by
        have := app_str [67] d1
        rw [← ht1] at this
        exact this
      have hx := app_str t1 sb
      have h2' : (d1.length : Int) = 2 := by omega
      have hl3' : (t1.length : Int) = 3 := by omega
      have hsl' : (sb.length : Int) = 64 := by omega
      clear hen ht1 e3 hsb hd1
      go_enter Tryz.func21, Tryz.ntmps21
      go_wp2_with (go_at_call 60; refine (HI.out _ _ _ _).mono ?_; rintro _ _ ⟨rfl, hww⟩; obtain rfl := hww.symm)
      refine (Hd1.out _).mono ?_
      rintro _ w1 ⟨rfl, hb1⟩
      have HB1 : Hid (Below w.heap.size w w1) := hb1
      clear hb1
      go_wp2_with fail
      refine (Hsg.out _).mono ?_
      rintro _ w2 ⟨rfl, hb2⟩
      have HB2 : Hid (Below w.heap.size w w2) := HB1.out.trans (hb2.mono HB1.out.size)
      clear hb2
      go_wp2_with fail
      exact bodyPost_ret (v := .tuple #[.string ⟨(t1 ++ sb).toArray⟩, .int .i64 0]) (by simp [results, Tryz.results21, go_sem]) rfl ⟨by simp, HB2.out⟩
    · have h1' : bet 0 e 65535 = false := by simpa using h1
      rw [if_neg h1]
      clear h1
      go_enter Tryz.func21, Tryz.ntmps21
      go_wp2_with (go_at_call 60; refine (HI.out _ _ _ _).mono ?_; rintro _ _ ⟨rfl, hww⟩; obtain rfl := hww.symm)
      exact bodyPost_ret (v := .tuple #[.string ⟨#[]⟩, .int .i64 2]) (by simp [results, Tryz.results21, go_sem]) rfl ⟨by simp, Below.refl _ _⟩
  · have hli : (l.length : Int) ≠ 32 := by omega
    have HA : Hid (oAns l e = (⟨#[]⟩, 1)) := if_neg hl
    rw [HA.out]
    clear hl HA
    go_enter Tryz.func21, Tryz.ntmps21
    go_wp2_with (go_at_call 60; refine (HI.out _ _ _ _).mono ?_; rintro _ _ ⟨rfl, hww⟩; obtain rfl := hww.symm)
    exact bodyPost_ret (v := .tuple #[.string ⟨#[]⟩, .int .i64 1]) (by simp [results, Tryz.results21, go_sem]) rfl ⟨by simp, Below.refl _ _⟩
end Tk
end Go.Proofs.YtbojijefenfbgaaGreatDoor

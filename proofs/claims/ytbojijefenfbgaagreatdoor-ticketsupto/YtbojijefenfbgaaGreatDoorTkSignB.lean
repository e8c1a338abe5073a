/- Walks of the program's signing: halves. -/
/- Walks of the program's signing: Key. -/
/- Walks of the program's signing: Sign. -/
import Derived.Test.YtbojijefenfbgaaGreatDoorTkQRel
import Derived.Test.YtbojijefenfbgaaGreatDoorTkTakeWalk
namespace Go.Proofs.YtbojijefenfbgaaGreatDoor
open Go.RowKit
namespace Gw
open Fw Bt Ww Sw Cw Ed
theorem ofInt_un (x : BitVec 64) : BitVec.ofInt 64 (un x) = x := by
  unfold un
  rw [BitVec.ofInt_natCast]
  simp
theorem andn (x y : BitVec 64) : bits .andNot .u64 (un x) (un y) = un (x &&& ~~~y) := by
  show IntKind.u64.wrap ((BitVec.ofInt 64 (un x) &&& ~~~ BitVec.ofInt 64 (un y)).toNat : Int) = _
  rw [ofInt_un, ofInt_un]
  exact UV.u_wrap_un _
theorem andn7 (x : BitVec 64) : bits .andNot .u64 (un x) 7 = un (x &&& 18446744073709551608#64) := andn x 7#64
theorem andn63 (x : BitVec 64) : bits .andNot .u64 (un x) 9223372036854775808 = un (x &&& 9223372036854775807#64) := andn x 9223372036854775808#64
theorem or62 (x : BitVec 64) : bits .or .u64 (un x) 4611686018427387904 = un (x ||| 4611686018427387904#64) := UV.u_or x 4611686018427387904#64
def secQ (q : Q) : Q := ⟨q.a0 &&& 18446744073709551608#64, q.a1, q.a2, q.a3 &&& 9223372036854775807#64 ||| 4611686018427387904#64⟩
/-- A seed's number, out of the first half of its hash. -/
def secN (N : Nat) : Nat := (N - N % 8) % 28948022309329048855892746252171976963317496166410141009864396001978282409984 + 28948022309329048855892746252171976963317496166410141009864396001978282409984
theorem low3 (x : BitVec 64) : (x &&& 18446744073709551608#64).toNat = x.toNat - x.toNat % 8 := by
  rw [show 18446744073709551608#64 = ~~~7#64 from by decide]
  have h : (x &&& ~~~7#64) = (x >>> 3) <<< 3 := by
    apply BitVec.eq_of_getLsbD_eq
    intro i hi
    rw [BitVec.getLsbD_and, BitVec.getLsbD_not, BitVec.getLsbD_shiftLeft, BitVec.getLsbD_ushiftRight]
    have h7 : (7#64).getLsbD i = decide (i < 3) := by
      rcases i with _ | _ | _ | i
      · rfl
      · rfl
      · rfl
      · rw [show decide (i + 1 + 1 + 1 < 3) = false from decide_eq_false (by omega)]
        rw [BitVec.getLsbD, show (7#64).toNat = 2 ^ 3 - 1 from rfl, Nat.testBit_two_pow_sub_one]
        exact decide_eq_false (by omega)
    rw [h7]
    by_cases h3 : i < 3
    · simp [h3, hi]
    · rw [show 3 + (i - 3) = i by omega]
      simp [h3, hi]
  rw [h, BitVec.toNat_shiftLeft, BitVec.toNat_ushiftRight, Nat.shiftRight_eq_div_pow, Nat.shiftLeft_eq]
  have := x.isLt
  omega
theorem top2 (x : BitVec 64) : (x &&& 9223372036854775807#64 ||| 4611686018427387904#64).toNat = x.toNat % 4611686018427387904 + 4611686018427387904 := by
  have h2 : x &&& 9223372036854775807#64 ||| 4611686018427387904#64 = x &&& 4611686018427387903#64 ||| 4611686018427387904#64 := by
    apply BitVec.eq_of_getLsbD_eq
    intro i hi
    simp only [BitVec.getLsbD_or, BitVec.getLsbD_and]
    have e1 : (9223372036854775807#64).getLsbD i = decide (i < 63) := by
      rw [BitVec.getLsbD, show (9223372036854775807#64).toNat = 2 ^ 63 - 1 from rfl, Nat.testBit_two_pow_sub_one]
    have e2 : (4611686018427387903#64).getLsbD i = decide (i < 62) := by
      rw [BitVec.getLsbD, show (4611686018427387903#64).toNat = 2 ^ 62 - 1 from rfl, Nat.testBit_two_pow_sub_one]
    have e3 : (4611686018427387904#64).getLsbD i = decide (i = 62) := by
      rw [BitVec.getLsbD, show (4611686018427387904#64).toNat = 2 ^ 62 from rfl, Nat.testBit_two_pow]
      by_cases h : i = 62
      · subst h; rfl
      · rw [decide_eq_false h, decide_eq_false (Ne.symm h)]
    rw [e1, e2, e3]
    by_cases h : i = 62
    · simp [h]
    · by_cases h3 : i < 62
      · rw [decide_eq_true h3, decide_eq_true (show i < 63 by omega)]
      · rw [decide_eq_false h3, decide_eq_false (show ¬ i < 63 by omega)]
  rw [h2, BitVec.toNat_or, BitVec.toNat_and, show (4611686018427387903#64).toNat = 2 ^ 62 - 1 from rfl, Nat.and_two_pow_sub_one_eq_mod, show (4611686018427387904#64).toNat = 1 <<< 62 from rfl, Nat.or_comm, ← Nat.shiftLeft_add_eq_or_of_lt (Nat.mod_lt _ (by decide))]
  rw [show 1 <<< 62 = 4611686018427387904 from rfl]
  omega
theorem secQ_num (q : Q) : secQ q = nq (secN q.num) := by
  refine nq_of ?_
  unfold secQ secN Q.num
  simp only
  rw [low3, top2]
  have h0 := q.a0.isLt
  have h1 := q.a1.isLt
  have h2 := q.a2.isLt
  have h3 := q.a3.isLt
  generalize q.a0.toNat = x0 at *
  generalize q.a1.toNat = x1 at *
  generalize q.a2.toNat = x2 at *
  generalize q.a3.toNat = x3 at *
  omega
theorem store_u {ops : Array Oper} {rest : List Oper} {o : Oper} {a : Act} {w : World} {Q : Exit → Act → World → Prop} (hg : o.guard = none) (x y : Operand) (ho : o.op = .store 159 x y) (b off : Nat) (k : Int) (old : Value) (hx : a.eval x = .pointer (some ⟨b, off, none⟩)) (hy : a.eval y = .int .u64 k) (hc : w.cell? ⟨b, off, none⟩ = some old) (hf : w.frozen? ⟨b, off, none⟩ = false)
    (h : wpList Tryz.prog ops Q rest (a.put o.dst undef) (w.setCell ⟨b, off, none⟩ (.int .u64 k))) : wpList Tryz.prog ops Q (o :: rest) a w := by
  refine wpList_plain hg fun K hK => ?_
  have hsz : (sizeOf 159).run Tryz.prog w = .ok 1 w := by
    obtain ⟨i, hi⟩ := Option.isSome_iff_exists.1 (show (Tryz.prog.info? 159).isSome = true by kernel_rfl)
    have h1 := run_sizeOf (P := Tryz.prog) w hi
    rw [show Tryz.prog.cellsOf 159 = 1 by kernel_rfl] at h1
    exact h1
  have hr : (storeVar 159 ⟨b, off, none⟩ (.int .u64 k)).run Tryz.prog w = .ok () (w.setCell ⟨b, off, none⟩ (.int .u64 k)) := by
    simp [storeVar, hsz, Value.cells, go_sem, hc, hf]
  unfold Oper.wp execOp
  simp only [ho, hx, hy, Instr.storeAt, Instr.sureAddr, Sem.run_bind, Sem.run_pure, Result.andThen_ok, hr]
  exact hK _ _ h
theorem sha_len (l : List UInt8) : (Sha.sha l).length = 64 := Sha.sha_length l
theorem joined_one (l : List UInt8) : Hs.joined [⟨l.toArray⟩] = l := by simp [Hs.joined]
set_option maxRecDepth 100000 in
set_option maxHeartbeats 1000000 in
theorem halves_f (l : List UInt8) (hl : l.length ≤ 1000000000) (w : World) (ht : Hs.TabAt w) : Calls Tryz.prog 119 #[.string ⟨l.toArray⟩] w fun e w' => e = .returned (.tuple #[.agg (nq (secN (le ((Sha.sha l).take 32)))).cells, .string ⟨((Sha.sha l).drop 32).toArray⟩]) ∧ Below w.heap.size w w' := by
  obtain ⟨h, hh⟩ : ∃ h, h = Sha.sha l := ⟨_, rfl⟩
  have Hlen : Hid (h.length = 64) := by rw [hh]; exact sha_len l
  have Hof : Hid (∀ b w, w.cell? ⟨b, 0, none⟩ = some (.string ⟨l.toArray⟩) → Hs.TabAt w → Calls Tryz.prog 109 #[.slice (some ⟨b, 0, none⟩) 1 1] w fun e w' => e = .returned (.string ⟨h.toArray⟩) ∧ Below w.heap.size w w') := by
    intro b w hc ht
    have := Hs.of_any w (some ⟨b, 0, none⟩) 1 [⟨l.toArray⟩] (.inr ⟨b, 0, rfl, fun j hj => by
      obtain rfl : j = 0 := by simpa using hj
      exact hc⟩) ht (by rw [joined_one]; exact hl) (by simp)
    rw [joined_one, ← hh] at this
    exact this
  rw [← hh]
  have Ht : Hid (Hs.TabAt w) := ht
  clear hh hl ht
  have HZ : Hid (NAt (w.alloc (.cells zQ.cells 184)) w.heap.size zQ) := fresh_n w
  go_enter Tryz.func119, Tryz.ntmps119
  go_wp2_with fail
  obtain ⟨W, hW⟩ : ∃ W, W = (w.alloc (.cells zQ.cells 184)).alloc (.cells #[.string ⟨l.toArray⟩] 9) := ⟨_, rfl⟩
  have HcW : Hid (W.cell? ⟨w.heap.size + 1, 0, none⟩ = some (.string ⟨l.toArray⟩)) := by
    rw [hW]
    exact cell_of_row _ _ _ _ _ _ (alloc_at _ _ _ (by simp))
  have HBW : Hid (Below w.heap.size w W) := by rw [hW]; exact ((Below.refl _ _).alloc (Nat.le_refl _) _).alloc (by simp) _
  have HtW : Hid (Hs.TabAt W) := Ht.out.below HBW.out Ht.out.lt
  have HZW : Hid (NAt W w.heap.size zQ) := by rw [hW]; exact (fresh_n w).below ((Below.refl (w.heap.size + 1) _).alloc (by simp) _) (by omega)
  rw [show ((w.alloc (Obj.cells #[Value.int .u64 0, Value.int .u64 0, Value.int .u64 0, Value.int .u64 0] 184)).alloc (Obj.cells #[Value.string ⟨l.toArray⟩] 9)) = W from hW.symm]
  clear hW HZ
  refine (Hof.out (w.heap.size + 1) W HcW.out HtW.out).mono ?_
  rintro e w1 ⟨rfl, hb1⟩
  have HX1 : Hid (Below W.heap.size W w1) := hb1
  have HZ1 : Hid (NAt w1 w.heap.size zQ) := HZW.out.below HX1.out HZW.out.lt
  have HB1 : Hid (Below w.heap.size w w1) := HBW.out.trans (HX1.out.mono HBW.out.size)
  have hli : (h.length : Int) = 64 := by have := Hlen.out; omega
  clear hb1 HX1 HcW HBW HtW HZW Ht Hof
  go_wp2_with fail
  rw [ext_str, List.drop_zero]
  refine (fromBytes_f (h.take 32) (by have := Hlen.out; simp; omega) _).mono ?_
  rintro e w2 ⟨rfl, hb2⟩
  rw [List.take_take, Nat.min_self]
  have HX2 : Hid (Below w1.heap.size w1 w2) := hb2
  have HZ2 : Hid (NAt w2 w.heap.size zQ) := HZ1.out.below HX2.out HZ1.out.lt
  have HB2 : Hid (Below w.heap.size w w2) := HB1.out.trans (HX2.out.mono HB1.out.size)
  clear hb2 HX2 HZ1 HB1
  obtain ⟨q, hq⟩ : ∃ q, q = bq (h.take 32) := ⟨_, rfl⟩
  have HQ : Hid (secQ q = nq (secN (le (h.take 32)))) := by
    show _ = _
    rw [secQ_num, hq, bq_num _ (by simp; omega)]
  rw [← hq]
  clear hq
  have HQ3 : Hid (NAt (w2.setRow w.heap.size q.cells) w.heap.size q) := HZ2.out.setRow _
  have HB3 : Hid (Below w.heap.size w (w2.setRow w.heap.size q.cells)) := HB2.out.trans ((below_setRow _ _ _).mono (Nat.le_refl _))
  have HQ4 : Hid (NAt ((w2.setRow w.heap.size q.cells).setCell ⟨w.heap.size, 0, none⟩ (.int .u64 (un (q.a0 &&& 18446744073709551608#64)))) w.heap.size ⟨q.a0 &&& 18446744073709551608#64, q.a1, q.a2, q.a3⟩) := Sw.NAt.set0 HQ3.out _
  have HB4 : Hid (Below w.heap.size w ((w2.setRow w.heap.size q.cells).setCell ⟨w.heap.size, 0, none⟩ (.int .u64 (un (q.a0 &&& 18446744073709551608#64))))) := HB3.out.setCell (Nat.le_refl _) _
  have HQ5 : Hid (NAt (((w2.setRow w.heap.size q.cells).setCell ⟨w.heap.size, 0, none⟩ (.int .u64 (un (q.a0 &&& 18446744073709551608#64)))).setCell ⟨w.heap.size, 3, none⟩ (.int .u64 (un (q.a3 &&& 9223372036854775807#64)))) w.heap.size ⟨q.a0 &&& 18446744073709551608#64, q.a1, q.a2, q.a3 &&& 9223372036854775807#64⟩) := Cw.NAt.set3 HQ4.out _
  have HB5 : Hid (Below w.heap.size w (((w2.setRow w.heap.size q.cells).setCell ⟨w.heap.size, 0, none⟩ (.int .u64 (un (q.a0 &&& 18446744073709551608#64)))).setCell ⟨w.heap.size, 3, none⟩ (.int .u64 (un (q.a3 &&& 9223372036854775807#64))))) := HB4.out.setCell (Nat.le_refl _) _
  have HQ6 : Hid (NAt ((((w2.setRow w.heap.size q.cells).setCell ⟨w.heap.size, 0, none⟩ (.int .u64 (un (q.a0 &&& 18446744073709551608#64)))).setCell ⟨w.heap.size, 3, none⟩ (.int .u64 (un (q.a3 &&& 9223372036854775807#64)))).setCell ⟨w.heap.size, 3, none⟩ (.int .u64 (un (q.a3 &&& 9223372036854775807#64 ||| 4611686018427387904#64)))) w.heap.size (secQ q)) := Cw.NAt.set3 HQ5.out _
  have HB6 : Hid (Below w.heap.size w ((((w2.setRow w.heap.size q.cells).setCell ⟨w.heap.size, 0, none⟩ (.int .u64 (un (q.a0 &&& 18446744073709551608#64)))).setCell ⟨w.heap.size, 3, none⟩ (.int .u64 (un (q.a3 &&& 9223372036854775807#64)))).setCell ⟨w.heap.size, 3, none⟩ (.int .u64 (un (q.a3 &&& 9223372036854775807#64 ||| 4611686018427387904#64))))) := HB5.out.setCell (Nat.le_refl _) _
  have hc3 : (w2.setRow w.heap.size q.cells).cell? ⟨w.heap.size, 0, none⟩ = some (.int .u64 (un q.a0)) := q_cell HQ3.out 0 (by omega)
  have hf3 : (w2.setRow w.heap.size q.cells).frozen? ⟨w.heap.size, 0, none⟩ = false := Cw.NAt.frozen HQ3.out 0
  obtain ⟨w4, hw4⟩ : ∃ w4, w4 = ((w2.setRow w.heap.size q.cells).setCell ⟨w.heap.size, 0, none⟩ (.int .u64 (un (q.a0 &&& 18446744073709551608#64)))) := ⟨_, rfl⟩
  rw [← hw4] at HQ4 HB4 HQ5 HB5 HQ6 HB6
  have hc4 : w4.cell? ⟨w.heap.size, 3, none⟩ = some (.int .u64 (un q.a3)) := q_cell HQ4.out 3 (by omega)
  have hf4 : w4.frozen? ⟨w.heap.size, 3, none⟩ = false := Cw.NAt.frozen HQ4.out 3
  obtain ⟨w5, hw5⟩ : ∃ w5, w5 = w4.setCell ⟨w.heap.size, 3, none⟩ (.int .u64 (un (q.a3 &&& 9223372036854775807#64))) := ⟨_, rfl⟩
  rw [← hw5] at HQ5 HB5 HQ6 HB6
  have hc5 : w5.cell? ⟨w.heap.size, 3, none⟩ = some (.int .u64 (un (q.a3 &&& 9223372036854775807#64))) := q_cell HQ5.out 3 (by omega)
  have hf5 : w5.frozen? ⟨w.heap.size, 3, none⟩ = false := Cw.NAt.frozen HQ5.out 3
  have ha7 := andn7 q.a0
  have ha63 := andn63 q.a3
  have ho62 := or62 (q.a3 &&& 9223372036854775807#64)
  have Hw4 : Hid _ := hw4
  have Hw5 : Hid _ := hw5
  have Hc3 : Hid _ := hc3
  have Hf3 : Hid _ := hf3
  clear hw4 hw5 hc3 hf3
  go_wp2_with (first | refine store_n rfl _ _ rfl w.heap.size q zQ rfl rfl HZ2.out ?_ | refine Cw.load_u rfl _ rfl w.heap.size 0 (.int .u64 (un q.a0)) rfl Hc3.out ?_ | (refine store_u rfl _ _ rfl w.heap.size 0 (un (q.a0 &&& 18446744073709551608#64)) (.int .u64 (un q.a0)) rfl rfl Hc3.out Hf3.out ?_; rw [← Hw4.out]) | refine Cw.load_u rfl _ rfl w.heap.size 3 (.int .u64 (un q.a3)) rfl hc4 ?_ | (refine store_u rfl _ _ rfl w.heap.size 3 (un (q.a3 &&& 9223372036854775807#64)) (.int .u64 (un q.a3)) rfl rfl hc4 hf4 ?_; rw [← Hw5.out]))
  obtain ⟨w6, hw6⟩ : ∃ w6, w6 = w5.setCell ⟨w.heap.size, 3, none⟩ (.int .u64 (un (q.a3 &&& 9223372036854775807#64 ||| 4611686018427387904#64))) := ⟨_, rfl⟩
  rw [← hw6] at HQ6 HB6 ⊢
  clear hw6 Hw4 Hw5 Hc3 Hf3 hc4 hf4 hc5 hf5 ha7 ha63 ho62 HQ3 HB3 HQ4 HB4 HQ5 HB5
  refine Qt.wp_store 3 1 (by kernel_rfl) (by kernel_rfl) (by decide) (by decide) _ rfl 184 _ _ rfl w.heap.size (secQ q).cells (secQ q).cells HQ6.out (by kernel_rfl) rfl (secQ q).cells_one ?_
  refine y_n rfl _ rfl w.heap.size (secQ q) rfl HQ6.out ?_
  refine Qt.y_nil ?_
  refine Qt.p_t (by decide) rfl (.string ⟨h.toArray⟩) (fun _ => by kernel_rfl) ?_
  simp only [Act.put, List.setIfInBounds_toArray, List.set_cons_zero, List.set_cons_succ]
  refine Qt.p_t (by decide) rfl (.string ⟨(h.drop 32).toArray⟩) (fun w' => ?_) ?_
  · go_simp
    rw [ext_str, List.take_of_length_le (by simp)]
  simp only [Act.put, List.setIfInBounds_toArray, List.set_cons_zero, List.set_cons_succ]
  refine Qt.p_nil ?_
  refine ⟨rfl, rfl, ?_⟩
  intro w7 hb7
  have HX7 : Hid (Below w6.heap.size w6 w7) := hb7
  have HQ7 : Hid (NAt w7 w.heap.size (secQ q)) := HQ6.out.below HX7.out HQ6.out.lt
  have HB7 : Hid (Below w.heap.size w (w7.setRow w.heap.size (secQ q).cells)) := below_store HB6.out HX7.out _ (Nat.le_refl _) _
  clear hb7
  go_wp2_with fail
  exact ret_rv Tryz.results119 rfl w.heap.size 184 (secQ q).cells (0, 0) _ (.string ⟨(h.drop 32).toArray⟩) rfl rfl (HQ7.out.setRow _) Tryz.underlying184 rfl (by kernel_rfl) ⟨by rw [HQ.out], HB7.out⟩
end Gw
end Go.Proofs.YtbojijefenfbgaaGreatDoor
namespace Go.Proofs.YtbojijefenfbgaaGreatDoor
open Go.RowKit
namespace Gw
open Fw Bt Ww Sw Cw Ed
/-- A seed's number. -/
def sec (l : List UInt8) : Nat := secN (le ((Sha.sha l).take 32))
theorem sec_lt (l : List UInt8) : sec l < 115792089237316195423570985008687907853269984665640564039457584007913129639936 := by
  unfold sec secN
  omega
def keyB (l : List UInt8) : List UInt8 := encP (mulP bP (sec l))
theorem timesBase_n (n : Nat) (hn : n < 115792089237316195423570985008687907853269984665640564039457584007913129639936) (w : World) : Calls Tryz.prog 120 #[.agg (nq n).cells] w fun e w' => e = .returned (.string ⟨(encP (mulP bP n)).toArray⟩) ∧ Below w.heap.size w w' := by
  have h := timesBase_f (nq n) w
  rw [nq_num hn] at h
  exact h
set_option maxHeartbeats 1000000 in
theorem key_f (l : List UInt8) (hl : l.length ≤ 1000000000) (w : World) (ht : Hs.TabAt w) : Calls Tryz.prog 83 #[.string ⟨l.toArray⟩] w fun e w' => e = .returned (.string ⟨(keyB l).toArray⟩) ∧ Below w.heap.size w w' := by
  obtain ⟨k, hk⟩ : ∃ k, k = (keyB l).toArray := ⟨_, rfl⟩
  obtain ⟨q, hq⟩ : ∃ q, q = nq (sec l) := ⟨_, rfl⟩
  have Htb : Hid (∀ w, Calls Tryz.prog 120 #[.agg q.cells] w fun e w' => e = .returned (.string ⟨k⟩) ∧ Below w.heap.size w w') := by rw [hq, hk]; exact timesBase_n _ (sec_lt l)
  obtain ⟨s2, hs2⟩ : ∃ s2, s2 = ((Sha.sha l).drop 32).toArray := ⟨_, rfl⟩
  have Hh : Hid (∀ w, Hs.TabAt w → Calls Tryz.prog 119 #[.string ⟨l.toArray⟩] w fun e w' => e = .returned (.tuple #[.agg q.cells, .string ⟨s2⟩]) ∧ Below w.heap.size w w') := by
    intro w ht
    rw [hq, hs2]; exact halves_f l hl w ht
  rw [← hk]
  have Ht : Hid (Hs.TabAt w) := ht
  clear hk hq hs2 hl ht
  go_enter Tryz.func83, Tryz.ntmps83
  go_wp2_with fail
  refine (Hh.out _ Ht.out).mono ?_
  rintro e w1 ⟨rfl, hb1⟩
  have HB1 : Hid (Below w.heap.size w w1) := hb1
  clear hb1
  go_wp2_with (refine l_declN rfl rfl rfl rfl q (fun _ => rfl) (fun _ => rfl) ?_)
  intro w2 bn hle hW hb2
  have HN2 : Hid (NAt w2 bn q) := hW
  have HB2 : Hid (Below w.heap.size w w2) := HB1.out.trans (hb2.mono HB1.out.size)
  clear hle hW hb2 HB1
  go_wp2_with (refine load_n rfl _ rfl bn q rfl HN2.out ?_)
  refine (Htb.out _).mono ?_
  rintro e w3 ⟨rfl, hb3⟩
  have HB3 : Hid (Below w.heap.size w w3) := HB2.out.trans (hb3.mono HB2.out.size)
  clear hb3
  go_wp2_with fail
  exact bodyPost_ret (v := .string ⟨k⟩) (by simp [results, Tryz.results83, go_sem]) rfl ⟨rfl, HB3.out⟩
end Gw
end Go.Proofs.YtbojijefenfbgaaGreatDoor
namespace Go.Proofs.YtbojijefenfbgaaGreatDoor
open Go.RowKit
namespace Gw
open Fw Bt Ww Sw Cw Ed
theorem joined_map (ss : List (List UInt8)) : Hs.joined (ss.map fun l => ⟨l.toArray⟩) = ss.flatten := by
  induction ss with
  | nil => rfl
  | cons a ss ih =>
    have : Hs.joined (List.map (fun l : List UInt8 => (⟨l.toArray⟩ : ByteArray)) (a :: ss)) = a ++ Hs.joined (ss.map fun l => ⟨l.toArray⟩) := by simp [Hs.joined]
    rw [this, ih]; rfl
/-- hash.Of of parts that lie in a block. -/
theorem of_l (ss : List (List UInt8)) (b : Nat) (w : World) (hb : w.heap[b]? = some (.cells (ss.map fun l => Value.string ⟨l.toArray⟩).toArray 9 (0, 0))) (ht : Hs.TabAt w) (hlen : ss.flatten.length ≤ 1000000000) (hn : ss.length ≤ 1000000000) :
    Calls Tryz.prog 109 #[.slice (some ⟨b, 0, none⟩) ss.length ss.length] w fun e w' => e = .returned (.string ⟨(Sha.sha ss.flatten).toArray⟩) ∧ Below w.heap.size w w' := by
  have h := Hs.of_any w (some ⟨b, 0, none⟩) ss.length (ss.map fun l => ⟨l.toArray⟩) (.inr ⟨b, 0, rfl, fun j hj => by
    rw [cell_of_row w b _ _ _ _ hb]
    simp at hj
    simp [hj]⟩) ht (by rw [joined_map]; exact hlen) (by simpa using hn)
  rw [joined_map, List.length_map] at h
  exact h
theorem of_new (ss : List (List UInt8)) (w : World) (ht : Hs.TabAt w) (hlen : ss.flatten.length ≤ 1000000000) (hn : ss.length ≤ 1000000000) :
    Calls Tryz.prog 109 #[.slice (some ⟨w.heap.size, 0, none⟩) ss.length ss.length] (w.alloc (.cells (ss.map fun l => Value.string ⟨l.toArray⟩).toArray 9)) fun e w' => e = .returned (.string ⟨(Sha.sha ss.flatten).toArray⟩) ∧ Below w.heap.size w w' :=
  (of_l ss w.heap.size _ (heap_alloc_new _ _) (ht.below ((Below.refl w.heap.size w).alloc (Nat.le_refl _) _) ht.lt) hlen hn).mono fun e w' ⟨he, hb⟩ => ⟨he, ((Below.refl w.heap.size w).alloc (Nat.le_refl _) _).trans (hb.mono (by simp))⟩
theorem app_str (a b : List UInt8) : (⟨a.toArray⟩ : ByteArray) ++ ⟨b.toArray⟩ = ⟨(a ++ b).toArray⟩ := by
  apply ByteArray.ext
  simp
/-- The parts of a signature. -/
def rN (l t : List UInt8) : Nat := le (Sha.sha ((Sha.sha l).drop 32 ++ t)) % LL
def rB (l t : List UInt8) : List UInt8 := encP (mulP bP (rN l t))
def kN (R A t : List UInt8) : Nat := le (Sha.sha (R ++ A ++ t)) % LL
def sN (l t : List UInt8) : Nat := (rN l t + kN (rB l t) (keyB l) t * sec l) % LL
def sigB (l t : List UInt8) : List UInt8 := rB l t ++ leB (sN l t) 32
theorem encP_len (p : Pt) : (encP p).length = 32 := leB_length _ _
theorem modL_lt (n : Nat) : n % LL < LL := Nat.mod_lt _ (by decide)
theorem LL_lt {n : Nat} (h : n < LL) : n < 115792089237316195423570985008687907853269984665640564039457584007913129639936 := Nat.lt_trans h (by decide)
set_option maxRecDepth 100000 in
set_option maxHeartbeats 1000000 in
theorem sign_f (l t : List UInt8) (hl : l.length ≤ 1000000000) (htl : t.length ≤ 900000000) (w : World) (ht : Hs.TabAt w) : Calls Tryz.prog 54 #[.string ⟨l.toArray⟩, .string ⟨t.toArray⟩] w fun e w' => e = .returned (.string ⟨(sigB l t).toArray⟩) ∧ Below w.heap.size w w' := by
  obtain ⟨o, ho⟩ : ∃ o, o = (Sha.sha l).drop 32 := ⟨_, rfl⟩
  have hol : o.length = 32 := by rw [ho, List.length_drop, sha_len]
  obtain ⟨r, hr⟩ : ∃ r, r = rN l t := ⟨_, rfl⟩
  obtain ⟨R, hR⟩ : ∃ R, R = rB l t := ⟨_, rfl⟩
  obtain ⟨A, hA⟩ : ∃ A, A = keyB l := ⟨_, rfl⟩
  obtain ⟨k, hk⟩ : ∃ k, k = kN R A t := ⟨_, rfl⟩
  obtain ⟨n, hn⟩ : ∃ n, n = sec l := ⟨_, rfl⟩
  have Hr : Hid (le (Sha.sha (o ++ t)) % LL = r) := by rw [hr, ho]; rfl
  have Hk : Hid (le (Sha.sha (R ++ (A ++ t))) % LL = k) := by
    show _ = _
    rw [hk, ← List.append_assoc]; rfl
  have hrL : r < LL := by rw [hr]; exact modL_lt _
  have hRl : R.length = 32 := by rw [hR]; exact encP_len _
  have hAl : A.length = 32 := by rw [hA]; exact encP_len _
  have Hsig : Hid (sigB l t = R ++ leB ((r + k * n) % LL) 32) := by
    show _ = _
    rw [hk, hR, hr, hA, hn]; rfl
  have Hh : Hid (∀ w, Hs.TabAt w → Calls Tryz.prog 119 #[.string ⟨l.toArray⟩] w fun e w' => e = .returned (.tuple #[.agg (nq n).cells, .string ⟨o.toArray⟩]) ∧ Below w.heap.size w w') := by
    intro w ht
    rw [hn, ho]; exact halves_f l hl w ht
  have HtbR : Hid (∀ w, Calls Tryz.prog 120 #[.agg (nq r).cells] w fun e w' => e = .returned (.string ⟨R.toArray⟩) ∧ Below w.heap.size w w') := by
    rw [hR, hr]; exact timesBase_n _ (LL_lt (modL_lt _))
  have HtbA : Hid (∀ w, Calls Tryz.prog 120 #[.agg (nq n).cells] w fun e w' => e = .returned (.string ⟨A.toArray⟩) ∧ Below w.heap.size w w') := by
    rw [hA, hn]; exact timesBase_n _ (sec_lt l)
  have Hadd : Hid (∀ w, Calls Tryz.prog 121 #[.agg (nq r).cells, .agg (nq k).cells, .agg (nq n).cells] w fun e w' => e = .returned (.agg (nq ((r + k * n) % LL)).cells) ∧ Below w.heap.size w w') := by
    intro w
    have hkL : k < LL := by rw [hk]; exact modL_lt _
    have hnl : n < 115792089237316195423570985008687907853269984665640564039457584007913129639936 := by rw [hn]; exact sec_lt l
    have h := addMul_f (nq r) (nq k) (nq n) (by rw [nq_num (LL_lt hrL)]; exact hrL) w
    rw [nq_num (LL_lt hrL), nq_num (LL_lt hkL), nq_num hnl] at h
    exact h
  have Hby : Hid (∀ w, Calls Tryz.prog 122 #[.agg (nq ((r + k * n) % LL)).cells] w fun e w' => e = .returned (.string ⟨(leB ((r + k * n) % LL) 32).toArray⟩) ∧ Below w.heap.size w w') := by
    intro w
    have h := bytes_f (nq ((r + k * n) % LL)) w
    rw [nq_num (LL_lt (modL_lt _))] at h
    exact h
  obtain ⟨h1, hh1⟩ : ∃ h1, h1 = Sha.sha (o ++ t) := ⟨_, rfl⟩
  obtain ⟨h2, hh2⟩ : ∃ h2, h2 = Sha.sha (R ++ (A ++ t)) := ⟨_, rfl⟩
  have Hof1 : Hid (∀ w, Hs.TabAt w → Calls Tryz.prog 109 #[.slice (some ⟨w.heap.size, 0, none⟩) 2 2] (w.alloc (.cells #[.string ⟨o.toArray⟩, .string ⟨t.toArray⟩] 9)) fun e w' => e = .returned (.string ⟨h1.toArray⟩) ∧ Below w.heap.size w w') := by
    intro w ht
    have h := of_new [o, t] w ht (by simp; omega) (by simp)
    rw [show [o, t].flatten = o ++ t by simp, ← hh1] at h
    exact h
  have Hof2 : Hid (∀ w, Hs.TabAt w → Calls Tryz.prog 109 #[.slice (some ⟨w.heap.size, 0, none⟩) 3 3] (w.alloc (.cells #[.string ⟨R.toArray⟩, .string ⟨A.toArray⟩, .string ⟨t.toArray⟩] 9)) fun e w' => e = .returned (.string ⟨h2.toArray⟩) ∧ Below w.heap.size w w') := by
    intro w ht
    have h := of_new [R, A, t] w ht (by simp; omega) (by simp)
    rw [show [R, A, t].flatten = R ++ (A ++ t) by simp, ← hh2] at h
    exact h
  have Hfh1 : Hid (∀ w, Calls Tryz.prog 108 #[.string ⟨h1.toArray⟩] w fun e w' => e = .returned (.agg (nq r).cells) ∧ Below w.heap.size w w') := by
    intro w
    have h := fromHash_f h1 (by rw [hh1]; exact sha_len _) w
    rw [hh1, Hr.out, ← hh1] at h
    exact h
  have Hfh2 : Hid (∀ w, Calls Tryz.prog 108 #[.string ⟨h2.toArray⟩] w fun e w' => e = .returned (.agg (nq k).cells) ∧ Below w.heap.size w w') := by
    intro w
    have h := fromHash_f h2 (by rw [hh2]; exact sha_len _) w
    rw [hh2, Hk.out, ← hh2] at h
    exact h
  obtain ⟨sb, hsb⟩ : ∃ sb, sb = leB ((r + k * n) % LL) 32 := ⟨_, rfl⟩
  rw [← hsb] at Hby Hsig
  obtain ⟨sq, hsq⟩ : ∃ sq, sq = nq ((r + k * n) % LL) := ⟨_, rfl⟩
  rw [← hsq] at Hby Hadd
  obtain ⟨qr, hqr⟩ : ∃ q, q = nq r := ⟨_, rfl⟩
  obtain ⟨qk, hqk⟩ : ∃ q, q = nq k := ⟨_, rfl⟩
  obtain ⟨qn, hqn⟩ : ∃ q, q = nq n := ⟨_, rfl⟩
  rw [← hqr] at HtbR Hadd Hfh1
  rw [← hqk] at Hadd Hfh2
  rw [← hqn] at Hh HtbA Hadd
  rw [Hsig.out]
  have hln : Hid (R.length + sb.length < 9223372036854775807) := by
    have h := leB_length 32 ((r + k * n) % LL)
    rw [← hsb] at h
    show R.length + sb.length < 9223372036854775807
    omega
  clear hh1 hh2 hsb hsq hqr hqk hqn Hr Hk
  have Ht : Hid (Hs.TabAt w) := ht
  clear Hsig hr hR hA hk hn ho hl ht htl hol hRl hAl hrL
  go_enter Tryz.func54, Tryz.ntmps54
  go_wp2_with fail
  refine (Hh.out _ Ht.out).mono ?_
  rintro e w1 ⟨rfl, hb1⟩
  have HB1 : Hid (Below w.heap.size w w1) := hb1
  clear hb1
  go_wp2_with (refine l_declN rfl rfl rfl rfl qn (fun _ => rfl) (fun _ => rfl) ?_)
  intro w2 bn hle hW hb2
  have HN2 : Hid (NAt w2 bn qn) := hW
  have HB2 : Hid (Below w.heap.size w w2) := HB1.out.trans (hb2.mono HB1.out.size)
  clear hle hW hb2 HB1
  have Ht2 : Hid (Hs.TabAt w2) := Ht.out.below HB2.out Ht.out.lt
  go_wp2_with fail
  refine (Hof1.out w2 Ht2.out).mono ?_
  rintro e w3 ⟨rfl, hb3⟩
  have HX3 : Hid (Below w2.heap.size w2 w3) := hb3
  have HN3 : Hid (NAt w3 bn qn) := HN2.out.below HX3.out HN2.out.lt
  have HB3 : Hid (Below w.heap.size w w3) := HB2.out.trans (HX3.out.mono HB2.out.size)
  clear hb3 HX3 HN2 HB2 Ht2
  go_wp2_with fail
  refine (Hfh1.out _).mono ?_
  rintro e w4 ⟨rfl, hb4⟩
  have HX4 : Hid (Below w3.heap.size w3 w4) := hb4
  have HN4 : Hid (NAt w4 bn qn) := HN3.out.below HX4.out HN3.out.lt
  have HB4 : Hid (Below w.heap.size w w4) := HB3.out.trans (HX4.out.mono HB3.out.size)
  clear hb4 HX4 HN3 HB3
  go_wp2_with (refine l_declN rfl rfl rfl rfl qr (fun _ => rfl) (fun _ => rfl) ?_)
  intro w5 br hle hW hb5
  have HX5 : Hid (Below w4.heap.size w4 w5) := hb5
  have HR5 : Hid (NAt w5 br qr) := hW
  have HN5 : Hid (NAt w5 bn qn) := HN4.out.below HX5.out HN4.out.lt
  have HB5 : Hid (Below w.heap.size w w5) := HB4.out.trans (HX5.out.mono HB4.out.size)
  clear hle hW hb5 HX5 HN4 HB4
  go_wp2_with (refine load_n rfl _ rfl br qr rfl HR5.out ?_)
  refine (HtbR.out _).mono ?_
  rintro e w6 ⟨rfl, hb6⟩
  have HX6 : Hid (Below w5.heap.size w5 w6) := hb6
  have HR6 : Hid (NAt w6 br qr) := HR5.out.below HX6.out HR5.out.lt
  have HN6 : Hid (NAt w6 bn qn) := HN5.out.below HX6.out HN5.out.lt
  have HB6 : Hid (Below w.heap.size w w6) := HB5.out.trans (HX6.out.mono HB5.out.size)
  clear hb6 HX6 HR5 HN5 HB5
  go_wp2_with (refine load_n rfl _ rfl bn qn rfl HN6.out ?_)
  refine (HtbA.out _).mono ?_
  rintro e w7 ⟨rfl, hb7⟩
  have HX7 : Hid (Below w6.heap.size w6 w7) := hb7
  have HR7 : Hid (NAt w7 br qr) := HR6.out.below HX7.out HR6.out.lt
  have HN7 : Hid (NAt w7 bn qn) := HN6.out.below HX7.out HN6.out.lt
  have HB7 : Hid (Below w.heap.size w w7) := HB6.out.trans (HX7.out.mono HB6.out.size)
  have Ht7 : Hid (Hs.TabAt w7) := Ht.out.below HB7.out Ht.out.lt
  clear hb7 HX7 HR6 HN6 HB6
  go_wp2_with fail
  refine (Hof2.out w7 Ht7.out).mono ?_
  rintro e w8 ⟨rfl, hb8⟩
  have HX8 : Hid (Below w7.heap.size w7 w8) := hb8
  have HR8 : Hid (NAt w8 br qr) := HR7.out.below HX8.out HR7.out.lt
  have HN8 : Hid (NAt w8 bn qn) := HN7.out.below HX8.out HN7.out.lt
  have HB8 : Hid (Below w.heap.size w w8) := HB7.out.trans (HX8.out.mono HB7.out.size)
  clear hb8 HX8 HR7 HN7 HB7 Ht7
  go_wp2_with fail
  refine (Hfh2.out _).mono ?_
  rintro e w9 ⟨rfl, hb9⟩
  have HX9 : Hid (Below w8.heap.size w8 w9) := hb9
  have HR9 : Hid (NAt w9 br qr) := HR8.out.below HX9.out HR8.out.lt
  have HN9 : Hid (NAt w9 bn qn) := HN8.out.below HX9.out HN8.out.lt
  have HB9 : Hid (Below w.heap.size w w9) := HB8.out.trans (HX9.out.mono HB8.out.size)
  clear hb9 HX9 HR8 HN8 HB8
  go_wp2_with (refine l_declN rfl rfl rfl rfl qk (fun _ => rfl) (fun _ => rfl) ?_)
  intro wa bk hle hW hba
  have HXa : Hid (Below w9.heap.size w9 wa) := hba
  have HKa : Hid (NAt wa bk qk) := hW
  have HRa : Hid (NAt wa br qr) := HR9.out.below HXa.out HR9.out.lt
  have HNa : Hid (NAt wa bn qn) := HN9.out.below HXa.out HN9.out.lt
  have HBa : Hid (Below w.heap.size w wa) := HB9.out.trans (HXa.out.mono HB9.out.size)
  clear hle hW hba HXa HR9 HN9 HB9
  go_wp2_with (first | refine load_n rfl _ rfl br qr rfl HRa.out ?_ | refine load_n rfl _ rfl bk qk rfl HKa.out ?_ | refine load_n rfl _ rfl bn qn rfl HNa.out ?_)
  refine (Hadd.out _).mono ?_
  rintro e wb ⟨rfl, hbb⟩
  have HBb : Hid (Below w.heap.size w wb) := HBa.out.trans (hbb.mono HBa.out.size)
  clear hbb
  go_wp2_with fail
  refine (Hby.out _).mono ?_
  rintro e wc ⟨rfl, hbc⟩
  have HBc : Hid (Below w.heap.size w wc) := HBb.out.trans (hbc.mono HBb.out.size)
  clear hbc
  have happ := app_str R sb
  go_wp2_with fail
  · rename_i hc
    exact absurd hc (by have := hln.out; omega)
  · exact bodyPost_ret (v := .string ⟨(R ++ sb).toArray⟩) (by simp [results, Tryz.results54, go_sem]) rfl ⟨rfl, HBc.out⟩
end Gw
end Go.Proofs.YtbojijefenfbgaaGreatDoor

/-  -/
import Derived.Test.YtbojijefenfbgaaGreatDoorGgSignA
import Derived.Test.YtbojijefenfbgaaGreatDoorGgOwn
import Derived.WalkKit
import Derived.WalkSpells
import Derived.WalkLawsBesides
import Derived.BigQuiet
import Derived.KernelRfl
import Derived.Deep.CutRange
import Derived.Deep.DeepCutAuto
import Derived.Deep.RegionWith
import Derived.Deep.LoopGhost
import Derived.Deep.QuietTactic
namespace Go.Proofs.YtbojijefenfbgaaGreatDoor
open Go.RowKit
attribute [local go_sem] UV.u_add UV.u_mul UV.u_sub UV.u_xor UV.u_and UV.u_or UV.u_shr UV.u_shl UV.u_not UV.u_notm UV.u_wrap_un
theorem shr7 (x : BitVec 64) : un x / (128 : Int) = un (x >>> 7) := UV.u_shr x 7
theorem shr6 (x : BitVec 64) : un x / (64 : Int) = un (x >>> 6) := UV.u_shr x 6
def wCell (b : Nat → BitVec 64) (k j : Nat) : Value := if j < k then .int .u64 (un (Sha.W b j)) else .int .u64 0
theorem wRow_step (b : Nat → BitVec 64) (k : Nat) (v : Value) (hv : v = .int .u64 (un (Sha.W b k))) : Own.mkRow 80 (fun j => if j = k then v else wCell b k j) = Own.mkRow 80 (wCell b (k + 1)) := by
 refine Own.mkRow_congr (fun j hj => ?_)
 by_cases e : j = k
 ·rw [if_pos e, hv, e]; unfold wCell; rw [if_pos (by omega)]
 ·rw [if_neg e]; unfold wCell
  by_cases h : j < k
  ·rw [if_pos h, if_pos (by omega)]
  ·rw [if_neg h, if_neg (by omega)]
theorem w_low_val (pl : List UInt8) (n k : Nat) (hk : k < 16) : Value.int .u64 (un (Sha.wordAt pl (128 * n + 8 * k))) = .int .u64 (un (Sha.W (Sha.blockAt pl n) k)) := by
 rw [Sha.W_low _ _ hk]; rfl
theorem w_high_val (b : Nat → BitVec 64) (k : Nat) (hk : 16 ≤ k) : Value.int .u64 (IntKind.u64.wrap (IntKind.u64.wrap (IntKind.u64.wrap (bits .xor .u64 (un (Sha.rotr (Sha.W b (k - 2)) 19 ^^^ Sha.rotr (Sha.W b (k - 2)) 61)) (un (Sha.W b (k - 2)) / 64) + un (Sha.W b (k - 7))) + bits .xor .u64 (un (Sha.rotr (Sha.W b (k - 15)) 1 ^^^ Sha.rotr (Sha.W b (k - 15)) 8)) (un (Sha.W b (k - 15)) / 128)) + un (Sha.W b (k - 16)))) = .int .u64 (un (Sha.W b k)) := by
 rw [shr6, shr7, UV.u_xor, UV.u_xor, UV.u_add, UV.u_add, UV.u_add, Sha.W_high b k hk]; rfl
theorem wCell_lt (b : Nat → BitVec 64) (k j : Nat) (h : j < k) : wCell b k j = .int .u64 (un (Sha.W b j)) := by unfold wCell; rw [if_pos h]
theorem wCell_ge (b : Nat → BitVec 64) (k j : Nat) (h : k ≤ j) : wCell b k j = .int .u64 0 := by unfold wCell; rw [if_neg (by omega)]
theorem vcell0 {w : World} {g : Nat} {s : Sha.St} {t : TypeId} (h : w.heap[g]? = some (.cells (Own.mkRow 8 (hCell s)) t (0, 0))) : w.cell? ⟨g, 0, none⟩ = some (.int .u64 (un s.a)) := Own.row_cell h 0 (by decide)
theorem vcell1 {w : World} {g : Nat} {s : Sha.St} {t : TypeId} (h : w.heap[g]? = some (.cells (Own.mkRow 8 (hCell s)) t (0, 0))) : w.cell? ⟨g, 1, none⟩ = some (.int .u64 (un s.b)) := Own.row_cell h 1 (by decide)
theorem vcell2 {w : World} {g : Nat} {s : Sha.St} {t : TypeId} (h : w.heap[g]? = some (.cells (Own.mkRow 8 (hCell s)) t (0, 0))) : w.cell? ⟨g, 2, none⟩ = some (.int .u64 (un s.c)) := Own.row_cell h 2 (by decide)
theorem vcell4 {w : World} {g : Nat} {s : Sha.St} {t : TypeId} (h : w.heap[g]? = some (.cells (Own.mkRow 8 (hCell s)) t (0, 0))) : w.cell? ⟨g, 4, none⟩ = some (.int .u64 (un s.e)) := Own.row_cell h 4 (by decide)
theorem vcell5 {w : World} {g : Nat} {s : Sha.St} {t : TypeId} (h : w.heap[g]? = some (.cells (Own.mkRow 8 (hCell s)) t (0, 0))) : w.cell? ⟨g, 5, none⟩ = some (.int .u64 (un s.f)) := Own.row_cell h 5 (by decide)
theorem vcell6 {w : World} {g : Nat} {s : Sha.St} {t : TypeId} (h : w.heap[g]? = some (.cells (Own.mkRow 8 (hCell s)) t (0, 0))) : w.cell? ⟨g, 6, none⟩ = some (.int .u64 (un s.g)) := Own.row_cell h 6 (by decide)
theorem vcell7 {w : World} {g : Nat} {s : Sha.St} {t : TypeId} (h : w.heap[g]? = some (.cells (Own.mkRow 8 (hCell s)) t (0, 0))) : w.cell? ⟨g, 7, none⟩ = some (.int .u64 (un s.h)) := Own.row_cell h 7 (by decide)
theorem kcell {w : World} {g : Nat} {t : TypeId} (h : w.heap[g]? = some (.cells (Own.mkRow 80 kCell) t (0, 0))) (k : Nat) (hk : k < 80) : w.cell? ⟨g, k, none⟩ = some (.int .u64 (un (Sha.kAt k))) := Own.row_cell h k hk
theorem wcell {w : World} {g : Nat} {t : TypeId} {b : Nat → BitVec 64} (h : w.heap[g]? = some (.cells (Own.mkRow 80 (wCell b 80)) t (0, 0))) (k : Nat) (hk : k < 80) : w.cell? ⟨g, k, none⟩ = some (.int .u64 (un (Sha.W b k))) := by
 rw [Own.row_cell h k hk, wCell_lt b 80 k hk]
def shiftF (s : Sha.St) (j i : Nat) : Value := .int .u64 (un (s.list.getD (if i ≤ j then i else i - 1) 0#64))
theorem shiftF_seven (s : Sha.St) : Own.mkRow 8 (hCell s) = Own.mkRow 8 (shiftF s 7) := Own.mkRow_congr (fun j hj => by unfold shiftF hCell; rw [if_pos (by omega)])
theorem shiftF_step (s : Sha.St) (j : Nat) (h0 : 0 < j) (h7 : j ≤ 7) : Own.mkRow 8 (fun i => if i = j then .int .u64 (un (s.list[j - 1]?.getD 0#64)) else shiftF s j i) = Own.mkRow 8 (shiftF s (j - 1)) := by
 refine Own.mkRow_congr (fun i hi => ?_)
 unfold shiftF
 by_cases e : i = j
 ·rw [if_pos e, if_neg (by omega), e, List.getD_eq_getElem?_getD]
 ·rw [if_neg e]
  by_cases h : i ≤ j
  ·rw [if_pos h, if_pos (by omega)]
  ·rw [if_neg h, if_neg (by omega)]
theorem shcell {w : World} {g : Nat} {s : Sha.St} {t : TypeId} {j : Nat} (h : w.heap[g]? = some (.cells (Own.mkRow 8 (shiftF s j)) t (0, 0))) (i : Nat) (hi : i < 8) : w.cell? ⟨g, i, none⟩ = some (.int .u64 (un (s.list.getD (if i ≤ j then i else i - 1) 0#64))) := Own.row_cell h i hi
def bstr (n : Nat) : ByteArray := ⟨(Sha.bytesOf (BitVec.ofNat 64 n)).toArray⟩
theorem bstr_size (n : Nat) : (bstr n).size ≤ 8 := Nat.le_refl 8
theorem refBytes_b (x : BitVec 64) (w : World) :
  Calls Tryz.prog 99 #[.int .u64 (un x)] w fun e w' => e = .returned (.string (bstr x.toNat)) ∧ Below w.heap.size w w' := by
 have h := refBytes_any x w
 have e : bstr x.toNat = ⟨(Sha.bytesOf x).toArray⟩ := by unfold bstr; rw [BitVec.ofNat_toNat, BitVec.setWidth_eq]
 rw [e]; exact h
theorem round_row (st : Sha.St) (kk ww : BitVec 64) : Own.mkRow 8 (fun i => if i = 0 then .int .u64 (un (st.h + (Sha.rotr st.e 14 ^^^ Sha.rotr st.e 18 ^^^ Sha.rotr st.e 41) + (st.e &&& st.f ^^^ ~~~st.e &&& st.g) + kk + ww + ((Sha.rotr st.a 28 ^^^ Sha.rotr st.a 34 ^^^ Sha.rotr st.a 39) + (st.a &&& st.b ^^^ st.a &&& st.c ^^^ st.b &&& st.c)))) else (fun i => if i = 4 then .int .u64 (un (st.d + (st.h + (Sha.rotr st.e 14 ^^^ Sha.rotr st.e 18 ^^^ Sha.rotr st.e 41) + (st.e &&& st.f ^^^ ~~~st.e &&& st.g) + kk + ww))) else shiftF st 0 i) i) = Own.mkRow 8 (hCell (Sha.round st kk ww)) := by
 refine Own.mkRow_congr (fun j hj => ?_)
 rcases j with _ | _ | _ | _ | _ | _ | _ | _ | j
 all_goals first | rfl | omega
def addF (c s : Sha.St) (k j : Nat) : Value := .int .u64 (un (if j < k then c.list.getD j 0#64 + s.list.getD j 0#64 else c.list.getD j 0#64))
theorem addcell {w : World} {g : Nat} {c s : Sha.St} {t : TypeId} {k : Nat} (h : w.heap[g]? = some (.cells (Own.mkRow 8 (addF c s k)) t (0, 0))) (hk : k < 8) : w.cell? ⟨g, k, none⟩ = some (.int .u64 (un (c.list[k]?.getD 0#64))) := by
 rw [Own.row_cell h k hk]; unfold addF; rw [if_neg (by omega), List.getD_eq_getElem?_getD]
theorem hcell {w : World} {g : Nat} {s : Sha.St} {t : TypeId} {k : Nat} (h : w.heap[g]? = some (.cells (Own.mkRow 8 (hCell s)) t (0, 0))) (hk : k < 8) : w.cell? ⟨g, k, none⟩ = some (.int .u64 (un (s.list[k]?.getD 0#64))) := by
 rw [Own.row_cell h k hk]; unfold hCell; rw [List.getD_eq_getElem?_getD]
theorem addF_step (c s : Sha.St) (k : Nat) (_h : k < 8) : Own.mkRow 8 (fun j => if j = k then .int .u64 (un (c.list[k]?.getD 0#64 + s.list[k]?.getD 0#64)) else addF c s k j) = Own.mkRow 8 (addF c s (k + 1)) := by
 refine Own.mkRow_congr (fun j hj => ?_)
 unfold addF
 by_cases e : j = k
 ·rw [if_pos e, if_pos (by omega), e, List.getD_eq_getElem?_getD, List.getD_eq_getElem?_getD]
 ·rw [if_neg e]
  by_cases h : j < k
  ·rw [if_pos h, if_pos (by omega)]
  ·rw [if_neg h, if_neg (by omega)]
theorem addF_eight (c s : Sha.St) : Own.mkRow 8 (addF c s 8) = Own.mkRow 8 (hCell (c.add s)) := by
 refine Own.mkRow_congr (fun j hj => ?_)
 unfold addF hCell
 rw [if_pos hj]
 rcases j with _ | _ | _ | _ | _ | _ | _ | _ | j
 all_goals first | rfl | omega
def pstr (s : Sha.St) (k : Nat) : ByteArray := ⟨((s.list.take k).flatMap Sha.bytesOf).toArray⟩
theorem pstr_size (s : Sha.St) (k : Nat) : (pstr s k).size ≤ 64 := by
 have h1 : (pstr s k).size = ((s.list.take k).flatMap Sha.bytesOf).length := by simp [pstr, ByteArray.size]
 have h2 : ∀ l : List (BitVec 64), (l.flatMap Sha.bytesOf).length = 8 * l.length := fun l => by
  induction l with
  | nil => rfl
  | cons x l ih => simp [List.flatMap_cons, ih, Sha.bytesOf_length]; omega
 rw [h1, h2, List.length_take]
 have : s.list.length = 8 := rfl
 omega
theorem pstr_step (s : Sha.St) (k : Nat) (h : k < 8) : pstr s k ++ bstr (s.list[k]?.getD 0#64).toNat = pstr s (k + 1) := by
 apply ByteArray.ext
 have hl : k < s.list.length := h
 simp only [ByteArray.data_append, pstr, bstr]
 rw [List.take_succ_eq_append_getElem hl, List.getElem?_eq_getElem hl, List.flatMap_append]
 simp
theorem pstr_eight (s : Sha.St) : pstr s 8 = ⟨(Sha.out s).toArray⟩ := by
 unfold pstr Sha.out
 simp [Sha.St.list]
theorem refBytes_int (n : Int) (h0 : 0 ≤ n) (h1 : n ≤ 18446744073709551615) (w : World) :
  Calls Tryz.prog 99 #[.int .u64 n] w fun e w' => e = .returned (.string (bstr n.toNat)) ∧ Below w.heap.size w w' := by
 have h := refBytes_any (BitVec.ofNat 64 n.toNat) w
 rw [UV.un_ofNat _ (by omega), Int.toNat_of_nonneg h0] at h
 exact h
theorem zero_string (W : World) (b n : Nat) (h : W.heap[b]? = some (.cells (Own.zeros n (.int .u8 0)) 5 (0, 0))) :
  Sem.run Tryz.prog (convert 145 9 (.slice (some ⟨b, 0, none⟩) n n)) W = .ok (.string ⟨(List.replicate n 0).toArray⟩) W :=
 Own.run_string_at W _ _ 5 Tryz.underlying145 Tryz.underlying5 Tryz.underlying9 b 0 n n (List.replicate n 0) (by simp) (fun j hj => by
  rw [Nat.zero_add, Own.row_cell h j (by simpa using hj)]; simp)
def zstr (n : Nat) : ByteArray := ⟨(List.replicate n 0).toArray⟩
theorem zstr_size (n : Nat) : (zstr n).size ≤ n := by show (List.replicate n (0 : UInt8)).toArray.size ≤ _; simp
theorem padded_eq (s : ByteArray) (q n : Nat) (hq : q + 8 = Sha.gap s.size) (hn : n = 8 * s.size) : s ++ ⟨#[128]⟩ ++ zstr (q + 8) ++ bstr n = ⟨(Sha.padded s.data.toList).toArray⟩ := by
 apply ByteArray.ext
 have hl : s.data.toList.length = s.size := by simp
 simp only [ByteArray.data_append, zstr, bstr, Sha.padded, hl, hq, hn]
 simp
set_option maxRecDepth 100000 in
set_option maxHeartbeats 4000000 in
theorem refHash_any (s : ByteArray) (hs : s.size ≤ 1000000000000) (w : World) :
  Calls Tryz.prog 46 #[.string s] w fun e w' => e = .returned (.string ⟨(Sha.sha s.data.toList).toArray⟩) ∧ Below w.heap.size w w' := by
 go_enter Tryz.func46, Tryz.ntmps46
 go_upto_if 30 with fail
 go_cut [4] from 23 to 30 (fun r wc => (∃ q : Nat, q + 8 = Sha.gap s.size ∧ r = .int .i64 (q : Int)) ∧ w = wc)
 case first =>
  by_cases h : (s.size + 17) % 128 = 0
  ·have hb : ((128 : Int) - (↑s.size + 17) % 128 == 128) = true := by rw [beq_iff_eq]; omega
   go_wp2_with fail
   go_meet
   case rel => exact ⟨⟨0, by unfold Sha.gap; omega, rfl⟩, rfl⟩
  ·have hb : ((128 : Int) - (↑s.size + 17) % 128 == 128) = false := by rw [beq_eq_false_iff_ne]; omega
   go_wp2_with fail
   go_meet
   case rel => exact ⟨⟨128 - (s.size + 17) % 128, by unfold Sha.gap; omega, by congr 1; omega⟩, rfl⟩
 case rest =>
  obtain ⟨⟨q, hq, rfl⟩, rfl⟩ := hcut
  have hq2 : q ≤ 127 := by unfold Sha.gap at hq; omega
  have HQ : Hid (q + 8 = Sha.gap s.size) := hq
  clear hq
  go_upto_region 5 with fail
  go_cut [5] from 31 to 42 (fun r wc => r = .string ⟨(Sha.padded s.data.toList).toArray⟩ ∧ Below w.heap.size w wc)
  case first =>
   have hmk : ∀ W : World, Sem.run Tryz.prog (Instr.makeSlice 145 (.int .i64 ((q : Int) + 8)) (.int .i64 ((q : Int) + 8))) W = .ok (.slice (some ⟨W.heap.size, 0, none⟩) (q + 8) (q + 8)) (W.alloc (.cells (Own.zeros (q + 8) (.int .u8 0)) 5)) :=
    fun W => Own.run_make_at W _ _ _ 1 Tryz.underlying145 info_u8 rfl _ _ _ _ (q + 8) (by omega) (by omega) (by omega) (by omega)
   have hcv1 : ∀ W : World, Sem.run Tryz.prog (convert 145 9 (.slice (some ⟨W.heap.size, 0, none⟩) (q + 8) (q + 8))) (W.alloc (.cells (Own.zeros (q + 8) (.int .u8 0)) 5)).drew = .ok (.string (zstr (q + 8))) (W.alloc (.cells (Own.zeros (q + 8) (.int .u8 0)) 5)).drew :=
    fun W => zero_string _ _ _ (heap_alloc_new _ _)
   have hcv2 : ∀ W : World, Sem.run Tryz.prog (convert 145 9 (.slice (some ⟨W.heap.size, 0, none⟩) (q + 8) (q + 8))) (W.alloc (.cells (Own.zeros (q + 8) (.int .u8 0)) 5)) = .ok (.string (zstr (q + 8))) (W.alloc (.cells (Own.zeros (q + 8) (.int .u8 0)) 5)) :=
    fun W => zero_string _ _ _ (heap_alloc_new _ _)
   have hz := zstr_size (q + 8)
   have hw1 : IntKind.i64.wrap ((q : Int) + 8) = (q : Int) + 8 := IntWalk.i64_in _ (by omega)
   have hw2 : IntKind.u64.wrap (s.size : Int) = (s.size : Int) := IntWalk.u64_in _ (by omega)
   have hw3 : IntKind.u64.wrap (8 * (s.size : Int)) = 8 * (s.size : Int) := IntWalk.u64_in _ (by omega)
   go_region_with (first
    | (go_at_call 99; refine (refBytes_int _ (by omega) (by omega) _).mono ?_; rintro e w' ⟨rfl, hb⟩; have hby := bstr_size (8 * (s.size : Int)).toNat; have hby2 := bstr_size (8 * s.size); try have hcv3 : Sem.run Tryz.prog (convert 145 9 (.slice (some ⟨w.heap.size, 0, none⟩) (q + 8) (q + 8))) w' = .ok (.string (zstr (q + 8))) w' := zero_string w' w.heap.size (q + 8) ((hb.block w.heap.size (by simp)).trans (heap_alloc_new _ _))))
   all_goals
    go_wp2_with fail
    go_meet
    case rel =>
     refine ⟨congrArg Value.string (padded_eq s q _ HQ.out (by omega)), ?_⟩
     first
      | exact (((Below.refl _ _).alloc (Nat.le_refl _) _).drew).trans (hb.mono (by simp))
      | exact (((Below.refl _ _).drew).trans (hb.mono (by simp))).alloc (by have := hb.size; simpa using this) _
  case rest =>
   obtain ⟨rfl, hB5⟩ := hcut
   have HB5 : Hid _ := hB5
   clear hB5 HQ hq2
   have hl : (Sha.padded s.data.toList).length = s.size + 9 + Sha.gap s.size := by rw [Sha.padded_length]; simp
   have hg : Sha.gap s.size ≤ 135 := by unfold Sha.gap; omega
   have hm : (Sha.padded s.data.toList).length % 128 = 0 := Sha.padded_mod _
   generalize hp : Sha.padded s.data.toList = pl at *
   have HP : Hid _ := hp
   clear hp
   have hpl : pl.length ≤ 2000000000000 := by omega
   obtain ⟨nb, hnb⟩ : ∃ nb, pl.length = 128 * nb := ⟨pl.length / 128, by omega⟩
   clear hm hl hg
   have HS : Hid ((ByteArray.mk pl.toArray).size = pl.length) := by show (ByteArray.mk pl.toArray).size = pl.length; simp [ByteArray.size]
   go_wp2_with (first
    | (go_at_call 100; refine (refRoots_any _).mono ?_; rintro e w6 ⟨rfl, hB6⟩; have HB6 : Hid _ := hB6; clear hB6)
    | (go_at_call 101; refine (refCubes_any _).mono ?_; rintro e w8 ⟨rfl, hB8⟩; have HB8 : Hid _ := hB8; clear hB8)
    | refine Own.wpList_alloc_at _ rfl 177 rfl (Own.zeros 8 (.int .u64 0)) (by kernel_rfl) ?_
    | refine Own.wpList_alloc_at _ rfl 179 rfl (Own.zeros 80 (.int .u64 0)) (by kernel_rfl) ?_
    | refine Own.wpList_store_new rfl 177 _ _ rfl (Own.zeros 8 (.int .u64 0)) (Own.mkRow 8 (hCell Sha.start)) 177 rfl rfl (by kernel_rfl) (by kernel_rfl) (Own.all_one fun _ _ => rfl) ?_
    | refine Own.wpList_store_new rfl 179 _ _ rfl (Own.zeros 80 (.int .u64 0)) (Own.mkRow 80 kCell) 179 rfl rfl (by kernel_rfl) (by kernel_rfl) (Own.all_one fun _ _ => rfl) ?_)
   have hs8 : w6.heap.size < w8.heap.size := by have := HB8.out.size; simp at this; omega
   go_loopw [8] (fun i wr => ∃ n : Nat, n ≤ nb ∧ i = .int .i64 ((128 * n : Nat) : Int) ∧ Below w6.heap.size w6 wr ∧ w8.heap.size < wr.heap.size ∧ wr.heap[w6.heap.size]? = some (.cells (Own.mkRow 8 (hCell (Sha.chain pl n))) 177 (0, 0)) ∧ wr.heap[w8.heap.size]? = some (.cells (Own.mkRow 80 kCell) 179 (0, 0))) (fun i _ => pl.length - (intOf i).toNat)
   case atStart =>
    have hs6 := HB8.out.size
    simp at hs6
    refine ⟨0, by omega, rfl, ((((Below.refl _ _).alloc (Nat.le_refl _) _).trans (HB8.out.mono (by simp)))).alloc (by omega) _, by simp, ?_, heap_alloc_new _ _⟩
    rw [Below.heap_alloc _ _ _ (by omega), HB8.out.block _ (by simp), heap_alloc_new]; rfl
   case round =>
    rename World => wa
    obtain ⟨n, hn, rfl, hbe, hsz, hrow, hrk⟩ := hrel
    have HBE : Hid _ := hbe
    have HROW : Hid _ := hrow
    have HRK : Hid _ := hrk
    clear hbe hrow hrk
    by_cases hlt : n < nb
    ·go_wp2_with (first
      | refine Own.wpList_alloc_at _ rfl 179 rfl (Own.zeros 80 (.int .u64 0)) (by kernel_rfl) ?_)
     have hszb : w8.heap.size < wa.heap.size := hsz
     go_loopw [10] (fun i wq => ∃ k : Nat, k ≤ 80 ∧ i = .int .i64 (k : Int) ∧ Below wa.heap.size wa wq ∧ wq.heap[wa.heap.size]? = some (.cells (Own.mkRow 80 (wCell (Sha.blockAt pl n) k)) 179 (0, 0))) (fun i _ => 80 - (intOf i).toNat)
     case atStart =>
      exact ⟨0, by omega, rfl, (Below.refl _ _).alloc (Nat.le_refl _) _, by rw [heap_alloc_new]; rfl⟩
     case round =>
      obtain ⟨k, hk, rfl, hb2, hr2⟩ := hrel
      rename World => wb
      have HB2 : Hid _ := hb2
      have HR2 : Hid _ := hr2
      clear hb2 hr2
      by_cases hk80 : k < 80
      ·have hfz := Own.row_frozen HR2.out k
       have hck := Own.row_cell HR2.out k hk80
       have hcv : wCell (Sha.blockAt pl n) k k = .int .u64 0 := by unfold wCell; rw [if_neg (by omega)]
       rw [hcv] at hck
       clear hcv
       by_cases hk16 : k < 16
       ·go_wp2_with (first
         | (go_at_call 102; refine (refWord_int _ _ (by omega) (by rw [HS.out]; omega) (by rw [HS.out]; omega) _).mono ?_; rintro e w' ⟨rfl, rfl⟩))
        exact ⟨⟨k + 1, by omega, by go_num, HB2.out.setCell (by simp) _, by rw [Own.row_store HR2.out, wRow_step _ k _ (w_low_val pl n k hk16)]⟩, by simp [intOf]; omega⟩
       ·have hk16' : 16 ≤ k := by omega
        clear hk16
        have hr15 := Own.row_cell HR2.out (k - 15) (by omega)
        rw [wCell_lt (Sha.blockAt pl n) k (k - 15) (by omega)] at hr15
        go_wp2_with fail
        refine wp_region_quiet_lit (by kernel_rfl) (by kernel_rfl) ?_
        repeat (first | go_big_quiet_step ((go_at_call 103; exact Calls.quiet_of (refTurn_int _ _ (by decide) (by decide) _))) | quiet_step ((go_at_call 103; exact Calls.quiet_of (refTurn_int _ _ (by decide) (by decide) _))))
        refine wpQuiet_nil ?_
        intro _ hw'
        obtain ⟨nq, hw''⟩ := hw'
        subst hw''
        clear hr15 hfz hck
        have HB3 : Hid (Below wa.heap.size wa (wb.drewN nq)) := Go.below_drewN HB2.out nq
        have HR3 : Hid ((wb.drewN nq).heap[wa.heap.size]? = some (.cells (Own.mkRow 80 (wCell (Sha.blockAt pl n) k)) 179 (0, 0))) := HR2.out
        clear HB2 HR2
        generalize wb.drewN nq = wc at *
        have hr2 := Own.row_cell HR3.out (k - 2) (by omega)
        rw [wCell_lt (Sha.blockAt pl n) k (k - 2) (by omega)] at hr2
        go_wp2_with fail
        refine wp_region_quiet_lit (by kernel_rfl) (by kernel_rfl) ?_
        repeat (first | go_big_quiet_step ((go_at_call 103; exact Calls.quiet_of (refTurn_int _ _ (by decide) (by decide) _))) | quiet_step ((go_at_call 103; exact Calls.quiet_of (refTurn_int _ _ (by decide) (by decide) _))))
        refine wpQuiet_nil ?_
        intro _ hw'
        obtain ⟨nq, hw''⟩ := hw'
        subst hw''
        clear hr2
        have HB4 : Hid (Below wa.heap.size wa (wc.drewN nq)) := Go.below_drewN HB3.out nq
        have HR4 : Hid ((wc.drewN nq).heap[wa.heap.size]? = some (.cells (Own.mkRow 80 (wCell (Sha.blockAt pl n) k)) 179 (0, 0))) := HR3.out
        clear HB3 HR3
        generalize wc.drewN nq = wd at *
        have hr7 := Own.row_cell HR4.out (k - 7) (by omega)
        rw [wCell_lt (Sha.blockAt pl n) k (k - 7) (by omega)] at hr7
        have hr16 := Own.row_cell HR4.out (k - 16) (by omega)
        rw [wCell_lt (Sha.blockAt pl n) k (k - 16) (by omega)] at hr16
        have hfz := Own.row_frozen HR4.out k
        have hck := Own.row_cell HR4.out k hk80
        rw [wCell_ge (Sha.blockAt pl n) k k (by omega)] at hck
        go_wp2_with fail
        go_region
        all_goals go_wp2_with fail
        exact ⟨⟨k + 1, by omega, by go_num, (HB4.out.setCell (Nat.le_refl _) _).drew, by rw [heap_drew, Own.row_store HR4.out, wRow_step _ k _ (w_high_val _ k hk16')]⟩, by simp [intOf]; omega⟩
      ·obtain rfl : k = 80 := by omega
       have hblk : wb.heap[w6.heap.size]? = some (.cells (Own.mkRow 8 (hCell (Sha.chain pl n))) 177 (0, 0)) := (HB2.out.block _ (by omega)).trans HROW.out
       have HBLK : Hid _ := hblk
       clear hblk
       go_wp2_with (first
        | refine wpList_load_row rfl 177 _ rfl w6.heap.size rfl 177 (Own.mkRow 8 (hCell (Sha.chain pl n))) (0, 0) _ HBLK.out Tryz.underlying177 rfl (by kernel_rfl) ?_
        | refine Own.wpList_alloc_at _ rfl 177 rfl (Own.zeros 8 (.int .u64 0)) (by kernel_rfl) ?_
        | refine Own.wpList_store_new rfl 177 _ _ rfl (Own.zeros 8 (.int .u64 0)) (Own.mkRow 8 (hCell (Sha.chain pl n))) 177 rfl rfl (by kernel_rfl) (by kernel_rfl) (Own.all_one fun _ _ => rfl) ?_)
       have hwab : wa.heap.size < wb.heap.size := (Array.getElem?_eq_some_iff.1 HR2.out).1
       have HK2 : Hid (wb.heap[w8.heap.size]? = some (.cells (Own.mkRow 80 kCell) 179 (0, 0))) := (HB2.out.block _ hszb).trans HRK.out
       go_loopw [14] (fun i wq => ∃ k : Nat, k ≤ 80 ∧ i = .int .i64 (k : Int) ∧ Below wb.heap.size wb wq ∧ wq.heap[wb.heap.size]? = some (.cells (Own.mkRow 8 (hCell (Sha.rounds (Sha.blockAt pl n) (Sha.chain pl n) k))) 177 (0, 0))) (fun i _ => 80 - (intOf i).toNat)
       case atStart =>
        exact ⟨0, by omega, rfl, (Below.refl _ _).alloc (Nat.le_refl _) _, by rw [heap_alloc_new]; rfl⟩
       case round =>
        rename World => wc
        obtain ⟨k, hk, rfl, hb3, hr3⟩ := hrel
        have HB3 : Hid _ := hb3
        have HR3 : Hid _ := hr3
        clear hb3 hr3
        by_cases hk80 : k < 80
        ·generalize hst : Sha.rounds (Sha.blockAt pl n) (Sha.chain pl n) k = st at *
         have HST : Hid _ := hst
         clear hst
         have hv0 := vcell0 HR3.out
         have hv4 := vcell4 HR3.out
         go_wp2_with fail
         have hv7 := vcell7 HR3.out
         have hv5 := vcell5 HR3.out
         have hv6 := vcell6 HR3.out
         have hkc := kcell ((HB3.out.block _ (by omega)).trans HK2.out) k hk80
         have hwc := wcell ((HB3.out.block _ hwab).trans HR2.out) k hk80
         refine wp_region_quiet_lit (by kernel_rfl) (by kernel_rfl) ?_
         repeat (first | go_big_quiet_step ((go_at_call 103; exact Calls.quiet_of (refTurn_int _ _ (by decide) (by decide) _))) | quiet_step ((go_at_call 103; exact Calls.quiet_of (refTurn_int _ _ (by decide) (by decide) _))))
         refine wpQuiet_nil ?_
         intro _ hw'
         obtain ⟨nq, hw''⟩ := hw'
         subst hw''
         clear hv0 hv4 hv5 hv6 hv7 hkc hwc
         have HB4 : Hid (Below wb.heap.size wb (wc.drewN nq)) := Go.below_drewN HB3.out nq
         have HR4 : Hid ((wc.drewN nq).heap[wb.heap.size]? = some (.cells (Own.mkRow 8 (hCell st)) 177 (0, 0))) := HR3.out
         clear HB3 HR3
         generalize wc.drewN nq = wd at *
         have hv1 := vcell1 HR4.out
         have hv2 := vcell2 HR4.out
         go_wp2_with fail
         refine wp_region_quiet_lit (by kernel_rfl) (by kernel_rfl) ?_
         repeat (first | go_big_quiet_step ((go_at_call 103; exact Calls.quiet_of (refTurn_int _ _ (by decide) (by decide) _))) | quiet_step ((go_at_call 103; exact Calls.quiet_of (refTurn_int _ _ (by decide) (by decide) _))))
         refine wpQuiet_nil ?_
         intro _ hw'
         obtain ⟨nq, hw''⟩ := hw'
         subst hw''
         clear hv1 hv2
         have HB5' : Hid (Below wb.heap.size wb (wd.drewN nq)) := Go.below_drewN HB4.out nq
         have HR5 : Hid ((wd.drewN nq).heap[wb.heap.size]? = some (.cells (Own.mkRow 8 (hCell st)) 177 (0, 0))) := HR4.out
         clear HB4 HR4
         generalize wd.drewN nq = we at *
         go_wp2_with fail
         go_loopw [19] (fun i wq => ∃ j : Nat, j ≤ 7 ∧ i = .int .i64 (j : Int) ∧ Below wb.heap.size wb wq ∧ wq.heap[wb.heap.size]? = some (.cells (Own.mkRow 8 (shiftF st j)) 177 (0, 0))) (fun i _ => (intOf i).toNat)
         case atStart =>
          exact ⟨7, by omega, rfl, HB5'.out, by rw [HR5.out, shiftF_seven]⟩
         case round =>
          rename World => wf
          obtain ⟨j, hj, rfl, hb6, hr6⟩ := hrel
          have HB6' : Hid _ := hb6
          have HR6 : Hid _ := hr6
          clear hb6 hr6 HB5' HR5
          by_cases hj0 : 0 < j
          ·have hz := Own.row_frozen HR6.out j
           have hc1 := shcell HR6.out j (by omega)
           have hc2 := shcell HR6.out (j - 1) (by omega)
           go_wp2_with fail
           exact ⟨⟨j - 1, by omega, by congr 1; omega, HB6'.out.setCell (Nat.le_refl _) _, by rw [Own.row_store HR6.out, shiftF_step st j hj0 hj]⟩, by simp [intOf]; omega⟩
          ·obtain rfl : j = 0 := by omega
           have hz4 := Own.row_frozen HR6.out 4
           have hz0 := Own.row_frozen HR6.out 0
           have hc4 : wf.cell? ⟨wb.heap.size, 4, none⟩ = some (.int .u64 (un st.d)) := shcell HR6.out 4 (by decide)
           have hc0 : wf.cell? ⟨wb.heap.size, 0, none⟩ = some (.int .u64 (un st.a)) := shcell HR6.out 0 (by decide)
           go_wp2_with fail
           exact ⟨⟨k + 1, by omega, by go_num, (HB6'.out.setCell (Nat.le_refl _) _).setCell (Nat.le_refl _) _, by rw [Own.row_store (Own.row_store HR6.out 4 _), round_row, show Sha.rounds (Sha.blockAt pl n) (Sha.chain pl n) (k + 1) = Sha.round st (Sha.kAt k) (Sha.W (Sha.blockAt pl n) k) from by rw [← HST.out]; rfl]⟩, by simp [intOf]; omega⟩
        ·obtain rfl : k = 80 := by omega
         have hwbc : wb.heap.size < wc.heap.size := (Array.getElem?_eq_some_iff.1 HR3.out).1
         have H1 : Hid (Below w6.heap.size w6 wc) := HBE.out.trans ((HB2.out.mono (by omega)).trans (HB3.out.mono (by omega)))
         have H2 : Hid (wc.heap[w6.heap.size]? = some (.cells (Own.mkRow 8 (hCell (Sha.chain pl n))) 177 (0, 0))) := (HB3.out.block _ (by omega)).trans HBLK.out
         have H3 : Hid (wc.heap[w8.heap.size]? = some (.cells (Own.mkRow 80 kCell) 179 (0, 0))) := (HB3.out.block _ (by omega)).trans HK2.out
         generalize hst : Sha.rounds (Sha.blockAt pl n) (Sha.chain pl n) 80 = st at *
         have HST : Hid _ := hst
         clear hst
         go_wp2_with fail
         go_loopw [20] (fun i wq => ∃ k : Nat, k ≤ 8 ∧ i = .int .i64 (k : Int) ∧ Below w6.heap.size w6 wq ∧ wq.heap[w6.heap.size]? = some (.cells (Own.mkRow 8 (addF (Sha.chain pl n) st k)) 177 (0, 0)) ∧ wq.heap[w8.heap.size]? = some (.cells (Own.mkRow 80 kCell) 179 (0, 0)) ∧ wq.heap[wb.heap.size]? = some (.cells (Own.mkRow 8 (hCell st)) 177 (0, 0))) (fun i _ => 8 - (intOf i).toNat)
         case atStart =>
          exact ⟨0, by omega, rfl, H1.out, by rw [H2.out]; rfl, H3.out, HR3.out⟩
         case round =>
          rename World => wg
          obtain ⟨k, hk, rfl, hb7, hr7, hk7, hv7⟩ := hrel
          have HB7 : Hid _ := hb7
          have HR7 : Hid _ := hr7
          have HK7 : Hid _ := hk7
          have HV7 : Hid _ := hv7
          clear hb7 hr7 hk7 hv7 H1 H2 H3
          by_cases hk8 : k < 8
          ·have hz := Own.row_frozen HR7.out k
           have hc1 := addcell HR7.out hk8
           have hc2 := hcell HV7.out hk8
           go_wp2_with fail
           go_region
           all_goals go_wp2_with fail
           refine ⟨⟨k + 1, by omega, by go_num, (HB7.out.setCell (Nat.le_refl _) _).drew, ?_, ?_, ?_⟩, by simp [intOf]; omega⟩
           ·rw [heap_drew, Own.row_store HR7.out, addF_step _ _ k hk8]
           ·rw [heap_drew, heap_setCell_other _ _ _ _ (by simp; omega)]; exact HK7.out
           ·rw [heap_drew, heap_setCell_other _ _ _ _ (by simp; omega)]; exact HV7.out
          ·obtain rfl : k = 8 := by omega
           go_wp2_with fail
           refine ⟨⟨n + 1, by omega, by congr 1 <;> omega, HB7.out, ?_, ?_, HK7.out⟩, by simp [intOf]; omega⟩
           ·have := (Array.getElem?_eq_some_iff.1 HV7.out).1; omega
           ·rw [HR7.out, addF_eight, show Sha.chain pl (n + 1) = (Sha.chain pl n).add st from by rw [← HST.out]; rfl]
    ·obtain rfl : n = nb := by omega
     go_wp2_with fail
     go_loopw [21, 22] (fun o i wq => ∃ k : Nat, k ≤ 8 ∧ i = .int .i64 (k : Int) ∧ o = .string (pstr (Sha.chain pl n) k) ∧ Below w6.heap.size w6 wq ∧ wq.heap[w6.heap.size]? = some (.cells (Own.mkRow 8 (hCell (Sha.chain pl n))) 177 (0, 0))) (fun _ i _ => 8 - (intOf i).toNat)
     case atStart =>
      exact ⟨0, by omega, rfl, rfl, HBE.out, HROW.out⟩
     case round =>
      rename World => wg
      obtain ⟨k, hk, rfl, rfl, hb7, hr7⟩ := hrel
      have HB7 : Hid _ := hb7
      have HR7 : Hid _ := hr7
      clear hb7 hr7
      by_cases hk8 : k < 8
      ·have hc2 := hcell HR7.out hk8
       have hp := pstr_size (Sha.chain pl n) k
       go_wp2_with (first
        | (go_at_call 99; refine (refBytes_b _ _).mono ?_; rintro e w' ⟨rfl, hb⟩; have hby := bstr_size ((Sha.chain pl n).list[k]?.getD 0#64).toNat))
       go_roundw
       case rel => (repeat apply Exists.intro); exact ⟨⟨k + 1, by omega, by go_num, congrArg Value.string (pstr_step _ k hk8), HB7.out.trans (hb.mono (by have := (Array.getElem?_eq_some_iff.1 HR7.out).1; omega)), (hb.block _ (Array.getElem?_eq_some_iff.1 HR7.out).1).trans HR7.out⟩, rfl⟩
       case measure => simp [intOf]; omega
      ·obtain rfl : k = 8 := by omega
       go_wp2_with fail
       go_ret
       refine ⟨congrArg (fun x => Ending.returned (.string x)) ?_, (HB5.out.trans (HB6.out.mono (HB5.out.size))).trans (HB7.out.mono (Nat.le_trans HB5.out.size HB6.out.size))⟩
       rw [pstr_eight]
       simp only [Sha.sha, HP.out]
       rw [show pl.length / 128 = n by omega]
end Go.Proofs.YtbojijefenfbgaaGreatDoor

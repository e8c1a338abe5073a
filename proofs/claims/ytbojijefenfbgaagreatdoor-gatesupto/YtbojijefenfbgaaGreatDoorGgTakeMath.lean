/- Plain mathematics of taking a text block by block. Walk of the program's hash: take. Walks of the program's hash: finish, sum, start. Walks of the program's hash: sum, start. Walks of the program's hash: Of; and of the call Hash. -/
import Derived.Test.YtbojijefenfbgaaGreatDoorGgStateWalks
import Derived.Test.YtbojijefenfbgaaGreatDoorGgMixWalk
import Derived.Laws.CopyRow
import Derived.Deep.CutRange
import Derived.Deep.RegionWith
import Derived.Deep.MidRow
namespace Go.Proofs.YtbojijefenfbgaaGreatDoor
namespace Hs
open Sha
theorem wl_congr {b c : Nat → BitVec 64} (h : ∀ j, j < 16 → b j = c j) (n : Nat) : wl b n = wl c n := by
 induction n with
 | zero => rfl
 | succ n ih =>
  simp only [wl, ih, nextW]
  by_cases hn : n < 16
  ·rw [if_pos hn, if_pos hn, h n hn]
  ·rw [if_neg hn, if_neg hn]
theorem W_congr {b c : Nat → BitVec 64} (h : ∀ j, j < 16 → b j = c j) (n : Nat) : W b n = W c n := by
 unfold W
 rw [wl_congr h n]
 unfold nextW
 by_cases hn : n < 16
 ·rw [if_pos hn, if_pos hn, h n hn]
 ·rw [if_neg hn, if_neg hn]
theorem compress_congr {b c : Nat → BitVec 64} (h : ∀ j, j < 16 → b j = c j) (s : St) : compress s b = compress s c := by
 have : ∀ n, rounds b s n = rounds c s n := fun n => by
  induction n with
  | zero => rfl
  | succ n ih => simp only [rounds, ih, W_congr h n]
 unfold compress
 rw [this]
theorem wordAt_append (l r : List UInt8) (p : Nat) (h : p + 8 ≤ l.length) : wordAt (l ++ r) p = wordAt l p := by
 unfold wordAt
 rw [List.drop_append_of_le_length (by omega), List.take_append_of_le_length (by simp; omega)]
theorem chain_append (l r : List UInt8) (n : Nat) (h : 128 * n ≤ l.length) : chain (l ++ r) n = chain l n := by
 induction n with
 | zero => rfl
 | succ n ih =>
  simp only [chain]
  rw [ih (by omega)]
  exact compress_congr (fun j hj => wordAt_append l r _ (by omega)) _
theorem wordAt_eight (l : List UInt8) (p : Nat) (h : p + 8 ≤ l.length) : wordAt l p = wordOf (eight (fun i => l.getD i 0) p) := by
 unfold wordAt
 congr 1
 apply List.ext_getElem
 ·simp [eight]; omega
 ·intro i h1 h2
  rw [eight_get, List.getElem_take, List.getElem_drop, List.getD_eq_getElem?_getD, List.getElem?_eq_getElem (by simp at h1; omega)]
  rfl
def Tk (t : List UInt8) (s : St) (bs : Nat → UInt8) (m : Nat) : Prop := s = chain t (t.length / 128) ∧ m = t.length % 128 ∧ ∀ i, i < m → bs i = t.getD (128 * (t.length / 128) + i) 0
theorem Tk.lt {t : List UInt8} {s : St} {bs : Nat → UInt8} {m : Nat} (h : Tk t s bs m) : m < 128 := by have := h.2.1; omega
theorem Tk.start (bs : Nat → UInt8) : Tk [] Sha.start bs 0 := ⟨rfl, rfl, fun _ h => absurd h (by omega)⟩
def over (bs : Nat → UInt8) (m n : Nat) (r : List UInt8) (i : Nat) : UInt8 := if m ≤ i ∧ i < m + n then r.getD (i - m) 0 else bs i
theorem over_get {t : List UInt8} {s : St} {bs : Nat → UInt8} {m : Nat} (h : Tk t s bs m) (r : List UInt8) (n : Nat) (_hn : n ≤ r.length) (i : Nat) (hi : i < m + n) :
  over bs m n r i = (t ++ r.take n).getD (128 * (t.length / 128) + i) 0 := by
 have hm := h.2.1
 unfold over
 by_cases hlt : i < m
 ·rw [if_neg (by omega), h.2.2 i hlt]
  simp only [List.getD_eq_getElem?_getD]
  rw [List.getElem?_append_left (by omega)]
 ·rw [if_pos (by omega)]
  simp only [List.getD_eq_getElem?_getD]
  rw [List.getElem?_append_right (by omega), List.getElem?_take, if_pos (by omega), show 128 * (t.length / 128) + i - t.length = i - m by omega]
theorem Tk.more {t : List UInt8} {s : St} {bs : Nat → UInt8} {m : Nat} (h : Tk t s bs m) (r : List UInt8) (n : Nat) (hn : n ≤ r.length) (hfit : m + n < 128) : Tk (t ++ r.take n) s (over bs m n r) (m + n) := by
 have hm := h.2.1
 have hl : (t ++ r.take n).length = t.length + n := by simp; omega
 have hq : (t.length + n) / 128 = t.length / 128 := by omega
 refine ⟨?_, by rw [hl]; omega, fun i hi => ?_⟩
 ·rw [hl, hq, chain_append _ _ _ (by omega)]; exact h.1
 ·rw [hl, hq]; exact over_get h r n hn i hi
theorem Tk.full {t : List UInt8} {s : St} {bs : Nat → UInt8} {m : Nat} (h : Tk t s bs m) (r : List UInt8) (n : Nat) (hn : n ≤ r.length) (hfit : m + n = 128) : Tk (t ++ r.take n) (compress s (blkOf (over bs m n r))) (over bs m n r) 0 := by
 have hm := h.2.1
 have hl : (t ++ r.take n).length = t.length + n := by simp; omega
 have hq : (t.length + n) / 128 = t.length / 128 + 1 := by omega
 refine ⟨?_, by rw [hl]; omega, fun i hi => absurd hi (by omega)⟩
 rw [hl, hq]
 simp only [chain]
 rw [chain_append _ _ _ (by omega), ← h.1]
 refine compress_congr (fun j hj => ?_) _
 unfold blkOf blockAt
 rw [wordAt_eight _ _ (by rw [hl]; omega)]
 congr 1
 have e : ∀ i, i < 8 → over bs m n r (8 * j + i) = (t ++ r.take n).getD (128 * (t.length / 128) + 8 * j + i) 0 := fun i hi => by
  rw [over_get h r n hn _ (by omega), Nat.add_assoc]
 have e0 := e 0 (by omega)
 simp only [Nat.add_zero] at e0
 simp only [eight]
 rw [e0, e 1 (by omega), e 2 (by omega), e 3 (by omega), e 4 (by omega), e 5 (by omega), e 6 (by omega), e 7 (by omega)]
end Hs
end Go.Proofs.YtbojijefenfbgaaGreatDoor
namespace Go.Proofs.YtbojijefenfbgaaGreatDoor
open Go.RowKit
namespace Hs
attribute [local go_sem] UV.u_add UV.u_mul UV.u_sub UV.u_xor UV.u_and UV.u_or UV.u_shr UV.u_shl UV.u_not UV.u_notm UV.u_wrap_un
def copyF (f : Nat → Value) (o n : Nat) (l : List UInt8) (j : Nat) : Value := if o ≤ j ∧ j < o + n then .int .u8 ((l.getD (j - o) 0).toNat : Int) else f j
theorem copy_list (N o n : Nat) (f : Nat → Value) (l : List UInt8) (hn : n ≤ l.length) (hfit : o + n ≤ N) :
  ((Own.mkRow N f).toList.take o ++ (l.take n).map (fun c => Value.int .u8 (c.toNat : Int)) ++ (Own.mkRow N f).toList.drop (o + n)).toArray = Own.mkRow N (copyF f o n l) := by
 have hs : (Own.mkRow N f).toList.length = N := by rw [Array.length_toList, Own.mkRow_size]
 have hg : ∀ j (h : j < (Own.mkRow N f).toList.length), (Own.mkRow N f).toList[j] = f j := fun j h => by
  have := Own.mkRow_get (f := f) (show j < N by omega)
  rw [Array.getElem?_eq_some_iff] at this
  obtain ⟨_, e⟩ := this
  simpa using e
 refine Own.mkRow_list _ N (by simp [Own.mkRow_size]; omega) _ (fun j hj => ?_)
 unfold copyF
 rw [List.getElem_append]
 by_cases h1 : j < ((Own.mkRow N f).toList.take o ++ (l.take n).map (fun c => Value.int .u8 (c.toNat : Int))).length
 ·rw [dif_pos h1, List.getElem_append]
  by_cases h2 : j < ((Own.mkRow N f).toList.take o).length
  ·rw [dif_pos h2, List.getElem_take, hg, if_neg (by simp [Own.mkRow_size] at h2; omega)]
  ·rw [dif_neg h2]
   have h3 : ((Own.mkRow N f).toList.take o).length = o := by simp [Own.mkRow_size]; omega
   have h4 : j < o + n := by simp [Own.mkRow_size] at h1; omega
   rw [if_pos (by omega)]
   simp only [List.getElem_map, List.getElem_take, h3]
   rw [List.getD_eq_getElem?_getD, List.getElem?_eq_getElem (by omega)]
   rfl
 ·rw [dif_neg h1, List.getElem_drop, hg]
  have h3 : ((Own.mkRow N f).toList.take o ++ (l.take n).map (fun c => Value.int .u8 (c.toNat : Int))).length = o + n := by simp [Own.mkRow_size]; omega
  rw [if_neg (by omega)]
  congr 1
  omega
theorem run_copy_min (w : World) (g o dLen dCap N : Nat) (s : ByteArray) (f : Nat → Value) (t ty : TypeId) (hg : w.heap[g]? = some (.cells (Own.mkRow N f) t (0, 0))) (hfit : o + dLen ≤ N) :
  Sem.run Tryz.prog (Builtin.copy_ #[145, 9] ty #[.slice (some ⟨g, o, none⟩) dLen dCap, .string s]) w =
   .ok (.int .i64 ((min s.size dLen : Nat) : Int)) (w.setRow g (Own.mkRow N (copyF f o (min s.size dLen) s.data.toList))) := by
 have hlen : s.data.toList.length = s.size := by simp
 obtain ⟨i, hi, _, _, _⟩ := info_parts info_u8
 have hst := run_storeCells_at Tryz.prog g o t ((s.data.toList.take (min s.size dLen)).map (fun c => Value.int .u8 (c.toNat : Int))) 0 (Own.mkRow N f) w hg (by simp [Own.mkRow_size]; omega) (fun v hv => by obtain ⟨c, _, rfl⟩ := List.mem_map.1 hv; rfl)
 simp only [Nat.add_zero] at hst
 rw [show ((s.data.toList.take (min s.size dLen)).map (fun c => Value.int .u8 (c.toNat : Int))).length = min s.size dLen by simp] at hst
 rw [copy_list N o _ f _ (by omega) (by omega)] at hst
 simp [Builtin.copy_, run_underlying Tryz.underlying145, Builtin.lenOf, Builtin.firstCells, sizeOf, typeInfo, hi]
 rw [← List.map_take, hst]
 simp [Result.andThen, goInt]
def Taken (w : World) (b : Nat) (t : List UInt8) : Prop := ∃ s bs m, StateAt w b s bs m ∧ Tk t s bs m
theorem copy_state (s : Sha.St) (bs : Nat → UInt8) (m n : Nat) (l : List UInt8) (h : m + n ≤ 128) : Own.mkRow 137 (copyF (stF s bs m) (8 + m) n l) = Own.mkRow 137 (stF s (over bs m n l) m) := by
 refine Own.mkRow_congr (fun j hj => ?_)
 unfold copyF stF over
 by_cases h8 : j < 8
 ·rw [if_neg (by omega), if_pos h8, if_pos h8]
 ·rw [if_neg h8, if_neg h8]
  by_cases h136 : j < 136
  ·rw [if_pos h136, if_pos h136]
   by_cases hin : 8 + m ≤ j ∧ j < 8 + m + n
   ·rw [if_pos hin, if_pos (by omega), show j - (8 + m) = j - 8 - m by omega]
   ·rw [if_neg hin, if_neg (by omega)]
  ·rw [if_neg h136, if_neg h136, if_neg (by omega)]
theorem fill_state (s : Sha.St) (bs : Nat → UInt8) (m k : Nat) (K : Int) (hK : K = (k : Int)) : Own.mkRow 137 (fun j => if j = 136 then .int .i64 K else stF s bs m j) = Own.mkRow 137 (stF s bs k) := by
 subst hK
 refine Own.mkRow_congr (fun j hj => ?_)
 unfold stF
 by_cases e : j = 136
 ·rw [if_pos e, if_neg (by omega), if_neg (by omega)]
 ·rw [if_neg e]
  by_cases h8 : j < 8
  ·rw [if_pos h8, if_pos h8]
  ·rw [if_neg h8, if_neg h8, if_pos (by omega), if_pos (by omega)]
theorem rest_list (r : ByteArray) (n : Nat) : (r.extract n r.size).data.toList = r.data.toList.drop n := by
 rw [ByteArray.data_extract, Array.toList_extract, List.extract_eq_take_drop]
 exact List.take_of_length_le (by simp)
def strLen : Value → Nat
 | .string r => r.size
 | _ => 0
theorem Only.setRow (w : World) (b : Nat) (cs : Array Value) : Only b w (w.setRow b cs) :=
 ⟨rfl, rfl, rfl, by simp [World.setRow], fun k _ hb => by show (Array.modify _ _ _)[k]? = _; rw [Array.getElem?_modify, if_neg (Ne.symm hb)]⟩
set_option maxHeartbeats 2000000 in
set_option maxRecDepth 100000 in
theorem take_any (w : World) (b : Nat) (t : List UInt8) (text : ByteArray) (h : Taken w b t) (hb0 : b ≠ 0) (htab : TabAt w) (hsz : text.size ≤ 1000000000000) :
  Calls Tryz.prog 170 #[.pointer (some ⟨b, 0, none⟩), .string text] w fun e w' => e = .returned (.tuple #[]) ∧ Only b w w' ∧ Taken w' b (t ++ text.data.toList) := by
 have HH : Hid _ := h
 have HT : Hid _ := htab
 clear h htab
 go_enter Tryz.func170, Tryz.ntmps170
 go_wp2_with fail
 go_loopw [1] (fun x wq => ∃ (u : List UInt8) (r : ByteArray), x = .string r ∧ r.size ≤ text.size ∧ u ++ r.data.toList = text.data.toList ∧ Only b w wq ∧ Taken wq b (t ++ u)) (fun x _ => strLen x)
 case atStart => exact ⟨[], text, rfl, Nat.le_refl _, rfl, Only.refl _ _, by rw [List.append_nil]; exact HH.out⟩
 case round =>
  rename World => wa
  obtain ⟨u, r, rfl, hrs, hur, ho, s, bs, m, hst, htk⟩ := hrel
  have HUR : Hid _ := hur
  have HO : Hid _ := ho
  have HS : Hid _ := hst
  have HK : Hid _ := htk
  have hm := htk.lt
  clear hur ho hst htk
  by_cases hr0 : 0 < r.size
  ·have hfil := st_filled HS.out
   have hsl := fun W => slice128 W b 8 m (m : Int) rfl hm
   have hcp := run_copy_min wa.drew b (8 + m) (128 - m) (128 - m) 137 r (stF s bs m) 270 3 HS.out (by omega)
   obtain ⟨n, hn⟩ : ∃ n, n = min r.size (128 - m) := ⟨_, rfl⟩
   rw [← hn] at hcp
   rw [copy_state s bs m n _ (by omega)] at hcp
   have hn1 : 0 < n := by omega
   have hn2 : n ≤ r.size := by omega
   have hn3 : m + n ≤ 128 := by omega
   have HN : Hid _ := hn
   clear hn
   go_wp2_with fail
   go_region
   clear hcp hsl hfil
   have HX1 : Hid (Only b w (wa.drew.setRow b (Own.mkRow 137 (stF s (over bs m n r.data.toList) m)))) := HO.out.drew.trans (Only.setRow _ _ _)
   have HX2 : Hid (StateAt (wa.drew.setRow b (Own.mkRow 137 (stF s (over bs m n r.data.toList) m))) b s (over bs m n r.data.toList) m) := setRow_heap _ _ _ _ _ _ (show wa.drew.heap[b]? = _ from HS.out)
   clear HO HS
   generalize wa.drew.setRow b (Own.mkRow 137 (stF s (over bs m n r.data.toList) m)) = w1 at *
   have hfil := st_filled HX2.out
   have hfz := st_frozen HX2.out 136
   have HR2 : Hid (r.size ≤ r.data.toList.length) := Nat.le_refl _
   by_cases hfull : m + n = 128
   ·have hne : ((m : Int) + (n : Int) == 128) = true := by rw [beq_iff_eq]; omega
    have HX3 : Hid (StateAt (w1.setCell ⟨b, 136, none⟩ (.int .i64 ((m : Int) + (n : Int)))) b s (over bs m n r.data.toList) 128) := by
     show _ = _
     rw [Own.row_store HX2.out, fill_state _ _ _ 128 _ (by omega)]
    have HO3 : Hid (Only b w (w1.setCell ⟨b, 136, none⟩ (.int .i64 ((m : Int) + (n : Int))))) := HX1.out.trans (Only.setCell _ _ _ _)
    go_wp2_with (first
     | (go_at_call 236; refine (mix_any _ b s (over bs m n r.data.toList) 128 HX3.out hb0 (TabAt.only HT.out HO3.out hb0)).mono ?_; rintro e w3 ⟨rfl, ho3, hs3⟩; have HO4 : Hid _ := ho3; have HS4 : Hid _ := hs3; have hfil4 := st_filled hs3; have hfz4 := st_frozen hs3 136; clear ho3 hs3))
    refine ⟨⟨u ++ r.data.toList.take n, r.extract n r.size, rfl, ?_, ?_, (HO3.out.trans HO4.out).trans (Only.setCell _ _ _ _), ?_⟩, ?_⟩
    ·rw [ByteArray.size_extract]; omega
    ·rw [rest_list, List.append_assoc, List.take_append_drop]; exact HUR.out
    ·refine ⟨_, _, 0, ?_, by rw [← List.append_assoc]; exact Tk.full HK.out r.data.toList n (Nat.le_trans hn2 HR2.out) hfull⟩
     show _ = _
     rw [Own.row_store HS4.out, fill_state _ _ _ 0 0 rfl]
    ·show (r.extract n r.size).size < r.size
     rw [ByteArray.size_extract]; omega
   ·have hne : ((m : Int) + (n : Int) == 128) = false := by rw [beq_eq_false_iff_ne]; omega
    go_wp2_with fail
    refine ⟨⟨u ++ r.data.toList.take n, r.extract n r.size, rfl, ?_, ?_, HX1.out.trans (Only.setCell _ _ _ _), ?_⟩, ?_⟩
    ·rw [ByteArray.size_extract]; omega
    ·rw [rest_list, List.append_assoc, List.take_append_drop]; exact HUR.out
    ·refine ⟨s, _, m + n, ?_, by rw [← List.append_assoc]; exact Tk.more HK.out r.data.toList n (Nat.le_trans hn2 HR2.out) (by omega)⟩
     show _ = _
     rw [Own.row_store HX2.out, fill_state _ _ _ (m + n) _ (by omega)]
    ·show (r.extract n r.size).size < r.size
     rw [ByteArray.size_extract]; omega
  ·have hnil : Hid (r.data.toList = []) := List.eq_nil_of_length_eq_zero (show r.size = 0 by omega)
   go_wp2_with fail
   go_end0
   refine ⟨rfl, HO.out, ?_⟩
   have e : u = text.data.toList := by rw [← HUR.out, hnil.out, List.append_nil]
   rw [← e]
   exact ⟨s, bs, m, HS.out, HK.out⟩
end Hs
end Go.Proofs.YtbojijefenfbgaaGreatDoor
namespace Go.Proofs.YtbojijefenfbgaaGreatDoor
open Go.RowKit
namespace Hs
attribute [local go_sem] UV.u_add UV.u_mul UV.u_sub UV.u_xor UV.u_and UV.u_or UV.u_shr UV.u_shl UV.u_not UV.u_notm UV.u_wrap_un
theorem put_state (s : Sha.St) (bs : Nat → UInt8) (m p : Nat) (x : BitVec 64) (h : p + 8 ≤ 128) : Own.mkRow 137 (putF (stF s bs m) (8 + p) x 8) = Own.mkRow 137 (stF s (over bs p 8 (Sha.bytesOf x)) m) := by
 refine Own.mkRow_congr (fun j hj => ?_)
 unfold putF stF over
 by_cases h8 : j < 8
 ·rw [if_neg (by omega), if_pos h8, if_pos h8]
 ·rw [if_neg h8, if_neg h8]
  by_cases h136 : j < 136
  ·rw [if_pos h136, if_pos h136]
   by_cases hin : 8 + p ≤ j ∧ j < 8 + p + 8
   ·rw [if_pos hin, if_pos (by omega), List.getD_eq_getElem?_getD, List.getElem?_eq_getElem (show j - 8 - p < (Sha.bytesOf x).length by rw [Sha.bytesOf_length]; omega), Option.getD_some, bytesOf_get, show j - (8 + p) = j - 8 - p by omega]
   ·rw [if_neg hin, if_neg (by omega)]
  ·rw [if_neg h136, if_neg h136, if_neg (by omega)]
theorem over_over (bs : Nat → UInt8) (x y : BitVec 64) : over (over bs 112 8 (Sha.bytesOf x)) 120 8 (Sha.bytesOf y) = over bs 112 16 (Sha.bytesOf x ++ Sha.bytesOf y) := by
 funext i
 unfold over
 by_cases h1 : 120 ≤ i ∧ i < 120 + 8
 ·rw [if_pos h1, if_pos (by omega)]
  simp only [List.getD_eq_getElem?_getD]
  rw [List.getElem?_append_right (by rw [Sha.bytesOf_length]; omega), Sha.bytesOf_length, show i - 112 - 8 = i - 120 by omega]
 ·rw [if_neg h1]
  by_cases h2 : 112 ≤ i ∧ i < 112 + 8
  ·rw [if_pos h2, if_pos (by omega)]
   simp only [List.getD_eq_getElem?_getD]
   rw [List.getElem?_append_left (by rw [Sha.bytesOf_length]; omega)]
  ·rw [if_neg h2, if_neg (by omega)]
theorem padded_as (t : List UInt8) (z : Nat) (hz : z + 8 = Sha.gap t.length) (hi lo : BitVec 64) (h1 : hi = 0#64) (h2 : lo = BitVec.ofNat 64 (8 * t.length)) :
  t ++ [128] ++ List.replicate z 0 ++ (Sha.bytesOf hi ++ Sha.bytesOf lo).take 16 = Sha.padded t := by
 subst h1 h2
 have e : Sha.bytesOf 0#64 = List.replicate 8 0 := by decide
 rw [List.take_of_length_le (by simp [Sha.bytesOf_length]), e]
 unfold Sha.padded
 rw [← hz, ← List.replicate_append_replicate]
 simp only [List.append_assoc]
def leftOf : Option Value → Nat
 | some (.int _ v) => ((240 - v) % 128).toNat
 | _ => 0
theorem len_shr (n : Nat) (h : n ≤ 1000000000000) : BitVec.ofNat 64 n >>> 61 = 0#64 := by
 apply BitVec.eq_of_toNat_eq
 rw [BitVec.toNat_ushiftRight, BitVec.toNat_ofNat, Nat.shiftRight_eq_div_pow]
 simp
 omega
theorem len_shl (n : Nat) (_h : n ≤ 1000000000000) : BitVec.ofNat 64 n <<< 3 = BitVec.ofNat 64 (8 * n) := by
 apply BitVec.eq_of_toNat_eq
 rw [BitVec.toNat_shiftLeft, BitVec.toNat_ofNat, BitVec.toNat_ofNat, Nat.shiftLeft_eq]
 omega
theorem stF_byte (s : Sha.St) (bs : Nat → UInt8) (m j : Nat) (h1 : 8 ≤ j) (h2 : j < 136) : ∃ v : Int, stF s bs m j = .int .u8 v := ⟨_, by unfold stF; rw [if_neg (by omega), if_pos h2]⟩
set_option maxHeartbeats 2000000 in
set_option maxRecDepth 100000 in
theorem finish_any (w : World) (b : Nat) (t : List UInt8) (h : Taken w b t) (hb0 : b ≠ 0) (htab : TabAt w) (hsz : t.length ≤ 1000000000000) :
  Calls Tryz.prog 171 #[.pointer (some ⟨b, 0, none⟩), .int .u64 (un (BitVec.ofNat 64 t.length))] w fun e w' => e = .returned (.tuple #[]) ∧ Only b w w' ∧ ∃ bs m, StateAt w' b (Sha.chain (Sha.padded t) ((Sha.padded t).length / 128)) bs m := by
 have HH : Hid _ := h
 have HT : Hid _ := htab
 clear h htab
 have hg : Sha.gap t.length ≤ 135 ∧ 8 ≤ Sha.gap t.length ∧ (t.length + 1 + (Sha.gap t.length - 8)) % 128 = 112 := by unfold Sha.gap; omega
 obtain ⟨hg1, hg2, hg3⟩ := hg
 generalize hgg : Sha.gap t.length = gp at *
 have HG : Hid _ := hgg
 clear hgg
 go_enter Tryz.func171, Tryz.ntmps171
 go_wp2_with (first
  | (go_at_call 170; refine (take_any _ b t ⟨#[128]⟩ HH.out hb0 HT.out (by decide)).mono ?_; rintro e w1 ⟨rfl, ho1, ht1⟩; have HO1 : Hid _ := ho1; have HT1 : Hid _ := ht1; clear ho1 ht1))
 go_loopw [6] (fun _ wq => ∃ z : Nat, z + 8 ≤ gp ∧ Only b w wq ∧ Taken wq b (t ++ [128] ++ List.replicate z 0)) (fun _ wq => leftOf (wq.cell? ⟨b, 136, none⟩))
 case atStart => exact ⟨0, by omega, HO1.out, by rw [List.replicate_zero, List.append_nil]; exact HT1.out⟩
 case round =>
  clear HO1 HT1
  rename World => wa
  obtain ⟨z, hz, ho, s, bs, m, hst, htk⟩ := hrel
  have HO : Hid _ := ho
  have HS : Hid _ := hst
  have HK : Hid _ := htk
  have hm : m = (t.length + 1 + z) % 128 := by have := htk.2.1; simp only [List.length_append, List.length_replicate, List.length_cons, List.length_nil] at this; omega
  clear ho hst htk
  have hfil := st_filled HS.out
  by_cases hne : m = 112
  ·have hz8 : z + 8 = gp := by omega
   subst hne
   clear hm hg3
   have hsl1 := fun W => slice128 W b 8 112 112 rfl (by decide)
   have hsl2 := fun W => slice128 W b 8 120 120 rfl (by decide)
   have hx1 : un (BitVec.ofNat 64 t.length) / (2305843009213693952 : Int) = un 0#64 := by rw [← len_shr t.length hsz]; exact UV.u_shr _ 61
   have hx2 : IntKind.u64.wrap (un (BitVec.ofNat 64 t.length) * 8) = un (BitVec.ofNat 64 (8 * t.length)) := by rw [← len_shl t.length hsz]; exact UV.u_shl _ 3
   have HF : ∀ (bs : Nat → UInt8) (o : Nat), 8 ≤ o → o + 8 ≤ 136 → ∀ j, o ≤ j → j < o + 8 → ∃ v : Int, stF s bs 112 j = .int .u8 v := fun bs o h1 h2 j h3 h4 => stF_byte s bs 112 j (by omega) (by omega)
   have HF' : Hid _ := HF
   clear HF
   go_wp2_with (first
    | (go_at_call_of 237 (Value.int IntKind.u64 (un 0#64)); refine (putWord_any _ b 120 _ _ 137 (stF s bs 112) 270 0#64 (by decide) (by decide) (by decide) (by decide) (HF'.out bs 120 (by decide) (by decide)) HS.out).mono ?_; rintro e w2 ⟨rfl, ho2, hr2⟩; rw [put_state s bs 112 112 _ (by decide)] at hr2; have HO2 : Hid _ := ho2; have HR2 : Hid _ := hr2; clear ho2 hr2))
   refine (putWord_any _ b 128 _ _ 137 (stF s (over bs 112 8 (Sha.bytesOf 0#64)) 112) 270 (BitVec.ofNat 64 (8 * t.length)) (by decide) (by decide) (by decide) (by decide) (HF'.out _ 128 (by decide) (by decide)) HR2.out).mono ?_
   rintro e w3 ⟨rfl, ho3, hr3⟩
   rw [put_state s _ 112 120 _ (by decide), over_over] at hr3
   have HO3 : Hid _ := ho3
   have HR3 : Hid _ := hr3
   clear ho3 hr3
   have HO4 : Hid (Only b w w3) := (HO.out.trans HO2.out).trans HO3.out
   go_wp2_with (first
    | (go_at_call 236; refine (mix_any _ b s (over bs 112 16 (Sha.bytesOf 0#64 ++ Sha.bytesOf (BitVec.ofNat 64 (8 * t.length)))) 112 HR3.out hb0 (TabAt.only HT.out HO4.out hb0)).mono ?_; rintro e w5 ⟨rfl, ho5, hs5⟩; have HO5 : Hid _ := ho5; have HS5 : Hid _ := hs5; clear ho5 hs5))
   go_end0
   refine ⟨rfl, HO4.out.trans HO5.out, over bs 112 16 (Sha.bytesOf 0#64 ++ Sha.bytesOf (BitVec.ofNat 64 (8 * t.length))), 112, ?_⟩
   have hfull := Tk.full HK.out (Sha.bytesOf 0#64 ++ Sha.bytesOf (BitVec.ofNat 64 (8 * t.length))) 16 (by simp [Sha.bytesOf_length]) (by omega)
   rw [padded_as t z (by rw [HG.out]; exact hz8) _ _ rfl rfl] at hfull
   rw [← hfull.1]
   exact HS5.out
  ·have hne' : ((m : Int) != 112) = true := by rw [bne_iff_ne]; omega
   go_wp2_with (first
    | (go_at_call 170; refine (take_any _ b (t ++ [128] ++ List.replicate z 0) ⟨#[0]⟩ ⟨s, bs, m, HS.out, HK.out⟩ hb0 (TabAt.only HT.out HO.out hb0) (by decide)).mono ?_; rintro e w2 ⟨rfl, ho2, ht2⟩; have HO2 : Hid _ := ho2; have HT2 : Hid _ := ht2; clear ho2 ht2))
   refine ⟨⟨z + 1, by omega, HO.out.trans HO2.out, by rw [List.replicate_succ', ← List.append_assoc]; exact HT2.out⟩, ?_⟩
   obtain ⟨s2, bs2, m2, hs2, hk2⟩ := HT2.out
   have hm2 : m2 = (t.length + 1 + z + 1) % 128 := by
    have := hk2.2.1
    simp only [List.length_append, List.length_replicate, List.length_cons, List.length_nil, show (ByteArray.mk #[0]).data.toList.length = 1 from rfl] at this
    omega
   rw [hfil, st_filled hs2]
   show ((240 - (m2 : Int)) % 128).toNat < ((240 - (m : Int)) % 128).toNat
   omega
end Hs
end Go.Proofs.YtbojijefenfbgaaGreatDoor
namespace Go.Proofs.YtbojijefenfbgaaGreatDoor
open Go.RowKit
namespace Hs
attribute [local go_sem] UV.u_add UV.u_mul UV.u_sub UV.u_xor UV.u_and UV.u_or UV.u_shr UV.u_shl UV.u_not UV.u_notm UV.u_wrap_un
theorem slice64 (W : World) (b l : Nat) (L : Int) (hL : L = (l : Int)) (hl : l < 64) :
  Sem.run Tryz.prog (Instr.sliceAt 322 (.pointer (some ⟨b, 0, none⟩)) (some (.int .i64 L)) none none) W = .ok (.slice (some ⟨b, l, none⟩) (64 - l) (64 - l)) W := by
 subst hL
 have e1 : Tryz.prog.arrayLen 322 = 64 := by kernel_rfl
 have e2 : Tryz.prog.elem 322 = 5 := by kernel_rfl
 have h := run_sliceAt_array_l (P := Tryz.prog) W 322 ⟨b, 0, none⟩ (by kernel_rfl) .i64 (l : Int) (by omega) (by rw [e1]; omega)
 obtain ⟨i, hi, _, hz1, _⟩ := info_parts info_u8
 rw [h, e1, e2]
 simp [sizeOf, typeInfo, hi, hz1, slicedAt, Result.andThen, Addr.add_mid]
 omega
theorem slice64_all (W : World) (b : Nat) :
  Sem.run Tryz.prog (Instr.sliceAt 322 (.pointer (some ⟨b, 0, none⟩)) none none none) W = .ok (.slice (some ⟨b, 0, none⟩) 64 64) W := by
 have e1 : Tryz.prog.arrayLen 322 = 64 := by kernel_rfl
 have e2 : Tryz.prog.elem 322 = 5 := by kernel_rfl
 have h := run_sliceAt_array_all (P := Tryz.prog) W 322 ⟨b, 0, none⟩ (by kernel_rfl)
 obtain ⟨i, hi, _, hz1, _⟩ := info_parts info_u8
 rw [h, e1, e2]
 simp [sizeOf, typeInfo, hi, hz1, slicedAt, Result.andThen, Addr.add_mid]
def outB (s : Sha.St) (j : Nat) : UInt8 := Sha.byteOf (s.list.getD (j / 8) 0#64) (j % 8)
theorem out_get (s : Sha.St) (j : Nat) (h : j < (Sha.out s).length) : (Sha.out s)[j] = outB s j := by
 have h' : j < 64 := by rw [Sha.out_length] at h; exact h
 have e : Sha.out s = (List.range 64).map (outB s) := by rfl
 simp [e]
def outF (s : Sha.St) (k j : Nat) : Value := if j < 8 * k then .int .u8 ((outB s j).toNat : Int) else .int .u8 0
theorem outF_step (s : Sha.St) (k : Nat) (_hk : k < 8) : Own.mkRow 64 (putF (outF s k) (8 * k) (s.list[k]?.getD 0#64) 8) = Own.mkRow 64 (outF s (k + 1)) := by
 refine Own.mkRow_congr (fun j hj => ?_)
 unfold putF outF
 by_cases h1 : 8 * k ≤ j ∧ j < 8 * k + 8
 ·rw [if_pos h1, if_pos (by omega)]
  unfold outB
  rw [show j / 8 = k by omega, show j % 8 = j - 8 * k by omega, List.getD_eq_getElem?_getD]
 ·rw [if_neg h1]
  by_cases h2 : j < 8 * k
  ·rw [if_pos h2, if_pos (by omega)]
  ·rw [if_neg h2, if_neg (by omega)]
theorem outF_byte (s : Sha.St) (k j : Nat) : ∃ v : Int, outF s k j = .int .u8 v := by
 unfold outF
 by_cases h : j < 8 * k
 ·exact ⟨_, by rw [if_pos h]⟩
 ·exact ⟨_, by rw [if_neg h]⟩
theorem state_range {w : World} {b : Nat} {s : Sha.St} {bs : Nat → UInt8} {m : Nat} (h : StateAt w b s bs m) : w.rangeAt b 0 (Own.mkRow 8 (hCell s)).toList := fun j v hv => by
 have hj : j < 8 := by have := (List.getElem?_eq_some_iff.1 hv).1; simpa [Own.mkRow_size] using this
 have h1 := Own.mkRow_get (f := hCell s) hj
 rw [Array.getElem?_toList, h1] at hv
 rw [Nat.zero_add, st_word h j hj, ← Option.some.inj hv]
 unfold hCell; rw [List.getD_eq_getElem?_getD]
set_option maxHeartbeats 2000000 in
set_option maxRecDepth 100000 in
theorem sum_any (w : World) (b : Nat) (s : Sha.St) (bs : Nat → UInt8) (m : Nat) (hst : StateAt w b s bs m) :
  Calls Tryz.prog 172 #[.pointer (some ⟨b, 0, none⟩)] w fun e w' => e = .returned (.string ⟨(Sha.out s).toArray⟩) ∧ Below w.heap.size w w' := by
 have HS : Hid _ := hst
 have hbl := st_lt hst
 clear hst
 have HS1 : Hid (StateAt (w.alloc (.cells (Own.zeros 64 (.int .u8 0)) 322)) b s bs m) := (Below.heap_alloc _ _ _ hbl).trans HS.out
 go_enter Tryz.func172, Tryz.ntmps172
 go_wp2_with (first
  | refine Own.wpList_alloc_at _ rfl 322 rfl (Own.zeros 64 (.int .u8 0)) (by kernel_rfl) ?_
  | refine wpList_load_mid rfl 177 _ rfl b 0 rfl (Own.mkRow 8 (hCell s)).toList _ (state_range HS1.out) Tryz.underlying177 rfl (by kernel_rfl) ?_)
 go_loopw [10] (fun i wq => ∃ k : Nat, k ≤ 8 ∧ i = .int .i64 (k : Int) ∧ Below w.heap.size w wq ∧ wq.heap[w.heap.size]? = some (.cells (Own.mkRow 64 (outF s k)) 322 (0, 0))) (fun i _ => 8 - (intOf i).toNat)
 case atStart => exact ⟨0, by omega, rfl, (Below.refl _ _).alloc (Nat.le_refl _) _, by rw [heap_alloc_new]; rfl⟩
 case round =>
  clear HS1
  rename World => wa
  obtain ⟨k, hk, rfl, hb, hr⟩ := hrel
  have HB : Hid _ := hb
  have HR : Hid _ := hr
  clear hb hr
  by_cases hk8 : k < 8
  ·have hix : ∀ W : World, Sem.run Tryz.prog (Instr.index 177 (.agg (Own.mkRow 8 (hCell s))) (.int .i64 (k : Int))) W = .ok (.int .u64 (un (s.list[k]?.getD 0#64))) W := fun W => by rw [run_index_u64 W _ k hk8]; unfold hCell; rw [List.getD_eq_getElem?_getD]
   have hsl := fun W => slice64 W w.heap.size (8 * k) (8 * (k : Int)) (by omega) (by omega)
   go_wp2_with (first
    | (go_at_call 237; refine (putWord_any _ w.heap.size (8 * k) _ _ 64 (outF s k) 322 (s.list[k]?.getD 0#64) (by omega) (by omega) (by omega) (by decide) (fun j _ _ => outF_byte s k j) HR.out).mono ?_; rintro e w2 ⟨rfl, ho2, hr2⟩; rw [outF_step s k hk8] at hr2; have HO2 : Hid _ := ho2; have HR2 : Hid _ := hr2; clear ho2 hr2))
   exact ⟨⟨k + 1, by omega, by go_num, HB.out.trans (HO2.out.below _ (Nat.le_refl _) HB.out.size), HR2.out⟩, by simp [intOf]; omega⟩
  ·obtain rfl : k = 8 := by omega
   have hsl := fun W => slice64_all W w.heap.size
   have HC : Hid (∀ j (h : j < (Sha.out s).length), wa.cell? ⟨w.heap.size, 0 + j, none⟩ = some (.int .u8 ((Sha.out s)[j].toNat : Int))) := fun j hj => by
    have hj' : j < 64 := by rw [Sha.out_length] at hj; exact hj
    rw [Nat.zero_add, Own.row_cell HR.out j hj', out_get]
    unfold outF
    rw [if_pos (by omega)]
   go_wp2_with (refine Own.wpList_string_at _ rfl _ 145 9 5 rfl Tryz.underlying145 Tryz.underlying5 Tryz.underlying9 w.heap.size 0 64 (Sha.out s) rfl HC.out ?_)
   go_ret
   exact ⟨rfl, HB.out⟩
def startRow : Array Value := Own.mkRow 137 (stF Sha.start (fun _ => 0) 0)
def zeroRow : Array Value := Own.mkRow 137 (stF ⟨0#64, 0#64, 0#64, 0#64, 0#64, 0#64, 0#64, 0#64⟩ (fun _ => 0) 0)
theorem startRow_one : startRow.all (·.oneCell') = true := Own.all_one fun j _ => by
 unfold stF
 by_cases h : j < 8
 ·rw [if_pos h]; rfl
 ·rw [if_neg h]
  by_cases h2 : j < 136
  ·rw [if_pos h2]; rfl
  ·rw [if_neg h2]; rfl
set_option maxHeartbeats 2000000 in
set_option maxRecDepth 100000 in
theorem start_any (w : World) :
  Calls Tryz.prog 169 #[] w fun e w' => e = .returned (.agg startRow) ∧ Below w.heap.size w w' := by
 go_enter Tryz.func169, Tryz.ntmps169
 go_wp2_with (first
  | refine Own.wpList_alloc_at _ rfl 270 rfl zeroRow (by kernel_rfl) ?_
  | refine Own.wpList_build_at rfl 177 _ rfl (Own.mkRow 8 (hCell Sha.start)) (by kernel_rfl) ?_
  | refine Own.wpList_build_at rfl 270 _ rfl startRow (by kernel_rfl) ?_
  | refine Own.wpList_store_new rfl 270 _ _ rfl zeroRow startRow 270 rfl rfl (by kernel_rfl) (by kernel_rfl) startRow_one ?_)
 exact Own.ret_row Tryz.results169 rfl _ _ _ _ _ rfl (heap_alloc_new _ _) Tryz.underlying270 rfl (by kernel_rfl) ⟨rfl, (Below.refl _ _).alloc (Nat.le_refl _) _⟩
end Hs
end Go.Proofs.YtbojijefenfbgaaGreatDoor
namespace Go.Proofs.YtbojijefenfbgaaGreatDoor
open Go.RowKit
namespace Hs
attribute [local go_sem] UV.u_add UV.u_mul UV.u_sub UV.u_xor UV.u_and UV.u_or UV.u_shr UV.u_shl UV.u_not UV.u_notm UV.u_wrap_un
def joined (l : List ByteArray) : List UInt8 := l.flatMap (fun s => s.data.toList)
theorem joined_step (ss : List ByteArray) (k : Nat) (h : k < ss.length) : joined (ss.take (k + 1)) = joined (ss.take k) ++ ss[k].data.toList := by
 unfold joined
 rw [List.take_succ_eq_append_getElem h, List.flatMap_append]
 simp
theorem joined_le (ss : List ByteArray) (k : Nat) : (joined (ss.take k)).length ≤ (joined ss).length := by
 unfold joined
 conv => rhs; rw [← List.take_append_drop k ss, List.flatMap_append, List.length_append]
 omega
theorem len_add (n m : Nat) (hn : n ≤ 1000000000000) (hm : m ≤ 1000000000000) : IntKind.u64.wrap (un (BitVec.ofNat 64 n) + (m : Int)) = un (BitVec.ofNat 64 (n + m)) := by
 rw [UV.un_ofNat _ (by omega), UV.un_ofNat _ (by omega), IntKind.wrap_u64]
 omega
def Parts (w : World) (a0 : Option Addr) (ss : List ByteArray) : Prop := ss = [] ∨ ∃ pb po, a0 = some ⟨pb, po, none⟩ ∧ ∀ j (h : j < ss.length), w.cell? ⟨pb, po + j, none⟩ = some (.string ss[j])
set_option maxHeartbeats 2000000 in
set_option maxRecDepth 100000 in
theorem of_any (w : World) (a0 : Option Addr) (cap : Nat) (ss : List ByteArray) (hp : Parts w a0 ss) (htab : TabAt w) (hsz : (joined ss).length ≤ 1000000000) (hn : ss.length ≤ 1000000000) :
  Calls Tryz.prog 109 #[.slice a0 ss.length cap] w fun e w' => e = .returned (.string ⟨(Sha.sha (joined ss)).toArray⟩) ∧ Below w.heap.size w w' := by
 have HP : Hid _ := hp
 have HT : Hid _ := htab
 have h0l := htab.lt
 clear hp htab
 go_enter Tryz.func109, Tryz.ntmps109
 go_wp2_with (first
  | (go_at_call 169; refine (start_any _).mono ?_; rintro e w1 ⟨rfl, hb1⟩; have HB1 : Hid _ := hb1; clear hb1)
  | refine Own.wpList_alloc_at _ rfl 270 rfl zeroRow (by kernel_rfl) ?_
  | refine Own.wpList_store_new rfl 270 _ _ rfl zeroRow startRow 270 rfl rfl (by kernel_rfl) (by kernel_rfl) startRow_one ?_)
 have hs1 : w.heap.size ≤ w1.heap.size := HB1.out.size
 have hb0 : w1.heap.size ≠ 0 := by omega
 go_loopw [4, 10] (fun l i wq => ∃ k : Nat, k ≤ ss.length ∧ i = .int .i64 (k : Int) ∧ l = .int .u64 (un (BitVec.ofNat 64 (joined (ss.take k)).length)) ∧ Below w.heap.size w wq ∧ Taken wq w1.heap.size (joined (ss.take k))) (fun _ i _ => ss.length - (intOf i).toNat)
 case atStart => exact ⟨0, by omega, rfl, rfl, HB1.out.alloc hs1 _, Sha.start, fun _ => 0, 0, heap_alloc_new _ _, Tk.start _⟩
 case round =>
  rename World => wa
  obtain ⟨k, hk, rfl, rfl, hb, ht⟩ := hrel
  have HB : Hid _ := hb
  have HK : Hid _ := ht
  clear hb ht
  by_cases hkn : k < ss.length
  ·have hjs := joined_step ss k hkn
   have hle := joined_le ss (k + 1)
   rw [hjs, List.length_append] at hle
   have hl2 : ss[k].data.toList.length = ss[k].size := by simp
   rw [hl2] at hle
   have HJ : Hid _ := hjs
   have HL2 : Hid _ := hl2
   clear hjs hl2
   rcases HP.out with h2 | ⟨pb, po, rfl, hcs⟩
   ·rw [h2] at hkn; exact absurd hkn (by simp)
   ·have hc := hcs k hkn
    have hlt := block_lt_of_cell hc
    have hc' : wa.cell? ⟨pb, po + k, none⟩ = some (.string ss[k]) := (HB.out.cell (p := ⟨pb, po + k, none⟩) hlt).trans hc
    clear hc hcs hlt
    have hadd := len_add (joined (ss.take k)).length ss[k].size (by omega) (by omega)
    generalize ss[k] = part at *
    go_wp2_with (first
     | (go_at_call 170; refine (take_any _ w1.heap.size _ part HK.out hb0 (TabAt.below HT.out HB.out h0l) (by omega)).mono ?_; rintro e w2 ⟨rfl, ho2, ht2⟩; have HO2 : Hid _ := ho2; have HT2 : Hid _ := ht2; clear ho2 ht2))
    exact ⟨⟨k + 1, by omega, by go_num, by rw [HJ.out, List.length_append, HL2.out], HB.out.trans (HO2.out.below _ (by omega) HB.out.size), by rw [HJ.out]; exact HT2.out⟩, by simp [intOf]; omega⟩
  ·obtain rfl : k = ss.length := by omega
   have HK2 : Hid (Taken wa w1.heap.size (joined ss)) := by have := HK.out; rwa [List.take_length] at this
   go_wp2_with fail
   refine (finish_any _ w1.heap.size (joined ss) HK2.out hb0 (TabAt.below HT.out HB.out h0l) (by omega)).mono ?_
   rintro e w2 ⟨rfl, ho2, bs2, m2, hs2⟩
   have HO2 : Hid _ := ho2
   have HS2 : Hid _ := hs2
   clear ho2 hs2
   go_wp2_with (first
    | (go_at_call 172; refine (sum_any _ w1.heap.size _ bs2 m2 HS2.out).mono ?_; rintro e w3 ⟨rfl, hb3⟩; have HB3 : Hid _ := hb3; clear hb3))
   go_ret
   have hb2 := HB.out.trans (HO2.out.below _ hs1 HB.out.size)
   exact ⟨rfl, hb2.trans (HB3.out.mono hb2.size)⟩
end Hs
end Go.Proofs.YtbojijefenfbgaaGreatDoor

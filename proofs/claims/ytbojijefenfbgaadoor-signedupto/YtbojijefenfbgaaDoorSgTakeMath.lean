/- Plain mathematics of taking a text block by block. -/
/- Walk of the program's hash: take. -/
import Derived.Test.YtbojijefenfbgaaDoorSgHashWalks
import Derived.Test.YtbojijefenfbgaaDoorSgMixWalk
import Derived.Laws.CopyRow
import Derived.Deep.CutRange
namespace Go.Proofs.YtbojijefenfbgaaDoor
namespace Hs
open Sha

theorem wl_congr {b c : Nat → BitVec 64} (h : ∀ j, j < 16 → b j = c j) (n : Nat) : wl b n = wl c n := by
  induction n with
  | zero => rfl
  | succ n ih =>
    simp only [wl, ih, nextW]
    by_cases hn : n < 16
    · rw [if_pos hn, if_pos hn, h n hn]
    · rw [if_neg hn, if_neg hn]
theorem W_congr {b c : Nat → BitVec 64} (h : ∀ j, j < 16 → b j = c j) (n : Nat) : W b n = W c n := by
  unfold W
  rw [wl_congr h n]
  unfold nextW
  by_cases hn : n < 16
  · rw [if_pos hn, if_pos hn, h n hn]
  · rw [if_neg hn, if_neg hn]
theorem compress_congr {b c : Nat → BitVec 64} (h : ∀ j, j < 16 → b j = c j) (s : St) : compress s b = compress s c := by
  have : ∀ n, rounds b s n = rounds c s n := fun n => by
    induction n with
    | zero => rfl
    | succ n ih => simp only [rounds, ih, W_congr h n]
  unfold compress
  rw [this]
theorem wordAt_append (l r : List UInt8) (p : Nat) (h : p + 8 ≤ l.length) : wordAt (l ++ r) p = wordAt l p := by
  unfold wordAt
  rw [List.drop_append_of_le_length (by omega), List.take_append_of_le_length (by simp; omega)]
theorem chain_append (l r : List UInt8) (n : Nat) (h : 128 * n ≤ l.length) : chain (l ++ r) n = chain l n := by
  induction n with
  | zero => rfl
  | succ n ih =>
    simp only [chain]
    rw [ih (by omega)]
    exact compress_congr (fun j hj => wordAt_append l r _ (by omega)) _
theorem wordAt_eight (l : List UInt8) (p : Nat) (h : p + 8 ≤ l.length) : wordAt l p = wordOf (eight (fun i => l.getD i 0) p) := by
  unfold wordAt
  congr 1
  apply List.ext_getElem
  · simp [eight]; omega
  · intro i h1 h2
    rw [eight_get, List.getElem_take, List.getElem_drop, List.getD_eq_getElem?_getD, List.getElem?_eq_getElem (by simp at h1; omega)]
    rfl

/-- How far a text has been taken. -/
def Tk (t : List UInt8) (s : St) (bs : Nat → UInt8) (m : Nat) : Prop := s = chain t (t.length / 128) ∧ m = t.length % 128 ∧ ∀ i, i < m → bs i = t.getD (128 * (t.length / 128) + i) 0
theorem Tk.lt {t : List UInt8} {s : St} {bs : Nat → UInt8} {m : Nat} (h : Tk t s bs m) : m < 128 := by have := h.2.1; omega
theorem Tk.start (bs : Nat → UInt8) : Tk [] Sha.start bs 0 := ⟨rfl, rfl, fun _ h => absurd h (by omega)⟩

def over (bs : Nat → UInt8) (m n : Nat) (r : List UInt8) (i : Nat) : UInt8 := if m ≤ i ∧ i < m + n then r.getD (i - m) 0 else bs i
theorem over_get {t : List UInt8} {s : St} {bs : Nat → UInt8} {m : Nat} (h : Tk t s bs m) (r : List UInt8) (n : Nat) (_hn : n ≤ r.length) (i : Nat) (hi : i < m + n) :
    over bs m n r i = (t ++ r.take n).getD (128 * (t.length / 128) + i) 0 := by
  have hm := h.2.1
  unfold over
  by_cases hlt : i < m
  · rw [if_neg (by omega), h.2.2 i hlt]
    simp only [List.getD_eq_getElem?_getD]
    rw [List.getElem?_append_left (by omega)]
  · rw [if_pos (by omega)]
    simp only [List.getD_eq_getElem?_getD]
    rw [List.getElem?_append_right (by omega), List.getElem?_take, if_pos (by omega), show 128 * (t.length / 128) + i - t.length = i - m by omega]
theorem Tk.more {t : List UInt8} {s : St} {bs : Nat → UInt8} {m : Nat} (h : Tk t s bs m) (r : List UInt8) (n : Nat) (hn : n ≤ r.length) (hfit : m + n < 128) : Tk (t ++ r.take n) s (over bs m n r) (m + n) := by
  have hm := h.2.1
  have hl : (t ++ r.take n).length = t.length + n := by simp; omega
  have hq : (t.length + n) / 128 = t.length / 128 := by omega
  refine ⟨?_, by rw [hl]; omega, fun i hi => ?_⟩
  · rw [hl, hq, chain_append _ _ _ (by omega)]; exact h.1
  · rw [hl, hq]; exact over_get h r n hn i hi
theorem Tk.full {t : List UInt8} {s : St} {bs : Nat → UInt8} {m : Nat} (h : Tk t s bs m) (r : List UInt8) (n : Nat) (hn : n ≤ r.length) (hfit : m + n = 128) : Tk (t ++ r.take n) (compress s (blkOf (over bs m n r))) (over bs m n r) 0 := by
  have hm := h.2.1
  have hl : (t ++ r.take n).length = t.length + n := by simp; omega
  have hq : (t.length + n) / 128 = t.length / 128 + 1 := by omega
  refine ⟨?_, by rw [hl]; omega, fun i hi => absurd hi (by omega)⟩
  rw [hl, hq]
  simp only [chain]
  rw [chain_append _ _ _ (by omega), ← h.1]
  refine compress_congr (fun j hj => ?_) _
  unfold blkOf blockAt
  rw [wordAt_eight _ _ (by rw [hl]; omega)]
  congr 1
  have e : ∀ i, i < 8 → over bs m n r (8 * j + i) = (t ++ r.take n).getD (128 * (t.length / 128) + 8 * j + i) 0 := fun i hi => by
    rw [over_get h r n hn _ (by omega), Nat.add_assoc]
  have e0 := e 0 (by omega)
  simp only [Nat.add_zero] at e0
  simp only [eight]
  rw [e0, e 1 (by omega), e 2 (by omega), e 3 (by omega), e 4 (by omega), e 5 (by omega), e 6 (by omega), e 7 (by omega)]
end Hs
end Go.Proofs.YtbojijefenfbgaaDoor
namespace Go.Proofs.YtbojijefenfbgaaDoor
open Go.RowKit
namespace Hs
attribute [local go_sem] UV.u_add UV.u_mul UV.u_sub UV.u_xor UV.u_and UV.u_or UV.u_shr UV.u_shl UV.u_not UV.u_notm UV.u_wrap_un

def copyF (f : Nat → Value) (o n : Nat) (l : List UInt8) (j : Nat) : Value := if o ≤ j ∧ j < o + n then .int .u8 ((l.getD (j - o) 0).toNat : Int) else f j
theorem copy_list (N o n : Nat) (f : Nat → Value) (l : List UInt8) (hn : n ≤ l.length) (hfit : o + n ≤ N) :
    ((Own.mkRow N f).toList.take o ++ (l.take n).map (fun c => Value.int .u8 (c.toNat : Int)) ++ (Own.mkRow N f).toList.drop (o + n)).toArray = Own.mkRow N (copyF f o n l) := by
  have hs : (Own.mkRow N f).toList.length = N := by rw [Array.length_toList, Own.mkRow_size]
  have hg : ∀ j (h : j < (Own.mkRow N f).toList.length), (Own.mkRow N f).toList[j] = f j := fun j h => by
    have := Own.mkRow_get (f := f) (show j < N by omega)
    rw [Array.getElem?_eq_some_iff] at this
    obtain ⟨_, e⟩ := this
    simpa using e
  refine Own.mkRow_list _ N (by simp [Own.mkRow_size]; omega) _ (fun j hj => ?_)
  unfold copyF
  rw [List.getElem_append]
  by_cases h1 : j < ((Own.mkRow N f).toList.take o ++ (l.take n).map (fun c => Value.int .u8 (c.toNat : Int))).length
  · rw [dif_pos h1, List.getElem_append]
    by_cases h2 : j < ((Own.mkRow N f).toList.take o).length
    · rw [dif_pos h2, List.getElem_take, hg, if_neg (by simp [Own.mkRow_size] at h2; omega)]
    · rw [dif_neg h2]
      have h3 : ((Own.mkRow N f).toList.take o).length = o := by simp [Own.mkRow_size]; omega
      have h4 : j < o + n := by simp [Own.mkRow_size] at h1; omega
      rw [if_pos (by omega)]
      simp only [List.getElem_map, List.getElem_take, h3]
      rw [List.getD_eq_getElem?_getD, List.getElem?_eq_getElem (by omega)]
      rfl
  · rw [dif_neg h1, List.getElem_drop, hg]
    have h3 : ((Own.mkRow N f).toList.take o ++ (l.take n).map (fun c => Value.int .u8 (c.toNat : Int))).length = o + n := by simp [Own.mkRow_size]; omega
    rw [if_neg (by omega)]
    congr 1
    omega
theorem run_copy_min (w : World) (g o dLen dCap N : Nat) (s : ByteArray) (f : Nat → Value) (t ty : TypeId) (hg : w.heap[g]? = some (.cells (Own.mkRow N f) t (0, 0))) (hfit : o + dLen ≤ N) :
    Sem.run Tryd.prog (Builtin.copy_ #[38, 9] ty #[.slice (some ⟨g, o, none⟩) dLen dCap, .string s]) w =
      .ok (.int .i64 ((min s.size dLen : Nat) : Int)) (w.setRow g (Own.mkRow N (copyF f o (min s.size dLen) s.data.toList))) := by
  have hlen : s.data.toList.length = s.size := by simp
  obtain ⟨i, hi, _, _, _⟩ := info_parts info_u8
  have hst := run_storeCells_at Tryd.prog g o t ((s.data.toList.take (min s.size dLen)).map (fun c => Value.int .u8 (c.toNat : Int))) 0 (Own.mkRow N f) w hg (by simp [Own.mkRow_size]; omega) (fun v hv => by obtain ⟨c, _, rfl⟩ := List.mem_map.1 hv; rfl)
  simp only [Nat.add_zero] at hst
  rw [show ((s.data.toList.take (min s.size dLen)).map (fun c => Value.int .u8 (c.toNat : Int))).length = min s.size dLen by simp] at hst
  rw [copy_list N o _ f _ (by omega) (by omega)] at hst
  simp [Builtin.copy_, run_underlying Tryd.underlying38, Builtin.lenOf, Builtin.firstCells, sizeOf, typeInfo, hi]
  rw [← List.map_take, hst]
  simp [Result.andThen, goInt]
/-- A text has been taken so far into the state in block b. -/
def Taken (w : World) (b : Nat) (t : List UInt8) : Prop := ∃ s bs m, StateAt w b s bs m ∧ Tk t s bs m
theorem copy_state (s : Sha.St) (bs : Nat → UInt8) (m n : Nat) (l : List UInt8) (h : m + n ≤ 128) : Own.mkRow 137 (copyF (stF s bs m) (8 + m) n l) = Own.mkRow 137 (stF s (over bs m n l) m) := by
  refine Own.mkRow_congr (fun j hj => ?_)
  unfold copyF stF over
  by_cases h8 : j < 8
  · rw [if_neg (by omega), if_pos h8, if_pos h8]
  · rw [if_neg h8, if_neg h8]
    by_cases h136 : j < 136
    · rw [if_pos h136, if_pos h136]
      by_cases hin : 8 + m ≤ j ∧ j < 8 + m + n
      · rw [if_pos hin, if_pos (by omega), show j - (8 + m) = j - 8 - m by omega]
      · rw [if_neg hin, if_neg (by omega)]
    · rw [if_neg h136, if_neg h136, if_neg (by omega)]
theorem fill_state (s : Sha.St) (bs : Nat → UInt8) (m k : Nat) (K : Int) (hK : K = (k : Int)) : Own.mkRow 137 (fun j => if j = 136 then .int .i64 K else stF s bs m j) = Own.mkRow 137 (stF s bs k) := by
  subst hK
  refine Own.mkRow_congr (fun j hj => ?_)
  unfold stF
  by_cases e : j = 136
  · rw [if_pos e, if_neg (by omega), if_neg (by omega)]
  · rw [if_neg e]
    by_cases h8 : j < 8
    · rw [if_pos h8, if_pos h8]
    · rw [if_neg h8, if_neg h8, if_pos (by omega), if_pos (by omega)]

theorem rest_list (r : ByteArray) (n : Nat) : (r.extract n r.size).data.toList = r.data.toList.drop n := by
  rw [ByteArray.data_extract, Array.toList_extract, List.extract_eq_take_drop]
  exact List.take_of_length_le (by simp)
def strLen : Value → Nat
  | .string r => r.size
  | _ => 0
theorem Only.setRow (w : World) (b : Nat) (cs : Array Value) : Only b w (w.setRow b cs) :=
  ⟨rfl, rfl, rfl, by simp [World.setRow], fun k _ hb => by show (Array.modify _ _ _)[k]? = _; rw [Array.getElem?_modify, if_neg (Ne.symm hb)]⟩
set_option maxHeartbeats 2000000 in
set_option maxRecDepth 100000 in
theorem take_any (w : World) (b : Nat) (t : List UInt8) (text : ByteArray) (h : Taken w b t) (hb0 : b ≠ 0) (htab : TabAt w) (hsz : text.size ≤ 1000000000000) :
    Calls Tryd.prog 38 #[.pointer (some ⟨b, 0, none⟩), .string text] w fun e w' => e = .returned (.tuple #[]) ∧ Only b w w' ∧ Taken w' b (t ++ text.data.toList) := by
  have HH : Hid _ := h
  have HT : Hid _ := htab
  clear h htab
  go_enter Tryd.func38, Tryd.ntmps38
  go_wp2_with fail
  go_loopw [1] (fun x wq => ∃ (u : List UInt8) (r : ByteArray), x = .string r ∧ r.size ≤ text.size ∧ u ++ r.data.toList = text.data.toList ∧ Only b w wq ∧ Taken wq b (t ++ u)) (fun x _ => strLen x)
  case atStart => exact ⟨[], text, rfl, Nat.le_refl _, rfl, Only.refl _ _, by rw [List.append_nil]; exact HH.out⟩
  case round =>
    rename World => wa
    obtain ⟨u, r, rfl, hrs, hur, ho, s, bs, m, hst, htk⟩ := hrel
    have HUR : Hid _ := hur
    have HO : Hid _ := ho
    have HS : Hid _ := hst
    have HK : Hid _ := htk
    have hm := htk.lt
    clear hur ho hst htk
    by_cases hr0 : 0 < r.size
    · have hfil := st_filled HS.out
      have hsl := fun W => slice128 W b 8 m (m : Int) rfl hm
      have hcp := run_copy_min wa.drew b (8 + m) (128 - m) (128 - m) 137 r (stF s bs m) 69 3 HS.out (by omega)
      obtain ⟨n, hn⟩ : ∃ n, n = min r.size (128 - m) := ⟨_, rfl⟩
      rw [← hn] at hcp
      rw [copy_state s bs m n _ (by omega)] at hcp
      have hn1 : 0 < n := by omega
      have hn2 : n ≤ r.size := by omega
      have hn3 : m + n ≤ 128 := by omega
      have HN : Hid _ := hn
      clear hn
      go_wp2_with fail
      go_region
      clear hcp hsl hfil
      have HX1 : Hid (Only b w (wa.drew.setRow b (Own.mkRow 137 (stF s (over bs m n r.data.toList) m)))) := HO.out.drew.trans (Only.setRow _ _ _)
      have HX2 : Hid (StateAt (wa.drew.setRow b (Own.mkRow 137 (stF s (over bs m n r.data.toList) m))) b s (over bs m n r.data.toList) m) := setRow_heap _ _ _ _ _ _ (show wa.drew.heap[b]? = _ from HS.out)
      clear HO HS
      generalize wa.drew.setRow b (Own.mkRow 137 (stF s (over bs m n r.data.toList) m)) = w1 at *
      have hfil := st_filled HX2.out
      have hfz := st_frozen HX2.out 136
      have HR2 : Hid (r.size ≤ r.data.toList.length) := Nat.le_refl _
      by_cases hfull : m + n = 128
      · have hne : ((m : Int) + (n : Int) == 128) = true := by rw [beq_iff_eq]; omega
        have HX3 : Hid (StateAt (w1.setCell ⟨b, 136, none⟩ (.int .i64 ((m : Int) + (n : Int)))) b s (over bs m n r.data.toList) 128) := by
          show _ = _
          rw [Own.row_store HX2.out, fill_state _ _ _ 128 _ (by omega)]
        have HO3 : Hid (Only b w (w1.setCell ⟨b, 136, none⟩ (.int .i64 ((m : Int) + (n : Int))))) := HX1.out.trans (Only.setCell _ _ _ _)
        go_wp2_with (first
          | (go_at_call 62; refine (mix_any _ b s (over bs m n r.data.toList) 128 HX3.out hb0 (TabAt.only HT.out HO3.out hb0)).mono ?_; rintro e w3 ⟨rfl, ho3, hs3⟩; have HO4 : Hid _ := ho3; have HS4 : Hid _ := hs3; have hfil4 := st_filled hs3; have hfz4 := st_frozen hs3 136; clear ho3 hs3))
        refine ⟨⟨u ++ r.data.toList.take n, r.extract n r.size, rfl, ?_, ?_, (HO3.out.trans HO4.out).trans (Only.setCell _ _ _ _), ?_⟩, ?_⟩
        · rw [ByteArray.size_extract]; omega
        · rw [rest_list, List.append_assoc, List.take_append_drop]; exact HUR.out
        · refine ⟨_, _, 0, ?_, by rw [← List.append_assoc]; exact Tk.full HK.out r.data.toList n (Nat.le_trans hn2 HR2.out) hfull⟩
          show _ = _
          rw [Own.row_store HS4.out, fill_state _ _ _ 0 0 rfl]
        · show (r.extract n r.size).size < r.size
          rw [ByteArray.size_extract]; omega
      · have hne : ((m : Int) + (n : Int) == 128) = false := by rw [beq_eq_false_iff_ne]; omega
        go_wp2_with fail
        refine ⟨⟨u ++ r.data.toList.take n, r.extract n r.size, rfl, ?_, ?_, HX1.out.trans (Only.setCell _ _ _ _), ?_⟩, ?_⟩
        · rw [ByteArray.size_extract]; omega
        · rw [rest_list, List.append_assoc, List.take_append_drop]; exact HUR.out
        · refine ⟨s, _, m + n, ?_, by rw [← List.append_assoc]; exact Tk.more HK.out r.data.toList n (Nat.le_trans hn2 HR2.out) (by omega)⟩
          show _ = _
          rw [Own.row_store HX2.out, fill_state _ _ _ (m + n) _ (by omega)]
        · show (r.extract n r.size).size < r.size
          rw [ByteArray.size_extract]; omega
    · have hnil : Hid (r.data.toList = []) := List.eq_nil_of_length_eq_zero (show r.size = 0 by omega)
      go_wp2_with fail
      go_end0
      refine ⟨rfl, HO.out, ?_⟩
      have e : u = text.data.toList := by rw [← HUR.out, hnil.out, List.append_nil]
      rw [← e]
      exact ⟨s, bs, m, HS.out, HK.out⟩
end Hs
end Go.Proofs.YtbojijefenfbgaaDoor

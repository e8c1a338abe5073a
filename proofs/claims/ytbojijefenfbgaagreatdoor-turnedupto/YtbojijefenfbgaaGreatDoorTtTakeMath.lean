/- Plain mathematics of taking a text block by block. Walk of the program's hash: take. Walks of the program's hash: finish, sum, start. Walks of the program's hash: sum, start. Walks of the program's hash: Of; and of the call Hash. Walks of the program's signing: halves. Walks of the program's signing: Key. -/
import Derived.Test.YtbojijefenfbgaaGreatDoorTtMixWalk
import Derived.Laws.CopyRow
import Derived.Deep.CutRange
import Derived.Deep.RegionWith
set_option maxRecDepth 100000
namespace Go.Proofs.YtbojijefenfbgaaGreatDoor
namespace Hs
open Sha
theorem q5d {b c : Nat → BitVec 64} (h : ∀ j, j < 16 → b j = c j) (n : Nat) : wl b n = wl c n := by
 induction n with
 | zero => rfl
 | succ n ih =>
  simp only [wl, ih, x4g]
  by_cases hn : n < 16
  ·rw [if_pos hn, if_pos hn, h n hn]
  ·rw [if_neg hn, if_neg hn]
theorem q7a {b c : Nat → BitVec 64} (h : ∀ j, j < 16 → b j = c j) (n : Nat) : W b n = W c n := by
 unfold W
 rw [q5d h n]
 unfold x4g
 by_cases hn : n < 16
 ·rw [if_pos hn, if_pos hn, h n hn]
 ·rw [if_neg hn, if_neg hn]
theorem z7h {b c : Nat → BitVec 64} (h : ∀ j, j < 16 → b j = c j) (s : St) : compress s b = compress s c := by
 have : ∀ n, rounds b s n = rounds c s n := fun n => by
  induction n with
  | zero => rfl
  | succ n ih => simp only [rounds, ih, q7a h n]
 unfold compress
 rw [this]
theorem y5e (l r : List UInt8) (p : Nat) (h : p + 8 ≤ l.length) : y3c (l ++ r) p = y3c l p := by
 unfold y3c
 rw [List.drop_append_of_le_length (by omega), List.take_append_of_le_length (by simp; omega)]
theorem z9f (l r : List UInt8) (n : Nat) (h : 128 * n ≤ l.length) : chain (l ++ r) n = chain l n := by
 induction n with
 | zero => rfl
 | succ n ih =>
  simp only [chain]
  rw [ih (by omega)]
  exact z7h (fun j hj => y5e l r _ (by omega)) _
theorem y7w (l : List UInt8) (p : Nat) (h : p + 8 ≤ l.length) : y3c l p = z9p (eight (fun i => l.getD i 0) p) := by
 unfold y3c
 congr 1
 apply List.ext_getElem
 ·simp [eight]; omega
 ·intro i h1 h2
  rw [y5x, List.getElem_take, List.getElem_drop, List.getD_eq_getElem?_getD, List.getElem?_eq_getElem (by simp at h1; omega)]
  rfl
def Tk (t : List UInt8) (s : St) (bs : Nat → UInt8) (m : Nat) : Prop := s = chain t (t.length / 128) ∧ m = t.length % 128 ∧ ∀ i, i < m → bs i = t.getD (128 * (t.length / 128) + i) 0
theorem Tk.lt {t : List UInt8} {s : St} {bs : Nat → UInt8} {m : Nat} (h : Tk t s bs m) : m < 128 := by have := h.2.1; omega
theorem Tk.start (bs : Nat → UInt8) : Tk [] Sha.start bs 0 := ⟨rfl, rfl, fun _ h => absurd h (by omega)⟩
def over (bs : Nat → UInt8) (m n : Nat) (r : List UInt8) (i : Nat) : UInt8 := if m ≤ i ∧ i < m + n then r.getD (i - m) 0 else bs i
theorem x1t {t : List UInt8} {s : St} {bs : Nat → UInt8} {m : Nat} (h : Tk t s bs m) (r : List UInt8) (n : Nat) (_hn : n ≤ r.length) (i : Nat) (hi : i < m + n) :
  over bs m n r i = (t ++ r.take n).getD (128 * (t.length / 128) + i) 0 := by
 have hm := h.2.1
 unfold over
 by_cases hlt : i < m
 ·rw [if_neg (by omega), h.2.2 i hlt]
  simp only [List.getD_eq_getElem?_getD]
  rw [List.getElem?_append_left (by omega)]
 ·rw [if_pos (by omega)]
  simp only [List.getD_eq_getElem?_getD]
  rw [List.getElem?_append_right (by omega), List.getElem?_take, if_pos (by omega), show 128 * (t.length / 128) + i - t.length = i - m by omega]
theorem Tk.more {t : List UInt8} {s : St} {bs : Nat → UInt8} {m : Nat} (h : Tk t s bs m) (r : List UInt8) (n : Nat) (hn : n ≤ r.length) (hfit : m + n < 128) : Tk (t ++ r.take n) s (over bs m n r) (m + n) := by
 have hm := h.2.1
 have hl : (t ++ r.take n).length = t.length + n := by simp; omega
 have hq : (t.length + n) / 128 = t.length / 128 := by omega
 refine ⟨?_, by rw [hl]; omega, fun i hi => ?_⟩
 ·rw [hl, hq, z9f _ _ _ (by omega)]; exact h.1
 ·rw [hl, hq]; exact x1t h r n hn i hi
theorem Tk.full {t : List UInt8} {s : St} {bs : Nat → UInt8} {m : Nat} (h : Tk t s bs m) (r : List UInt8) (n : Nat) (hn : n ≤ r.length) (hfit : m + n = 128) : Tk (t ++ r.take n) (compress s (z2q (over bs m n r))) (over bs m n r) 0 := by
 have hm := h.2.1
 have hl : (t ++ r.take n).length = t.length + n := by simp; omega
 have hq : (t.length + n) / 128 = t.length / 128 + 1 := by omega
 refine ⟨?_, by rw [hl]; omega, fun i hi => absurd hi (by omega)⟩
 rw [hl, hq]
 simp only [chain]
 rw [z9f _ _ _ (by omega), ← h.1]
 refine z7h (fun j hj => ?_) _
 unfold z2q x5p
 rw [y7w _ _ (by rw [hl]; omega)]
 congr 1
 have e : ∀ i, i < 8 → over bs m n r (8 * j + i) = (t ++ r.take n).getD (128 * (t.length / 128) + 8 * j + i) 0 := fun i hi => by
  rw [x1t h r n hn _ (by omega), Nat.add_assoc]
 have e0 := e 0 (by omega)
 simp only [Nat.add_zero] at e0
 simp only [eight]
 rw [e0, e 1 (by omega), e 2 (by omega), e 3 (by omega), e 4 (by omega), e 5 (by omega), e 6 (by omega), e 7 (by omega)]
end Hs
open Go.RowKit
namespace Hs
attribute [local go_sem] UV.z6q UV.z5u UV.z6r UV.z6s UV.z4x UV.y1w UV.z3z UV.z4m UV.z5v UV.z3n UV.z1c
def y5t (f : Nat → Value) (o n : Nat) (l : List UInt8) (j : Nat) : Value := if o ≤ j ∧ j < o + n then .int .u8 ((l.getD (j - o) 0).toNat : Int) else f j
theorem x6b (N o n : Nat) (f : Nat → Value) (l : List UInt8) (hn : n ≤ l.length) (hfit : o + n ≤ N) :
  ((Own.z0f N f).toList.take o ++ (l.take n).map (fun c => Value.int .u8 (c.toNat : Int)) ++ (Own.z0f N f).toList.drop (o + n)).toArray = Own.z0f N (y5t f o n l) := by
 have hs : (Own.z0f N f).toList.length = N := by rw [Array.length_toList, Own.z0p]
 have hg : ∀ j (h : j < (Own.z0f N f).toList.length), (Own.z0f N f).toList[j] = f j := fun j h => by
  have := Own.z1f (f := f) (show j < N by omega)
  rw [Array.getElem?_eq_some_iff] at this
  obtain ⟨_, e⟩ := this
  simpa using e
 refine Own.x4d _ N (by simp [Own.z0p]; omega) _ (fun j hj => ?_)
 unfold y5t
 rw [List.getElem_append]
 by_cases h1 : j < ((Own.z0f N f).toList.take o ++ (l.take n).map (fun c => Value.int .u8 (c.toNat : Int))).length
 ·rw [dif_pos h1, List.getElem_append]
  by_cases h2 : j < ((Own.z0f N f).toList.take o).length
  ·rw [dif_pos h2, List.getElem_take, hg, if_neg (by simp [Own.z0p] at h2; omega)]
  ·rw [dif_neg h2]
   have h3 : ((Own.z0f N f).toList.take o).length = o := by simp [Own.z0p]; omega
   have h4 : j < o + n := by simp [Own.z0p] at h1; omega
   rw [if_pos (by omega)]
   simp only [List.getElem_map, List.getElem_take, h3]
   rw [List.getD_eq_getElem?_getD, List.getElem?_eq_getElem (by omega)]
   rfl
 ·rw [dif_neg h1, List.getElem_drop, hg]
  have h3 : ((Own.z0f N f).toList.take o ++ (l.take n).map (fun c => Value.int .u8 (c.toNat : Int))).length = o + n := by simp [Own.z0p]; omega
  rw [if_neg (by omega)]
  congr 1
  omega
theorem z9l (w : World) (g o dLen dCap N : Nat) (s : ByteArray) (f : Nat → Value) (t ty : TypeId) (hg : w.heap[g]? = some (.cells (Own.z0f N f) t (0, 0))) (hfit : o + dLen ≤ N) :
  Sem.run Tryz.prog (Builtin.copy_ #[145, 9] ty #[.slice (some ⟨g, o, none⟩) dLen dCap, .string s]) w =
   .ok (.int .i64 ((min s.size dLen : Nat) : Int)) (w.setRow g (Own.z0f N (y5t f o (min s.size dLen) s.data.toList))) := by
 have hlen : s.data.toList.length = s.size := by simp
 obtain ⟨i, hi, _, _, _⟩ := info_parts y0w
 have hst := run_storeCells_at Tryz.prog g o t ((s.data.toList.take (min s.size dLen)).map (fun c => Value.int .u8 (c.toNat : Int))) 0 (Own.z0f N f) w hg (by simp [Own.z0p]; omega) (fun v hv => by obtain ⟨c, _, rfl⟩ := List.mem_map.1 hv; rfl)
 simp only [Nat.add_zero] at hst
 rw [show ((s.data.toList.take (min s.size dLen)).map (fun c => Value.int .u8 (c.toNat : Int))).length = min s.size dLen by simp] at hst
 rw [x6b N o _ f _ (by omega) (by omega)] at hst
 simp [Builtin.copy_, run_underlying Tryz.underlying145, Builtin.lenOf, Builtin.firstCells, sizeOf, typeInfo, hi]
 rw [← List.map_take, hst]
 simp [Result.andThen, goInt]
def y8d (w : World) (b : Nat) (t : List UInt8) : Prop := ∃ s bs m, z1u w b s bs m ∧ Tk t s bs m
theorem x3h (s : Sha.St) (bs : Nat → UInt8) (m n : Nat) (l : List UInt8) (h : m + n ≤ 128) : Own.z0f 137 (y5t (stF s bs m) (8 + m) n l) = Own.z0f 137 (stF s (over bs m n l) m) := by
 refine Own.z0k (fun j hj => ?_)
 unfold y5t stF over
 by_cases h8 : j < 8
 ·rw [if_neg (by omega), if_pos h8, if_pos h8]
 ·rw [if_neg h8, if_neg h8]
  by_cases h136 : j < 136
  ·rw [if_pos h136, if_pos h136]
   by_cases hin : 8 + m ≤ j ∧ j < 8 + m + n
   ·rw [if_pos hin, if_pos (by omega), show j - (8 + m) = j - 8 - m by omega]
   ·rw [if_neg hin, if_neg (by omega)]
  ·rw [if_neg h136, if_neg h136, if_neg (by omega)]
theorem z8o (s : Sha.St) (bs : Nat → UInt8) (m k : Nat) (K : Int) (hK : K = (k : Int)) : Own.z0f 137 (fun j => if j = 136 then .int .i64 K else stF s bs m j) = Own.z0f 137 (stF s bs k) := by
 subst hK
 refine Own.z0k (fun j hj => ?_)
 unfold stF
 by_cases e : j = 136
 ·rw [if_pos e, if_neg (by omega), if_neg (by omega)]
 ·rw [if_neg e]
  by_cases h8 : j < 8
  ·rw [if_pos h8, if_pos h8]
  ·rw [if_neg h8, if_neg h8, if_pos (by omega), if_pos (by omega)]
theorem y7l (r : ByteArray) (n : Nat) : (r.extract n r.size).data.toList = r.data.toList.drop n := by
 rw [ByteArray.data_extract, Array.toList_extract, List.extract_eq_take_drop]
 exact List.take_of_length_le (by simp)
def k6p : Value → Nat
 | .string r => r.size
 | _ => 0
theorem z5q.setRow (w : World) (b : Nat) (cs : Array Value) : z5q b w (w.setRow b cs) :=
 ⟨rfl, rfl, rfl, by simp [World.setRow], fun k _ hb => by show (Array.modify _ _ _)[k]? = _; rw [Array.getElem?_modify, if_neg (Ne.symm hb)]⟩
set_option maxHeartbeats 2000000 in
theorem y4w (w : World) (b : Nat) (t : List UInt8) (text : ByteArray) (h : y8d w b t) (hb0 : b ≠ 0) (htab : z0j w) (hsz : text.size ≤ 1000000000000) :
  Calls Tryz.prog 170 #[.pointer (some ⟨b, 0, none⟩), .string text] w fun e w' => e = .returned (.tuple #[]) ∧ z5q b w w' ∧ y8d w' b (t ++ text.data.toList) := by
 have HH : Hid _ := h
 have HT : Hid _ := htab
 clear h htab
 go_enter Tryz.func170, Tryz.ntmps170
 go_wp2_with fail
 go_loopw [1] (fun x wq => ∃ (u : List UInt8) (r : ByteArray), x = .string r ∧ r.size ≤ text.size ∧ u ++ r.data.toList = text.data.toList ∧ z5q b w wq ∧ y8d wq b (t ++ u)) (fun x _ => k6p x)
 case atStart => exact ⟨[], text, rfl, Nat.le_refl _, rfl, z5q.refl _ _, by rw [List.append_nil]; exact HH.out⟩
 case round =>
  rename World => wa
  obtain ⟨u, r, rfl, hrs, hur, ho, s, bs, m, hst, htk⟩ := hrel
  have HUR : Hid _ := hur
  have HO : Hid _ := ho
  have HS : Hid _ := hst
  have HK : Hid _ := htk
  have hm := htk.lt
  clear hur ho hst htk
  by_cases hr0 : 0 < r.size
  ·have hfil := z6m HS.out
   have hsl := fun W => y0h W b 8 m (m : Int) rfl hm
   have hcp := z9l wa.drew b (8 + m) (128 - m) (128 - m) 137 r (stF s bs m) 270 3 HS.out (by omega)
   obtain ⟨n, hn⟩ : ∃ n, n = min r.size (128 - m) := ⟨_, rfl⟩
   rw [← hn] at hcp
   rw [x3h s bs m n _ (by omega)] at hcp
   have hn1 : 0 < n := by omega
   have hn2 : n ≤ r.size := by omega
   have hn3 : m + n ≤ 128 := by omega
   have HN : Hid _ := hn
   clear hn
   go_wp2_with fail
   go_region
   clear hcp hsl hfil
   have HX1 : Hid (z5q b w (wa.drew.setRow b (Own.z0f 137 (stF s (over bs m n r.data.toList) m)))) := HO.out.drew.trans (z5q.setRow _ _ _)
   have HX2 : Hid (z1u (wa.drew.setRow b (Own.z0f 137 (stF s (over bs m n r.data.toList) m))) b s (over bs m n r.data.toList) m) := setRow_heap _ _ _ _ _ _ (show wa.drew.heap[b]? = _ from HS.out)
   clear HO HS
   generalize wa.drew.setRow b (Own.z0f 137 (stF s (over bs m n r.data.toList) m)) = w1 at *
   have hfil := z6m HX2.out
   have hfz := y7s HX2.out 136
   have HR2 : Hid (r.size ≤ r.data.toList.length) := Nat.le_refl _
   by_cases hfull : m + n = 128
   ·have hne : ((m : Int) + (n : Int) == 128) = true := by rw [beq_iff_eq]; omega
    have HX3 : Hid (z1u (w1.setCell ⟨b, 136, none⟩ (.int .i64 ((m : Int) + (n : Int)))) b s (over bs m n r.data.toList) 128) := by
     show _ = _
     rw [Own.z1p HX2.out, z8o _ _ _ 128 _ (by omega)]
    have HO3 : Hid (z5q b w (w1.setCell ⟨b, 136, none⟩ (.int .i64 ((m : Int) + (n : Int))))) := HX1.out.trans (z5q.setCell _ _ _ _)
    go_wp2_with (first
     | (go_at_call 236; refine (x7k _ b s (over bs m n r.data.toList) 128 HX3.out hb0 (z0j.only HT.out HO3.out hb0)).mono ?_; rintro e w3 ⟨rfl, ho3, hs3⟩; have HO4 : Hid _ := ho3; have HS4 : Hid _ := hs3; have hfil4 := z6m hs3; have hfz4 := y7s hs3 136; clear ho3 hs3))
    refine ⟨⟨u ++ r.data.toList.take n, r.extract n r.size, rfl, ?_, ?_, (HO3.out.trans HO4.out).trans (z5q.setCell _ _ _ _), ?_⟩, ?_⟩
    ·rw [ByteArray.size_extract]; omega
    ·rw [y7l, List.append_assoc, List.take_append_drop]; exact HUR.out
    ·refine ⟨_, _, 0, ?_, by rw [← List.append_assoc]; exact Tk.full HK.out r.data.toList n (Nat.le_trans hn2 HR2.out) hfull⟩
     show _ = _
     rw [Own.z1p HS4.out, z8o _ _ _ 0 0 rfl]
    ·show (r.extract n r.size).size < r.size
     rw [ByteArray.size_extract]; omega
   ·have hne : ((m : Int) + (n : Int) == 128) = false := by rw [beq_eq_false_iff_ne]; omega
    go_wp2_with fail
    refine ⟨⟨u ++ r.data.toList.take n, r.extract n r.size, rfl, ?_, ?_, HX1.out.trans (z5q.setCell _ _ _ _), ?_⟩, ?_⟩
    ·rw [ByteArray.size_extract]; omega
    ·rw [y7l, List.append_assoc, List.take_append_drop]; exact HUR.out
    ·refine ⟨s, _, m + n, ?_, by rw [← List.append_assoc]; exact Tk.more HK.out r.data.toList n (Nat.le_trans hn2 HR2.out) (by omega)⟩
     show _ = _
     rw [Own.z1p HX2.out, z8o _ _ _ (m + n) _ (by omega)]
    ·show (r.extract n r.size).size < r.size
     rw [ByteArray.size_extract]; omega
  ·have hnil : Hid (r.data.toList = []) := List.eq_nil_of_length_eq_zero (show r.size = 0 by omega)
   go_wp2_with fail
   go_end0
   refine ⟨rfl, HO.out, ?_⟩
   have e : u = text.data.toList := by rw [← HUR.out, hnil.out, List.append_nil]
   rw [← e]
   exact ⟨s, bs, m, HS.out, HK.out⟩
end Hs
open Go.RowKit
namespace Hs
attribute [local go_sem] UV.z6q UV.z5u UV.z6r UV.z6s UV.z4x UV.y1w UV.z3z UV.z4m UV.z5v UV.z3n UV.z1c
theorem y7d (s : Sha.St) (bs : Nat → UInt8) (m p : Nat) (x : BitVec 64) (h : p + 8 ≤ 128) : Own.z0f 137 (x4l (stF s bs m) (8 + p) x 8) = Own.z0f 137 (stF s (over bs p 8 (Sha.bytesOf x)) m) := by
 refine Own.z0k (fun j hj => ?_)
 unfold x4l stF over
 by_cases h8 : j < 8
 ·rw [if_neg (by omega), if_pos h8, if_pos h8]
 ·rw [if_neg h8, if_neg h8]
  by_cases h136 : j < 136
  ·rw [if_pos h136, if_pos h136]
   by_cases hin : 8 + p ≤ j ∧ j < 8 + p + 8
   ·rw [if_pos hin, if_pos (by omega), List.getD_eq_getElem?_getD, List.getElem?_eq_getElem (show j - 8 - p < (Sha.bytesOf x).length by rw [Sha.z1r]; omega), Option.getD_some, y8f, show j - (8 + p) = j - 8 - p by omega]
   ·rw [if_neg hin, if_neg (by omega)]
  ·rw [if_neg h136, if_neg h136, if_neg (by omega)]
theorem x8g (bs : Nat → UInt8) (x y : BitVec 64) : over (over bs 112 8 (Sha.bytesOf x)) 120 8 (Sha.bytesOf y) = over bs 112 16 (Sha.bytesOf x ++ Sha.bytesOf y) := by
 funext i
 unfold over
 by_cases h1 : 120 ≤ i ∧ i < 120 + 8
 ·rw [if_pos h1, if_pos (by omega)]
  simp only [List.getD_eq_getElem?_getD]
  rw [List.getElem?_append_right (by rw [Sha.z1r]; omega), Sha.z1r, show i - 112 - 8 = i - 120 by omega]
 ·rw [if_neg h1]
  by_cases h2 : 112 ≤ i ∧ i < 112 + 8
  ·rw [if_pos h2, if_pos (by omega)]
   simp only [List.getD_eq_getElem?_getD]
   rw [List.getElem?_append_left (by rw [Sha.z1r]; omega)]
  ·rw [if_neg h2, if_neg (by omega)]
theorem x8i (t : List UInt8) (z : Nat) (hz : z + 8 = Sha.gap t.length) (hi lo : BitVec 64) (h1 : hi = 0#64) (h2 : lo = BitVec.ofNat 64 (8 * t.length)) :
  t ++ [128] ++ List.replicate z 0 ++ (Sha.bytesOf hi ++ Sha.bytesOf lo).take 16 = Sha.y2w t := by
 subst h1 h2
 have e : Sha.bytesOf 0#64 = List.replicate 8 0 := by decide
 rw [List.take_of_length_le (by simp [Sha.z1r]), e]
 unfold Sha.y2w
 rw [← hz, ← List.replicate_append_replicate]
 simp only [List.append_assoc]
def leftOf : Option Value → Nat
 | some (.int _ v) => ((240 - v) % 128).toNat
 | _ => 0
theorem q9k (n : Nat) (h : n ≤ 1000000000000) : BitVec.ofNat 64 n >>> 61 = 0#64 := by
 apply BitVec.eq_of_toNat_eq
 rw [BitVec.toNat_ushiftRight, BitVec.toNat_ofNat, Nat.shiftRight_eq_div_pow]
 simp
 omega
theorem q9j (n : Nat) (_h : n ≤ 1000000000000) : BitVec.ofNat 64 n <<< 3 = BitVec.ofNat 64 (8 * n) := by
 apply BitVec.eq_of_toNat_eq
 rw [BitVec.toNat_shiftLeft, BitVec.toNat_ofNat, BitVec.toNat_ofNat, Nat.shiftLeft_eq]
 omega
theorem q4o (s : Sha.St) (bs : Nat → UInt8) (m j : Nat) (h1 : 8 ≤ j) (h2 : j < 136) : ∃ v : Int, stF s bs m j = .int .u8 v := ⟨_, by unfold stF; rw [if_neg (by omega), if_pos h2]⟩
set_option maxHeartbeats 2000000 in
theorem x3m (w : World) (b : Nat) (t : List UInt8) (h : y8d w b t) (hb0 : b ≠ 0) (htab : z0j w) (hsz : t.length ≤ 1000000000000) :
  Calls Tryz.prog 171 #[.pointer (some ⟨b, 0, none⟩), .int .u64 (un (BitVec.ofNat 64 t.length))] w fun e w' => e = .returned (.tuple #[]) ∧ z5q b w w' ∧ ∃ bs m, z1u w' b (Sha.chain (Sha.y2w t) ((Sha.y2w t).length / 128)) bs m := by
 have HH : Hid _ := h
 have HT : Hid _ := htab
 clear h htab
 have hg : Sha.gap t.length ≤ 135 ∧ 8 ≤ Sha.gap t.length ∧ (t.length + 1 + (Sha.gap t.length - 8)) % 128 = 112 := by unfold Sha.gap; omega
 obtain ⟨hg1, hg2, hg3⟩ := hg
 generalize hgg : Sha.gap t.length = gp at *
 have HG : Hid _ := hgg
 clear hgg
 go_enter Tryz.func171, Tryz.ntmps171
 go_wp2_with (first
  | (go_at_call 170; refine (y4w _ b t ⟨#[128]⟩ HH.out hb0 HT.out (by decide)).mono ?_; rintro e w1 ⟨rfl, ho1, ht1⟩; have HO1 : Hid _ := ho1; have HT1 : Hid _ := ht1; clear ho1 ht1))
 go_loopw [6] (fun _ wq => ∃ z : Nat, z + 8 ≤ gp ∧ z5q b w wq ∧ y8d wq b (t ++ [128] ++ List.replicate z 0)) (fun _ wq => leftOf (wq.cell? ⟨b, 136, none⟩))
 case atStart => exact ⟨0, by omega, HO1.out, by rw [List.replicate_zero, List.append_nil]; exact HT1.out⟩
 case round =>
  clear HO1 HT1
  rename World => wa
  obtain ⟨z, hz, ho, s, bs, m, hst, htk⟩ := hrel
  have HO : Hid _ := ho
  have HS : Hid _ := hst
  have HK : Hid _ := htk
  have hm : m = (t.length + 1 + z) % 128 := by have := htk.2.1; simp only [List.length_append, List.length_replicate, List.length_cons, List.length_nil] at this; omega
  clear ho hst htk
  have hfil := z6m HS.out
  by_cases hne : m = 112
  ·have hz8 : z + 8 = gp := by omega
   subst hne
   clear hm hg3
   have hsl1 := fun W => y0h W b 8 112 112 rfl (by decide)
   have hsl2 := fun W => y0h W b 8 120 120 rfl (by decide)
   have hx1 : un (BitVec.ofNat 64 t.length) / (2305843009213693952 : Int) = un 0#64 := by rw [← q9k t.length hsz]; exact UV.z3z _ 61
   have hx2 : IntKind.u64.wrap (un (BitVec.ofNat 64 t.length) * 8) = un (BitVec.ofNat 64 (8 * t.length)) := by rw [← q9j t.length hsz]; exact UV.z4m _ 3
   have HF : ∀ (bs : Nat → UInt8) (o : Nat), 8 ≤ o → o + 8 ≤ 136 → ∀ j, o ≤ j → j < o + 8 → ∃ v : Int, stF s bs 112 j = .int .u8 v := fun bs o h1 h2 j h3 h4 => q4o s bs 112 j (by omega) (by omega)
   have HF' : Hid _ := HF
   clear HF
   go_wp2_with (first
    | (go_at_call_of 237 (Value.int IntKind.u64 (un 0#64)); refine (z7p _ b 120 _ _ 137 (stF s bs 112) 270 0#64 (by decide) (by decide) (by decide) (by decide) (HF'.out bs 120 (by decide) (by decide)) HS.out).mono ?_; rintro e w2 ⟨rfl, ho2, hr2⟩; rw [y7d s bs 112 112 _ (by decide)] at hr2; have HO2 : Hid _ := ho2; have HR2 : Hid _ := hr2; clear ho2 hr2))
   refine (z7p _ b 128 _ _ 137 (stF s (over bs 112 8 (Sha.bytesOf 0#64)) 112) 270 (BitVec.ofNat 64 (8 * t.length)) (by decide) (by decide) (by decide) (by decide) (HF'.out _ 128 (by decide) (by decide)) HR2.out).mono ?_
   rintro e w3 ⟨rfl, ho3, hr3⟩
   rw [y7d s _ 112 120 _ (by decide), x8g] at hr3
   have HO3 : Hid _ := ho3
   have HR3 : Hid _ := hr3
   clear ho3 hr3
   have HO4 : Hid (z5q b w w3) := (HO.out.trans HO2.out).trans HO3.out
   go_wp2_with (first
    | (go_at_call 236; refine (x7k _ b s (over bs 112 16 (Sha.bytesOf 0#64 ++ Sha.bytesOf (BitVec.ofNat 64 (8 * t.length)))) 112 HR3.out hb0 (z0j.only HT.out HO4.out hb0)).mono ?_; rintro e w5 ⟨rfl, ho5, hs5⟩; have HO5 : Hid _ := ho5; have HS5 : Hid _ := hs5; clear ho5 hs5))
   go_end0
   refine ⟨rfl, HO4.out.trans HO5.out, over bs 112 16 (Sha.bytesOf 0#64 ++ Sha.bytesOf (BitVec.ofNat 64 (8 * t.length))), 112, ?_⟩
   have hfull := Tk.full HK.out (Sha.bytesOf 0#64 ++ Sha.bytesOf (BitVec.ofNat 64 (8 * t.length))) 16 (by simp [Sha.z1r]) (by omega)
   rw [x8i t z (by rw [HG.out]; exact hz8) _ _ rfl rfl] at hfull
   rw [← hfull.1]
   exact HS5.out
  ·have hne' : ((m : Int) != 112) = true := by rw [bne_iff_ne]; omega
   go_wp2_with (first
    | (go_at_call 170; refine (y4w _ b (t ++ [128] ++ List.replicate z 0) ⟨#[0]⟩ ⟨s, bs, m, HS.out, HK.out⟩ hb0 (z0j.only HT.out HO.out hb0) (by decide)).mono ?_; rintro e w2 ⟨rfl, ho2, ht2⟩; have HO2 : Hid _ := ho2; have HT2 : Hid _ := ht2; clear ho2 ht2))
   refine ⟨⟨z + 1, by omega, HO.out.trans HO2.out, by rw [List.replicate_succ', ← List.append_assoc]; exact HT2.out⟩, ?_⟩
   obtain ⟨s2, bs2, m2, hs2, hk2⟩ := HT2.out
   have hm2 : m2 = (t.length + 1 + z + 1) % 128 := by
    have := hk2.2.1
    simp only [List.length_append, List.length_replicate, List.length_cons, List.length_nil, show (ByteArray.mk #[0]).data.toList.length = 1 from rfl] at this
    omega
   rw [hfil, z6m hs2]
   show ((240 - (m2 : Int)) % 128).toNat < ((240 - (m : Int)) % 128).toNat
   omega
end Hs
open Go.RowKit
namespace Hs
attribute [local go_sem] UV.z6q UV.z5u UV.z6r UV.z6s UV.z4x UV.y1w UV.z3z UV.z4m UV.z5v UV.z3n UV.z1c
theorem k1l (W : World) (b l : Nat) (L : Int) (hL : L = (l : Int)) (hl : l < 64) :
  Sem.run Tryz.prog (Instr.sliceAt 322 (.pointer (some ⟨b, 0, none⟩)) (some (.int .i64 L)) none none) W = .ok (.slice (some ⟨b, l, none⟩) (64 - l) (64 - l)) W := by
 subst hL
 have e1 : Tryz.prog.arrayLen 322 = 64 := by kernel_rfl
 have e2 : Tryz.prog.elem 322 = 5 := by kernel_rfl
 have h := run_sliceAt_array_l (P := Tryz.prog) W 322 ⟨b, 0, none⟩ (by kernel_rfl) .i64 (l : Int) (by omega) (by rw [e1]; omega)
 obtain ⟨i, hi, _, hz1, _⟩ := info_parts y0w
 rw [h, e1, e2]
 simp [sizeOf, typeInfo, hi, hz1, slicedAt, Result.andThen, Addr.add_mid]
 omega
theorem y9s (W : World) (b : Nat) :
  Sem.run Tryz.prog (Instr.sliceAt 322 (.pointer (some ⟨b, 0, none⟩)) none none none) W = .ok (.slice (some ⟨b, 0, none⟩) 64 64) W := by
 have e1 : Tryz.prog.arrayLen 322 = 64 := by kernel_rfl
 have e2 : Tryz.prog.elem 322 = 5 := by kernel_rfl
 have h := run_sliceAt_array_all (P := Tryz.prog) W 322 ⟨b, 0, none⟩ (by kernel_rfl)
 obtain ⟨i, hi, _, hz1, _⟩ := info_parts y0w
 rw [h, e1, e2]
 simp [sizeOf, typeInfo, hi, hz1, slicedAt, Result.andThen, Addr.add_mid]
def k7u (s : Sha.St) (j : Nat) : UInt8 := Sha.byteOf (s.list.getD (j / 8) 0#64) (j % 8)
theorem k0d (s : Sha.St) (j : Nat) (h : j < (Sha.out s).length) : (Sha.out s)[j] = k7u s j := by
 have h' : j < 64 := by rw [Sha.z8y] at h; exact h
 have e : Sha.out s = (List.range 64).map (k7u s) := by rfl
 simp [e]
def y5k (s : Sha.St) (k j : Nat) : Value := if j < 8 * k then .int .u8 ((k7u s j).toNat : Int) else .int .u8 0
theorem y1d (s : Sha.St) (k : Nat) (_hk : k < 8) : Own.z0f 64 (x4l (y5k s k) (8 * k) (s.list[k]?.getD 0#64) 8) = Own.z0f 64 (y5k s (k + 1)) := by
 refine Own.z0k (fun j hj => ?_)
 unfold x4l y5k
 by_cases h1 : 8 * k ≤ j ∧ j < 8 * k + 8
 ·rw [if_pos h1, if_pos (by omega)]
  unfold k7u
  rw [show j / 8 = k by omega, show j % 8 = j - 8 * k by omega, List.getD_eq_getElem?_getD]
 ·rw [if_neg h1]
  by_cases h2 : j < 8 * k
  ·rw [if_pos h2, if_pos (by omega)]
  ·rw [if_neg h2, if_neg (by omega)]
theorem x8f (s : Sha.St) (k j : Nat) : ∃ v : Int, y5k s k j = .int .u8 v := by
 unfold y5k
 by_cases h : j < 8 * k
 ·exact ⟨_, by rw [if_pos h]⟩
 ·exact ⟨_, by rw [if_neg h]⟩
theorem y9v {w : World} {b : Nat} {s : Sha.St} {bs : Nat → UInt8} {m : Nat} (h : z1u w b s bs m) : w.rangeAt b 0 (Own.z0f 8 (z8s s)).toList := fun j v hv => by
 have hj : j < 8 := by have := (lL hv); simpa [Own.z0p] using this
 have h1 := Own.z1f (f := z8s s) hj
 rw [Array.getElem?_toList, h1] at hv
 rw [Nat.zero_add, z5p h j hj, ← Option.some.inj hv]
 unfold z8s; rw [List.getD_eq_getElem?_getD]
set_option maxHeartbeats 2000000 in
theorem k1u (w : World) (b : Nat) (s : Sha.St) (bs : Nat → UInt8) (m : Nat) (hst : z1u w b s bs m) :
  Calls Tryz.prog 172 #[.pointer (some ⟨b, 0, none⟩)] w fun e w' => e = .returned (.string ⟨(Sha.out s).toArray⟩) ∧ Below w.heap.size w w' := by
 have HS : Hid _ := hst
 have hbl := k1o hst
 clear hst
 have HS1 : Hid (z1u (w.alloc (.cells (Own.z4z 64 (.int .u8 0)) 322)) b s bs m) := (Below.heap_alloc _ _ _ hbl).trans HS.out
 go_enter Tryz.func172, Tryz.ntmps172
 go_wp2_with (first
  | refine Own.z0t _ rfl 322 rfl (Own.z4z 64 (.int .u8 0)) (by kernel_rfl) ?_
  | refine wpList_load_mid rfl 177 _ rfl b 0 rfl (Own.z0f 8 (z8s s)).toList _ (y9v HS1.out) Tryz.underlying177 rfl (by kernel_rfl) ?_)
 go_loopw [10] (fun i wq => ∃ k : Nat, k ≤ 8 ∧ i = .int .i64 (k : Int) ∧ Below w.heap.size w wq ∧ wq.heap[w.heap.size]? = some (.cells (Own.z0f 64 (y5k s k)) 322 (0, 0))) (fun i _ => 8 - (intOf i).toNat)
 case atStart => exact ⟨0, by omega, rfl, (Below.refl _ _).alloc (Nat.le_refl _) _, by rw [heap_alloc_new]; rfl⟩
 case round =>
  clear HS1
  rename World => wa
  obtain ⟨k, hk, rfl, hb, hr⟩ := hrel
  have HB : Hid _ := hb
  have HR : Hid _ := hr
  clear hb hr
  by_cases hk8 : k < 8
  ·have hix : ∀ W : World, Sem.run Tryz.prog (Instr.index 177 (.agg (Own.z0f 8 (z8s s))) (.int .i64 (k : Int))) W = .ok (.int .u64 (un (s.list[k]?.getD 0#64))) W := fun W => by rw [z8i W _ k hk8]; unfold z8s; rw [List.getD_eq_getElem?_getD]
   have hsl := fun W => k1l W w.heap.size (8 * k) (8 * (k : Int)) (by omega) (by omega)
   go_wp2_with (first
    | (go_at_call 237; refine (z7p _ w.heap.size (8 * k) _ _ 64 (y5k s k) 322 (s.list[k]?.getD 0#64) (by omega) (by omega) (by omega) (by decide) (fun j _ _ => x8f s k j) HR.out).mono ?_; rintro e w2 ⟨rfl, ho2, hr2⟩; rw [y1d s k hk8] at hr2; have HO2 : Hid _ := ho2; have HR2 : Hid _ := hr2; clear ho2 hr2))
   exact ⟨⟨k + 1, by omega, by go_num, HB.out.trans (HO2.out.below _ (Nat.le_refl _) HB.out.size), HR2.out⟩, by simp [intOf]; omega⟩
  ·obtain rfl : k = 8 := by omega
   have hsl := fun W => y9s W w.heap.size
   have HC : Hid (∀ j (h : j < (Sha.out s).length), wa.cell? ⟨w.heap.size, 0 + j, none⟩ = some (.int .u8 ((Sha.out s)[j].toNat : Int))) := fun j hj => by
    have hj' : j < 64 := by rw [Sha.z8y] at hj; exact hj
    rw [Nat.zero_add, Own.z0o HR.out j hj', k0d]
    unfold y5k
    rw [if_pos (by omega)]
   go_wp2_with (refine Own.z2n _ rfl _ 145 9 5 rfl Tryz.underlying145 Tryz.underlying5 Tryz.underlying9 w.heap.size 0 64 (Sha.out s) rfl HC.out ?_)
   go_ret
   exact ⟨rfl, HB.out⟩
def z8j : Array Value := Own.z0f 137 (stF Sha.start (fun _ => 0) 0)
def y5i : Array Value := Own.z0f 137 (stF ⟨0#64, 0#64, 0#64, 0#64, 0#64, 0#64, 0#64, 0#64⟩ (fun _ => 0) 0)
theorem z9n : z8j.all (·.oneCell') = true := Own.y0n fun j _ => by
 unfold stF
 by_cases h : j < 8
 ·rw [if_pos h]; rfl
 ·rw [if_neg h]
  by_cases h2 : j < 136
  ·rw [if_pos h2]; rfl
  ·rw [if_neg h2]; rfl
set_option maxHeartbeats 2000000 in
theorem x9k (w : World) :
  Calls Tryz.prog 169 #[] w fun e w' => e = .returned (.agg z8j) ∧ Below w.heap.size w w' := by
 go_enter Tryz.func169, Tryz.ntmps169
 go_wp2_with (first
  | refine Own.z0t _ rfl 270 rfl y5i (by kernel_rfl) ?_
  | refine Own.z4j rfl 177 _ rfl (Own.z0f 8 (z8s Sha.start)) (by kernel_rfl) ?_
  | refine Own.z4j rfl 270 _ rfl z8j (by kernel_rfl) ?_
  | refine Own.z3t rfl 270 _ _ rfl y5i z8j 270 rfl rfl (by kernel_rfl) (by kernel_rfl) z9n ?_)
 exact Own.z1g Tryz.results169 rfl _ _ _ _ _ rfl (heap_alloc_new _ _) Tryz.underlying270 rfl (by kernel_rfl) ⟨rfl, (Below.refl _ _).alloc (Nat.le_refl _) _⟩
end Hs
open Go.RowKit
namespace Hs
attribute [local go_sem] UV.z6q UV.z5u UV.z6r UV.z6s UV.z4x UV.y1w UV.z3z UV.z4m UV.z5v UV.z3n UV.z1c
def z2u (l : List ByteArray) : List UInt8 := l.flatMap (fun s => s.data.toList)
theorem y9a (ss : List ByteArray) (k : Nat) (h : k < ss.length) : z2u (ss.take (k + 1)) = z2u (ss.take k) ++ ss[k].data.toList := by
 unfold z2u
 rw [List.take_succ_eq_append_getElem h, List.flatMap_append]
 simp
theorem x7b (ss : List ByteArray) (k : Nat) : (z2u (ss.take k)).length ≤ (z2u ss).length := by
 unfold z2u
 conv => rhs; rw [← List.take_append_drop k ss, List.flatMap_append, List.length_append]
 omega
theorem q9h (n m : Nat) (hn : n ≤ 1000000000000) (hm : m ≤ 1000000000000) : IntKind.u64.wrap (un (BitVec.ofNat 64 n) + (m : Int)) = un (BitVec.ofNat 64 (n + m)) := by
 rw [UV.y5b _ (by omega), UV.y5b _ (by omega), IntKind.wrap_u64]
 omega
def k8b (w : World) (a0 : Option Addr) (ss : List ByteArray) : Prop := ss = [] ∨ ∃ pb po, a0 = some ⟨pb, po, none⟩ ∧ ∀ j (h : j < ss.length), w.cell? ⟨pb, po + j, none⟩ = some (.string ss[j])
set_option maxHeartbeats 2000000 in
theorem q6h (w : World) (a0 : Option Addr) (cap : Nat) (ss : List ByteArray) (hp : k8b w a0 ss) (htab : z0j w) (hsz : (z2u ss).length ≤ 1000000000) (hn : ss.length ≤ 1000000000) :
  Calls Tryz.prog 109 #[.slice a0 ss.length cap] w fun e w' => e = .returned (.string ⟨(Sha.sha (z2u ss)).toArray⟩) ∧ Below w.heap.size w w' := by
 have HP : Hid _ := hp
 have HT : Hid _ := htab
 have h0l := htab.lt
 clear hp htab
 go_enter Tryz.func109, Tryz.ntmps109
 go_wp2_with (first
  | (go_at_call 169; refine (x9k _).mono ?_; rintro e w1 ⟨rfl, hb1⟩; have HB1 : Hid _ := hb1; clear hb1)
  | refine Own.z0t _ rfl 270 rfl y5i (by kernel_rfl) ?_
  | refine Own.z3t rfl 270 _ _ rfl y5i z8j 270 rfl rfl (by kernel_rfl) (by kernel_rfl) z9n ?_)
 have hs1 : w.heap.size ≤ w1.heap.size := HB1.out.size
 have hb0 : w1.heap.size ≠ 0 := by omega
 go_loopw [4, 10] (fun l i wq => ∃ k : Nat, k ≤ ss.length ∧ i = .int .i64 (k : Int) ∧ l = .int .u64 (un (BitVec.ofNat 64 (z2u (ss.take k)).length)) ∧ Below w.heap.size w wq ∧ y8d wq w1.heap.size (z2u (ss.take k))) (fun _ i _ => ss.length - (intOf i).toNat)
 case atStart => exact ⟨0, by omega, rfl, rfl, HB1.out.alloc hs1 _, Sha.start, fun _ => 0, 0, heap_alloc_new _ _, Tk.start _⟩
 case round =>
  rename World => wa
  obtain ⟨k, hk, rfl, rfl, hb, ht⟩ := hrel
  have HB : Hid _ := hb
  have HK : Hid _ := ht
  clear hb ht
  by_cases hkn : k < ss.length
  ·have hjs := y9a ss k hkn
   have hle := x7b ss (k + 1)
   rw [hjs, List.length_append] at hle
   have hl2 : ss[k].data.toList.length = ss[k].size := by simp
   rw [hl2] at hle
   have HJ : Hid _ := hjs
   have HL2 : Hid _ := hl2
   clear hjs hl2
   rcases HP.out with h2 | ⟨pb, po, rfl, hcs⟩
   ·rw [h2] at hkn; exact absurd hkn (by simp)
   ·have hc := hcs k hkn
    have hlt := block_lt_of_cell hc
    have hc' : wa.cell? ⟨pb, po + k, none⟩ = some (.string ss[k]) := (HB.out.cell (p := ⟨pb, po + k, none⟩) hlt).trans hc
    clear hc hcs hlt
    have hadd := q9h (z2u (ss.take k)).length ss[k].size (by omega) (by omega)
    generalize ss[k] = part at *
    go_wp2_with (first
     | (go_at_call 170; refine (y4w _ w1.heap.size _ part HK.out hb0 (z0j.below HT.out HB.out h0l) (by omega)).mono ?_; rintro e w2 ⟨rfl, ho2, ht2⟩; have HO2 : Hid _ := ho2; have HT2 : Hid _ := ht2; clear ho2 ht2))
    exact ⟨⟨k + 1, by omega, by go_num, by rw [HJ.out, List.length_append, HL2.out], HB.out.trans (HO2.out.below _ (by omega) HB.out.size), by rw [HJ.out]; exact HT2.out⟩, by simp [intOf]; omega⟩
  ·obtain rfl : k = ss.length := by omega
   have HK2 : Hid (y8d wa w1.heap.size (z2u ss)) := by have := HK.out; rwa [List.take_length] at this
   go_wp2_with fail
   refine (x3m _ w1.heap.size (z2u ss) HK2.out hb0 (z0j.below HT.out HB.out h0l) (by omega)).mono ?_
   rintro e w2 ⟨rfl, ho2, bs2, m2, hs2⟩
   have HO2 : Hid _ := ho2
   have HS2 : Hid _ := hs2
   clear ho2 hs2
   go_wp2_with (first
    | (go_at_call 172; refine (k1u _ w1.heap.size _ bs2 m2 HS2.out).mono ?_; rintro e w3 ⟨rfl, hb3⟩; have HB3 : Hid _ := hb3; clear hb3))
   go_ret
   have hb2 := HB.out.trans (HO2.out.below _ hs1 HB.out.size)
   exact ⟨rfl, hb2.trans (HB3.out.mono hb2.size)⟩
end Hs
open Go.RowKit
namespace Gw
open Fw Bt Ww Sw Cw Ed
theorem x1r (x : BitVec 64) : BitVec.ofInt 64 (un x) = x := by
 unfold un
 rw [BitVec.ofInt_natCast]
 simp
theorem j0s (x y : BitVec 64) : bits .andNot .u64 (un x) (un y) = un (x &&& ~~~y) := by
 show IntKind.u64.wrap ((BitVec.ofInt 64 (un x) &&& ~~~ BitVec.ofInt 64 (un y)).toNat : Int) = _
 rw [x1r, x1r]
 exact UV.z1c _
theorem k8m (x : BitVec 64) : bits .andNot .u64 (un x) 7 = un (x &&& 18446744073709551608#64) := j0s x 7#64
theorem k2y (x : BitVec 64) : bits .andNot .u64 (un x) 9223372036854775808 = un (x &&& 9223372036854775807#64) := j0s x 9223372036854775808#64
theorem j2z (x : BitVec 64) : bits .or .u64 (un x) 4611686018427387904 = un (x ||| 4611686018427387904#64) := UV.y1w x 4611686018427387904#64
def x8z (q : Q) : Q := ⟨q.a0 &&& 18446744073709551608#64, q.a1, q.a2, q.a3 &&& 9223372036854775807#64 ||| 4611686018427387904#64⟩
def k2n (N : Nat) : Nat := (N - N % 8) % 28948022309329048855892746252171976963317496166410141009864396001978282409984 + 28948022309329048855892746252171976963317496166410141009864396001978282409984
theorem j2x (x : BitVec 64) : (x &&& 18446744073709551608#64).toNat = x.toNat - x.toNat % 8 := by
 rw [show 18446744073709551608#64 = ~~~7#64 from by decide]
 have h : (x &&& ~~~7#64) = (x >>> 3) <<< 3 := by
  apply BitVec.eq_of_getLsbD_eq
  intro i hi
  rw [BitVec.getLsbD_and, BitVec.getLsbD_not, BitVec.getLsbD_shiftLeft, BitVec.getLsbD_ushiftRight]
  have h7 : (7#64).getLsbD i = decide (i < 3) := by
   rcases i with _ | _ | _ | i
   ·rfl
   ·rfl
   ·rfl
   ·rw [show decide (i + 1 + 1 + 1 < 3) = false from decide_eq_false (by omega)]
    rw [BitVec.getLsbD, show (7#64).toNat = 2 ^ 3 - 1 from rfl, Nat.testBit_two_pow_sub_one]
    exact decide_eq_false (by omega)
  rw [h7]
  by_cases h3 : i < 3
  ·simp [h3, hi]
  ·rw [show 3 + (i - 3) = i by omega]
   simp [h3, hi]
 rw [h, BitVec.toNat_shiftLeft, BitVec.toNat_ushiftRight, Nat.shiftRight_eq_div_pow, Nat.shiftLeft_eq]
 have := x.isLt
 omega
theorem j3j (x : BitVec 64) : (x &&& 9223372036854775807#64 ||| 4611686018427387904#64).toNat = x.toNat % 4611686018427387904 + 4611686018427387904 := by
 have h2 : x &&& 9223372036854775807#64 ||| 4611686018427387904#64 = x &&& 4611686018427387903#64 ||| 4611686018427387904#64 := by
  apply BitVec.eq_of_getLsbD_eq
  intro i hi
  simp only [BitVec.getLsbD_or, BitVec.getLsbD_and]
  have e1 : (9223372036854775807#64).getLsbD i = decide (i < 63) := by
   rw [BitVec.getLsbD, show (9223372036854775807#64).toNat = 2 ^ 63 - 1 from rfl, Nat.testBit_two_pow_sub_one]
  have e2 : (4611686018427387903#64).getLsbD i = decide (i < 62) := by
   rw [BitVec.getLsbD, show (4611686018427387903#64).toNat = 2 ^ 62 - 1 from rfl, Nat.testBit_two_pow_sub_one]
  have e3 : (4611686018427387904#64).getLsbD i = decide (i = 62) := by
   rw [BitVec.getLsbD, show (4611686018427387904#64).toNat = 2 ^ 62 from rfl, Nat.testBit_two_pow]
   by_cases h : i = 62
   ·subst h; rfl
   ·rw [decide_eq_false h, decide_eq_false (Ne.symm h)]
  rw [e1, e2, e3]
  by_cases h : i = 62
  ·simp [h]
  ·by_cases h3 : i < 62
   ·rw [decide_eq_true h3, decide_eq_true (show i < 63 by omega)]
   ·rw [decide_eq_false h3, decide_eq_false (show ¬ i < 63 by omega)]
 rw [h2, BitVec.toNat_or, BitVec.toNat_and, show (4611686018427387903#64).toNat = 2 ^ 62 - 1 from rfl, Nat.and_two_pow_sub_one_eq_mod, show (4611686018427387904#64).toNat = 1 <<< 62 from rfl, Nat.or_comm, ← Nat.shiftLeft_add_eq_or_of_lt (Nat.mod_lt _ (by decide))]
 rw [show 1 <<< 62 = 4611686018427387904 from rfl]
 omega
theorem q4h (q : Q) : x8z q = nq (k2n q.num) := by
 refine y2j ?_
 unfold x8z k2n Q.num
 simp only
 rw [j2x, j3j]
 have h0 := q.a0.isLt
 have h1 := q.a1.isLt
 have h2 := q.a2.isLt
 have h3 := q.a3.isLt
 generalize q.a0.toNat = x0 at *
 generalize q.a1.toNat = x1 at *
 generalize q.a2.toNat = x2 at *
 generalize q.a3.toNat = x3 at *
 omega
theorem x9m {ops : Array Oper} {rest : List Oper} {o : Oper} {a : Act} {w : World} {Q : Exit → Act → World → Prop} (hg : o.guard = none) (x y : Operand) (ho : o.op = .store 159 x y) (b off : Nat) (k : Int) (old : Value) (hx : a.eval x = .pointer (some ⟨b, off, none⟩)) (hy : a.eval y = .int .u64 k) (hc : w.cell? ⟨b, off, none⟩ = some old) (hf : w.frozen? ⟨b, off, none⟩ = false)
  (h : wpList Tryz.prog ops Q rest (a.put o.dst undef) (w.setCell ⟨b, off, none⟩ (.int .u64 k))) : wpList Tryz.prog ops Q (o :: rest) a w := by
 refine wpList_plain hg fun K hK => ?_
 have hsz : (sizeOf 159).run Tryz.prog w = .ok 1 w := by
  obtain ⟨i, hi⟩ := Option.isSome_iff_exists.1 (show (Tryz.prog.info? 159).isSome = true by kernel_rfl)
  have h1 := run_sizeOf (P := Tryz.prog) w hi
  rw [show Tryz.prog.cellsOf 159 = 1 by kernel_rfl] at h1
  exact h1
 have hr : (storeVar 159 ⟨b, off, none⟩ (.int .u64 k)).run Tryz.prog w = .ok () (w.setCell ⟨b, off, none⟩ (.int .u64 k)) := by
  simp [storeVar, hsz, Value.cells, go_sem, hc, hf]
 unfold Oper.wp execOp
 simp only [ho, hx, hy, Instr.storeAt, Instr.sureAddr, Sem.run_bind, Sem.run_pure, Result.andThen_ok, hr]
 exact hK _ _ h
theorem y1q (l : List UInt8) : (Sha.sha l).length = 64 := Sha.x4s l
theorem y2t (l : List UInt8) : Hs.z2u [⟨l.toArray⟩] = l := by simp [Hs.z2u]
set_option maxHeartbeats 1000000 in
theorem x0z (l : List UInt8) (hl : l.length ≤ 1000000000) (w : World) (ht : Hs.z0j w) : Calls Tryz.prog 119 #[.string ⟨l.toArray⟩] w fun e w' => e = .returned (.tuple #[.agg (nq (k2n (le ((Sha.sha l).take 32)))).cells, .string ⟨((Sha.sha l).drop 32).toArray⟩]) ∧ Below w.heap.size w w' := by
 obtain ⟨h, hh⟩ : ∃ h, h = Sha.sha l := ⟨_, rfl⟩
 have Hlen : Hid (h.length = 64) := by rw [hh]; exact y1q l
 have Hof : Hid (∀ b w, w.cell? ⟨b, 0, none⟩ = some (.string ⟨l.toArray⟩) → Hs.z0j w → Calls Tryz.prog 109 #[.slice (some ⟨b, 0, none⟩) 1 1] w fun e w' => e = .returned (.string ⟨h.toArray⟩) ∧ Below w.heap.size w w') := by
  intro b w hc ht
  have := Hs.q6h w (some ⟨b, 0, none⟩) 1 [⟨l.toArray⟩] (.inr ⟨b, 0, rfl, fun j hj => by
   obtain rfl : j = 0 := by simpa using hj
   exact hc⟩) ht (by rw [y2t]; exact hl) (by simp)
  rw [y2t, ← hh] at this
  exact this
 rw [← hh]
 have Ht : Hid (Hs.z0j w) := ht
 clear hh hl ht
 have HZ : Hid (NAt (w.alloc (.cells zQ.cells 184)) w.heap.size zQ) := z5j w
 go_enter Tryz.func119, Tryz.ntmps119
 go_wp2_with fail
 obtain ⟨W, hW⟩ : ∃ W, W = (w.alloc (.cells zQ.cells 184)).alloc (.cells #[.string ⟨l.toArray⟩] 9) := ⟨_, rfl⟩
 have HcW : Hid (W.cell? ⟨w.heap.size + 1, 0, none⟩ = some (.string ⟨l.toArray⟩)) := by
  rw [hW]
  exact cell_of_row _ _ _ _ _ _ (z0d _ _ _ (by simp))
 have HBW : Hid (Below w.heap.size w W) := by rw [hW]; exact ((Below.refl _ _).alloc (Nat.le_refl _) _).alloc (by simp) _
 have HtW : Hid (Hs.z0j W) := Ht.out.below HBW.out Ht.out.lt
 have HZW : Hid (NAt W w.heap.size zQ) := by rw [hW]; exact (z5j w).below ((Below.refl (w.heap.size + 1) _).alloc (by simp) _) (by omega)
 rw [show ((w.alloc (Obj.cells #[Value.int .u64 0, Value.int .u64 0, Value.int .u64 0, Value.int .u64 0] 184)).alloc (Obj.cells #[Value.string ⟨l.toArray⟩] 9)) = W from hW.symm]
 clear hW HZ
 refine (Hof.out (w.heap.size + 1) W HcW.out HtW.out).mono ?_
 rintro e w1 ⟨rfl, hb1⟩
 have HX1 : Hid (Below W.heap.size W w1) := hb1
 have HZ1 : Hid (NAt w1 w.heap.size zQ) := HZW.out.below HX1.out HZW.out.lt
 have HB1 : Hid (Below w.heap.size w w1) := HBW.out.trans (HX1.out.mono HBW.out.size)
 have hli : (h.length : Int) = 64 := by have := Hlen.out; omega
 clear hb1 HX1 HcW HBW HtW HZW Ht Hof
 go_wp2_with fail
 rw [z7l, List.drop_zero]
 refine (z4e (h.take 32) (by have := Hlen.out; simp; omega) _).mono ?_
 rintro e w2 ⟨rfl, hb2⟩
 rw [List.take_take, Nat.min_self]
 have HX2 : Hid (Below w1.heap.size w1 w2) := hb2
 have HZ2 : Hid (NAt w2 w.heap.size zQ) := HZ1.out.below HX2.out HZ1.out.lt
 have HB2 : Hid (Below w.heap.size w w2) := HB1.out.trans (HX2.out.mono HB1.out.size)
 clear hb2 HX2 HZ1 HB1
 obtain ⟨q, hq⟩ : ∃ q, q = bq (h.take 32) := ⟨_, rfl⟩
 have HQ : Hid (x8z q = nq (k2n (le (h.take 32)))) := by
  show _ = _
  rw [q4h, hq, z9d _ (by simp; omega)]
 rw [← hq]
 clear hq
 have HQ3 : Hid (NAt (w2.setRow w.heap.size q.cells) w.heap.size q) := HZ2.out.setRow _
 have HB3 : Hid (Below w.heap.size w (w2.setRow w.heap.size q.cells)) := HB2.out.trans ((z0a _ _ _).mono (Nat.le_refl _))
 have HQ4 : Hid (NAt ((w2.setRow w.heap.size q.cells).setCell ⟨w.heap.size, 0, none⟩ (.int .u64 (un (q.a0 &&& 18446744073709551608#64)))) w.heap.size ⟨q.a0 &&& 18446744073709551608#64, q.a1, q.a2, q.a3⟩) := Sw.NAt.j0x HQ3.out _
 have HB4 : Hid (Below w.heap.size w ((w2.setRow w.heap.size q.cells).setCell ⟨w.heap.size, 0, none⟩ (.int .u64 (un (q.a0 &&& 18446744073709551608#64))))) := HB3.out.setCell (Nat.le_refl _) _
 have HQ5 : Hid (NAt (((w2.setRow w.heap.size q.cells).setCell ⟨w.heap.size, 0, none⟩ (.int .u64 (un (q.a0 &&& 18446744073709551608#64)))).setCell ⟨w.heap.size, 3, none⟩ (.int .u64 (un (q.a3 &&& 9223372036854775807#64)))) w.heap.size ⟨q.a0 &&& 18446744073709551608#64, q.a1, q.a2, q.a3 &&& 9223372036854775807#64⟩) := Cw.NAt.k7v HQ4.out _
 have HB5 : Hid (Below w.heap.size w (((w2.setRow w.heap.size q.cells).setCell ⟨w.heap.size, 0, none⟩ (.int .u64 (un (q.a0 &&& 18446744073709551608#64)))).setCell ⟨w.heap.size, 3, none⟩ (.int .u64 (un (q.a3 &&& 9223372036854775807#64))))) := HB4.out.setCell (Nat.le_refl _) _
 have HQ6 : Hid (NAt ((((w2.setRow w.heap.size q.cells).setCell ⟨w.heap.size, 0, none⟩ (.int .u64 (un (q.a0 &&& 18446744073709551608#64)))).setCell ⟨w.heap.size, 3, none⟩ (.int .u64 (un (q.a3 &&& 9223372036854775807#64)))).setCell ⟨w.heap.size, 3, none⟩ (.int .u64 (un (q.a3 &&& 9223372036854775807#64 ||| 4611686018427387904#64)))) w.heap.size (x8z q)) := Cw.NAt.k7v HQ5.out _
 have HB6 : Hid (Below w.heap.size w ((((w2.setRow w.heap.size q.cells).setCell ⟨w.heap.size, 0, none⟩ (.int .u64 (un (q.a0 &&& 18446744073709551608#64)))).setCell ⟨w.heap.size, 3, none⟩ (.int .u64 (un (q.a3 &&& 9223372036854775807#64)))).setCell ⟨w.heap.size, 3, none⟩ (.int .u64 (un (q.a3 &&& 9223372036854775807#64 ||| 4611686018427387904#64))))) := HB5.out.setCell (Nat.le_refl _) _
 have hc3 : (w2.setRow w.heap.size q.cells).cell? ⟨w.heap.size, 0, none⟩ = some (.int .u64 (un q.a0)) := z7i HQ3.out 0 (by omega)
 have hf3 : (w2.setRow w.heap.size q.cells).frozen? ⟨w.heap.size, 0, none⟩ = false := Cw.NAt.frozen HQ3.out 0
 obtain ⟨w4, hw4⟩ : ∃ w4, w4 = ((w2.setRow w.heap.size q.cells).setCell ⟨w.heap.size, 0, none⟩ (.int .u64 (un (q.a0 &&& 18446744073709551608#64)))) := ⟨_, rfl⟩
 rw [← hw4] at HQ4 HB4 HQ5 HB5 HQ6 HB6
 have hc4 : w4.cell? ⟨w.heap.size, 3, none⟩ = some (.int .u64 (un q.a3)) := z7i HQ4.out 3 (by omega)
 have hf4 : w4.frozen? ⟨w.heap.size, 3, none⟩ = false := Cw.NAt.frozen HQ4.out 3
 obtain ⟨w5, hw5⟩ : ∃ w5, w5 = w4.setCell ⟨w.heap.size, 3, none⟩ (.int .u64 (un (q.a3 &&& 9223372036854775807#64))) := ⟨_, rfl⟩
 rw [← hw5] at HQ5 HB5 HQ6 HB6
 have hc5 : w5.cell? ⟨w.heap.size, 3, none⟩ = some (.int .u64 (un (q.a3 &&& 9223372036854775807#64))) := z7i HQ5.out 3 (by omega)
 have hf5 : w5.frozen? ⟨w.heap.size, 3, none⟩ = false := Cw.NAt.frozen HQ5.out 3
 have ha7 := k8m q.a0
 have ha63 := k2y q.a3
 have ho62 := j2z (q.a3 &&& 9223372036854775807#64)
 have Hw4 : Hid _ := hw4
 have Hw5 : Hid _ := hw5
 have Hc3 : Hid _ := hc3
 have Hf3 : Hid _ := hf3
 clear hw4 hw5 hc3 hf3
 go_wp2_with (first | refine z2o rfl _ _ rfl w.heap.size q zQ rfl rfl HZ2.out ?_ | refine Cw.x7i rfl _ rfl w.heap.size 0 (.int .u64 (un q.a0)) rfl Hc3.out ?_ | (refine x9m rfl _ _ rfl w.heap.size 0 (un (q.a0 &&& 18446744073709551608#64)) (.int .u64 (un q.a0)) rfl rfl Hc3.out Hf3.out ?_; rw [← Hw4.out]) | refine Cw.x7i rfl _ rfl w.heap.size 3 (.int .u64 (un q.a3)) rfl hc4 ?_ | (refine x9m rfl _ _ rfl w.heap.size 3 (un (q.a3 &&& 9223372036854775807#64)) (.int .u64 (un q.a3)) rfl rfl hc4 hf4 ?_; rw [← Hw5.out]))
 obtain ⟨w6, hw6⟩ : ∃ w6, w6 = w5.setCell ⟨w.heap.size, 3, none⟩ (.int .u64 (un (q.a3 &&& 9223372036854775807#64 ||| 4611686018427387904#64))) := ⟨_, rfl⟩
 rw [← hw6] at HQ6 HB6 ⊢
 clear hw6 Hw4 Hw5 Hc3 Hf3 hc4 hf4 hc5 hf5 ha7 ha63 ho62 HQ3 HB3 HQ4 HB4 HQ5 HB5
 refine Qt.y5h 3 1 (by kernel_rfl) (by kernel_rfl) (by decide) (by decide) _ rfl 184 _ _ rfl w.heap.size (x8z q).cells (x8z q).cells HQ6.out (by kernel_rfl) rfl (x8z q).cells_one ?_
 refine y_n rfl _ rfl w.heap.size (x8z q) rfl HQ6.out ?_
 refine Qt.z1a ?_
 refine Qt.p_t (by decide) rfl (.string ⟨h.toArray⟩) (fun _ => by kernel_rfl) ?_
 simp only [zD]
 refine Qt.p_t (by decide) rfl (.string ⟨(h.drop 32).toArray⟩) (fun w' => ?_) ?_
 ·go_simp
  rw [z7l, List.take_of_length_le (by simp)]
 simp only [zD]
 refine Qt.k0e ?_
 refine ⟨rfl, rfl, ?_⟩
 intro w7 hb7
 have HX7 : Hid (Below w6.heap.size w6 w7) := hb7
 have HQ7 : Hid (NAt w7 w.heap.size (x8z q)) := HQ6.out.below HX7.out HQ6.out.lt
 have HB7 : Hid (Below w.heap.size w (w7.setRow w.heap.size (x8z q).cells)) := z0r HB6.out HX7.out _ (Nat.le_refl _) _
 clear hb7
 go_wp2_with fail
 exact z8h Tryz.results119 rfl w.heap.size 184 (x8z q).cells (0, 0) _ (.string ⟨(h.drop 32).toArray⟩) rfl rfl (HQ7.out.setRow _) Tryz.underlying184 rfl (by kernel_rfl) ⟨by rw [HQ.out], HB7.out⟩
end Gw
open Go.RowKit
namespace Gw
open Fw Bt Ww Sw Cw Ed
def sec (l : List UInt8) : Nat := k2n (le ((Sha.sha l).take 32))
theorem x9a (l : List UInt8) : sec l < 115792089237316195423570985008687907853269984665640564039457584007913129639936 := by
 unfold sec k2n
 omega
def z6v (l : List UInt8) : List UInt8 := y3v (z1x bP (sec l))
theorem z7r (n : Nat) (hn : n < 115792089237316195423570985008687907853269984665640564039457584007913129639936) (w : World) : Calls Tryz.prog 120 #[.agg (nq n).cells] w fun e w' => e = .returned (.string ⟨(y3v (z1x bP n)).toArray⟩) ∧ Below w.heap.size w w' := by
 have h := x0b (nq n) w
 rw [z3c hn] at h
 exact h
set_option maxHeartbeats 1000000 in
theorem k9i (l : List UInt8) (hl : l.length ≤ 1000000000) (w : World) (ht : Hs.z0j w) : Calls Tryz.prog 83 #[.string ⟨l.toArray⟩] w fun e w' => e = .returned (.string ⟨(z6v l).toArray⟩) ∧ Below w.heap.size w w' := by
 obtain ⟨k, hk⟩ : ∃ k, k = (z6v l).toArray := ⟨_, rfl⟩
 obtain ⟨q, hq⟩ : ∃ q, q = nq (sec l) := ⟨_, rfl⟩
 have Htb : Hid (∀ w, Calls Tryz.prog 120 #[.agg q.cells] w fun e w' => e = .returned (.string ⟨k⟩) ∧ Below w.heap.size w w') := by rw [hq, hk]; exact z7r _ (x9a l)
 obtain ⟨s2, hs2⟩ : ∃ s2, s2 = ((Sha.sha l).drop 32).toArray := ⟨_, rfl⟩
 have Hh : Hid (∀ w, Hs.z0j w → Calls Tryz.prog 119 #[.string ⟨l.toArray⟩] w fun e w' => e = .returned (.tuple #[.agg q.cells, .string ⟨s2⟩]) ∧ Below w.heap.size w w') := by
  intro w ht
  rw [hq, hs2]; exact x0z l hl w ht
 rw [← hk]
 have Ht : Hid (Hs.z0j w) := ht
 clear hk hq hs2 hl ht
 go_enter Tryz.func83, Tryz.ntmps83
 go_wp2_with fail
 refine (Hh.out _ Ht.out).mono ?_
 rintro e w1 ⟨rfl, hb1⟩
 have HB1 : Hid (Below w.heap.size w w1) := hb1
 clear hb1
 go_wp2_with (refine z5m rfl rfl rfl rfl q (fun _ => rfl) (fun _ => rfl) ?_)
 intro w2 bn hle hW hb2
 have HN2 : Hid (NAt w2 bn q) := hW
 have HB2 : Hid (Below w.heap.size w w2) := HB1.out.trans (hb2.mono HB1.out.size)
 clear hle hW hb2 HB1
 go_wp2_with (refine z2d rfl _ rfl bn q rfl HN2.out ?_)
 refine (Htb.out _).mono ?_
 rintro e w3 ⟨rfl, hb3⟩
 have HB3 : Hid (Below w.heap.size w w3) := HB2.out.trans (hb3.mono HB2.out.size)
 clear hb3
 go_wp2_with fail
 exact bodyPost_ret (v := .string ⟨k⟩) (by simp [results, Tryz.results83, go_sem]) rfl ⟨rfl, HB3.out⟩
end Gw
end Go.Proofs.YtbojijefenfbgaaGreatDoor

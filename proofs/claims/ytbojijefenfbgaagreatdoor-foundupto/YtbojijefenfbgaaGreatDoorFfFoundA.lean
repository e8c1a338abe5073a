/- Walk of the package posternkeep's Found. -/
import Derived.Test.YtbojijefenfbgaaGreatDoorFfShort
import Derived.Test.YtbojijefenfbgaaGreatDoorFfTownH
namespace Go.Proofs.YtbojijefenfbgaaGreatDoor
open Go Go.RowKit
namespace Ks
theorem x0i {P : Program} {ops : Array Oper} {rest : List Oper} {o : Oper} {a : Act} {w : World} {Q : Exit → Act → World → Prop} (hw : Region.wanted o (yielded ops a.tmps) = true) (t : TypeId) (x ix : Operand) (ho : o.op = .indexAddr t x ix) (e : TypeId) (len sz : Nat) (hu : P.underlying t = some (.array len e)) (hs : P.cellsOf e = sz) (hi0 : (P.info? e).isSome = true) (b off n : Nat)
  (hx : a.eval x = .pointer (some ⟨b, off, none⟩)) (hi : a.eval ix = .int .i64 (n : Int)) (hn : n < len) (h : wpList P ops Q rest (a.put o.dst (.pointer (some ⟨b, off + n * sz, none⟩))) w) : wpList P ops Q (o :: rest) a w := by
 refine y4q hw _ ?_ h
 obtain ⟨i, hi1⟩ := Option.isSome_iff_exists.1 hi0
 unfold execOp
 simp only [ho, hx, hi, Sem.run_bind, Sem.run_pure, Result.andThen_ok, Qt.y0y w t e len sz i hu hi1 hs b off n .i64 hn]
end Ks
namespace Tn
open Mp Bk Tk Gw Gt
theorem q2v {n m : Nat} (h : n < m) : pk (n : Int) m = n := by
 unfold pk
 rw [if_neg (by omega), Int.emod_eq_of_lt (by omega) (by omega)]
 omega
def x2x (inn : Nat → Nat → Bool) : Array Value := Own.z0g 24 fun j => .bool (inn (j / 4) (j % 4))
def mark (inn : Nat → Nat → Bool) (t g : Nat) (u h : Nat) : Bool := inn u h || decide (u = t ∧ h = g)
theorem x6e {inn : Nat → Nat → Bool} {w : World} {b : Nat} {T : TypeId} (h : w.heap[b]? = some (.cells (x2x inn) T (0, 0))) {t g : Nat} (ht : t < 6) (hg : g < 4) : w.cell? ⟨b, 0 + t * 4 + g * 1, none⟩ = some (.bool (inn t g)) := by
 rw [Own.z0p h _ (by omega), show (0 + t * 4 + g * 1) / 4 = t by omega, show (0 + t * 4 + g * 1) % 4 = g by omega]
theorem x0j (inn : Nat → Nat → Bool) {t g : Nat} (_ht : t < 6) (hg : g < 4) : (x2x inn).setIfInBounds (0 + t * 4 + g * 1) (.bool true) = x2x (mark inn t g) := by
 unfold x2x
 rw [Own.y5x]
 refine Own.z0k fun j hj => ?_
 unfold mark
 by_cases e : j = 0 + t * 4 + g * 1
 ·rw [if_pos e]
  have e1 : j / 4 = t := by omega
  have e2 : j % 4 = g := by omega
  simp [e1, e2]
 ·rw [if_neg e]
  have : ¬ (j / 4 = t ∧ j % 4 = g) := by omega
  simp [this]
structure FAt (K : List UInt8) (od : Int → List UInt8) (N : Nat) (w0 : World) (lv : Value) (ib : Nat) (inn : Nat → Nat → Bool) (w : World) (O : Nat → Nat → Prop) (ps : List (Nat × St)) (m : Nat) (P : Int × Int → Int × Int) (ow : Int → Int) : Prop where
 town : z1k K noF od q2l N w lv O ps m P ow
 low : Below N w0 w
 base : N ≤ ib
 free : y7f O ib
 at_ : w.heap[ib]? = some (.cells (x2x inn) 79 (0, 0))
section
variable {K : List UInt8} {od : Int → List UInt8} {N : Nat} {w0 w w' : World} {lv : Value} {ib : Nat} {inn : Nat → Nat → Bool} {O : Nat → Nat → Prop} {ps : List (Nat × St)} {m : Nat} {P : Int × Int → Int × Int} {ow : Int → Int}
theorem FAt.lt (h : FAt K od N w0 lv ib inn w O ps m P ow) : ib < w.heap.size := (Array.getElem?_eq_some_iff.1 h.at_).1
theorem FAt.below (h : FAt K od N w0 lv ib inn w O ps m P ow) (hb : Below w.heap.size w w') : FAt K od N w0 lv ib inn w' O ps m P ow :=
 ⟨h.town.below hb, h.low.trans (hb.mono h.town.tin.wN), h.base, h.free, (hb.block ib h.lt).trans h.at_⟩
theorem FAt.goes (h : FAt K od N w0 lv ib inn w O ps m P ow) {O' : Nat → Nat → Prop} {ps' : List (Nat × St)} {m' : Nat} {P' : Int × Int → Int × Int} {ow' : Int → Int} (ht : z1k K noF od q2l N w' lv O' ps' m' P' ow') (hk : Kept O w O' w') : FAt K od N w0 lv ib inn w' O' ps' m' P' ow' :=
 ⟨ht, h.low.trans (h.town.tin.k1y hk), h.base, (hk.free ib h.lt h.free).1, (hk.free ib h.lt h.free).2.trans h.at_⟩
theorem FAt.marks (h : FAt K od N w0 lv ib inn w O ps m P ow) {inn' : Nat → Nat → Bool} (hR : w'.heap[ib]? = some (.cells (x2x inn') 79 (0, 0))) (hF : ∀ S B, (S ib ∨ B ≤ ib) → Fr S B w w') : FAt K od N w0 lv ib inn' w' O ps m P ow := by
 have hf := hF (fun k => k = ib) w.heap.size (Or.inl rfl)
 refine ⟨⟨h.town.tin.fr hf fun b hb => ?_, h.town.gts, h.town.row.congr fun b hb => hf.block b (h.town.row.lt b hb) fun e => ?_, h.town.four⟩, h.low.trans ((hF (fun _ => False) N (Or.inr h.base)).below (Nat.le_refl _) fun _ _ h => h), h.base, h.free, hR⟩
 ·subst hb
  exact ⟨h.base, h.free⟩
 ·subst e
  exact z2n h.town.row h.at_ (by decide) hb
end
theorem k1b (inn : Nat → Nat → Bool) (t : Nat) : (tws inn t).length ≤ t := by
 unfold tws
 rw [List.length_map]
 exact Nat.le_trans (List.length_filter_le _ _) (by simp)
theorem q5b {S : Nat → Prop} {w : World} {v : Value} {l : List Int} {g c : Nat} (hr : Row S w 3 1 v l.length (l.map inC)) (hv : v = .slice (some ⟨g, 0, none⟩) l.length c) {k : Nat} {x : Int} (hx : l[k]? = some x) : g < w.heap.size ∧ w.cell? ⟨g, k * 1, none⟩ = some (.int .i64 x) := by
 obtain ⟨p, cap, e, hc⟩ := Row.form hr
 rw [hv] at e
 injection e with e1 e2 e3
 obtain ⟨g', cur, e4, hg, ht⟩ := hc k (List.getElem?_eq_some_iff.1 hx).1
 rw [← e1] at e4
 injection e4 with e4
 injection e4 with e4
 subst e4
 refine ⟨(Array.getElem?_eq_some_iff.1 hg).1, Row.cell hg ht (j := k * 1) ?_⟩
 rw [Nat.mul_one, List.getElem?_map, hx]
 rfl
def To (i a b : Nat) : Prop := a = b ∨ (b = 0 ∧ a < i)
theorem To.self (i a : Nat) : To i a a := Or.inl rfl
def GAt (K : List UInt8) (od : Int → List UInt8) (N : Nat) (w0 : World) (lv : Value) (ib : Nat) (inn : Nat → Nat → Bool) (K0 : List St) (n : Nat) (P : Int × Int → Int × Int) (ow : Int → Int) (D : Nat → Nat → Prop) (w : World) : Prop := ∃ O ps, FAt K od N w0 lv ib inn w O ps n P ow ∧ z4v K0 D (ps.map Prod.snd)
def fo1 (sd : List UInt8) (sv : Value) (gb gc ib i : Nat) (f : Nat → Value) : Act := { tmps := #[str sd, sv, f 2, f 3, .bool false, .slice (some ⟨gb, 0, none⟩) 4 gc, f 6, .pointer (some ⟨ib, 0, none⟩), .int .i64 (i : Int), f 9, f 10, f 11, f 12, f 13, f 14, f 15, f 16, f 17, f 18, f 19, f 20, f 21, f 22, f 23, f 24, f 25, f 26, f 27, f 28, f 29, f 30, f 31, f 32, f 33, f 34, f 35, f 36, f 37, f 38, f 39, f 40, f 41, f 42, f 43, f 44, f 45, f 46, f 47, f 48, f 49, f 50, f 51, f 52, f 53, f 54, f 55, f 56, f 57, f 58, f 59, f 60, f 61, f 62, f 63, f 64, f 65, f 66, f 67, f 68, f 69, f 70, f 71, f 72, f 73, f 74, f 75, f 76, f 77, f 78, f 79, f 80, f 81, f 82, f 83, f 84, f 85, f 86, f 87, f 88, f 89, f 90, f 91, f 92, f 93, f 94, f 95, f 96, f 97, f 98, f 99, f 100, f 101, f 102, f 103, f 104, f 105, f 106, f 107, f 108, f 109, f 110, f 111, f 112, f 113, f 114, f 115, f 116, f 117, f 118, f 119, f 120, f 121, f 122, f 123, f 124, f 125, f 126, f 127, f 128, f 129, f 130, f 131, f 132, f 133, f 134, f 135, f 136, f 137, f 138, f 139, f 140, f 141, f 142, f 143, f 144, f 145, f 146, f 147, f 148, f 149, f 150, f 151, f 152, f 153, f 154, f 155, f 156, f 157, f 158, f 159, f 160, f 161, f 162, f 163, f 164, f 165, f 166, f 167, f 168, f 169, f 170, f 171, f 172, f 173, f 174, f 175, f 176, f 177, f 178, f 179, f 180], defers := [] }
def fo0 (sd : List UInt8) (sv : Value) (gb gc ib : Nat) (f : Nat → Value) : Act := { tmps := #[str sd, sv, f 2, f 3, .bool false, .slice (some ⟨gb, 0, none⟩) 4 gc, f 6, .pointer (some ⟨ib, 0, none⟩), f 8, f 9, f 10, f 11, f 12, f 13, f 14, f 15, f 16, f 17, f 18, f 19, f 20, f 21, f 22, f 23, f 24, f 25, f 26, f 27, f 28, f 29, f 30, f 31, f 32, f 33, f 34, f 35, f 36, f 37, f 38, f 39, f 40, f 41, f 42, f 43, f 44, f 45, f 46, f 47, f 48, f 49, f 50, f 51, f 52, f 53, f 54, f 55, f 56, f 57, f 58, f 59, f 60, f 61, f 62, f 63, f 64, f 65, f 66, f 67, f 68, f 69, f 70, f 71, f 72, f 73, f 74, f 75, f 76, f 77, f 78, f 79, f 80, f 81, f 82, f 83, f 84, f 85, f 86, f 87, f 88, f 89, f 90, f 91, f 92, f 93, f 94, f 95, f 96, f 97, f 98, f 99, f 100, f 101, f 102, f 103, f 104, f 105, f 106, f 107, f 108, f 109, f 110, f 111, f 112, f 113, f 114, f 115, f 116, f 117, f 118, f 119, f 120, f 121, f 122, f 123, f 124, f 125, f 126, f 127, f 128, f 129, f 130, f 131, f 132, f 133, f 134, f 135, f 136, f 137, f 138, f 139, f 140, f 141, f 142, f 143, f 144, f 145, f 146, f 147, f 148, f 149, f 150, f 151, f 152, f 153, f 154, f 155, f 156, f 157, f 158, f 159, f 160, f 161, f 162, f 163, f 164, f 165, f 166, f 167, f 168, f 169, f 170, f 171, f 172, f 173, f 174, f 175, f 176, f 177, f 178, f 179, f 180], defers := [] }
def fo2 (sd : List UInt8) (sv : Value) (gb gc ib i : Nat) (f : Nat → Value) : Act := { tmps := #[str sd, sv, f 2, f 3, .bool false, .slice (some ⟨gb, 0, none⟩) 4 gc, f 6, .pointer (some ⟨ib, 0, none⟩), f 8, f 9, f 10, f 11, .int .i64 (i : Int), f 13, f 14, f 15, f 16, f 17, f 18, f 19, f 20, f 21, f 22, f 23, f 24, f 25, f 26, f 27, f 28, f 29, f 30, f 31, f 32, f 33, f 34, f 35, f 36, f 37, f 38, f 39, f 40, f 41, f 42, f 43, f 44, f 45, f 46, f 47, f 48, f 49, f 50, f 51, f 52, f 53, f 54, f 55, f 56, f 57, f 58, f 59, f 60, f 61, f 62, f 63, f 64, f 65, f 66, f 67, f 68, f 69, f 70, f 71, f 72, f 73, f 74, f 75, f 76, f 77, f 78, f 79, f 80, f 81, f 82, f 83, f 84, f 85, f 86, f 87, f 88, f 89, f 90, f 91, f 92, f 93, f 94, f 95, f 96, f 97, f 98, f 99, f 100, f 101, f 102, f 103, f 104, f 105, f 106, f 107, f 108, f 109, f 110, f 111, f 112, f 113, f 114, f 115, f 116, f 117, f 118, f 119, f 120, f 121, f 122, f 123, f 124, f 125, f 126, f 127, f 128, f 129, f 130, f 131, f 132, f 133, f 134, f 135, f 136, f 137, f 138, f 139, f 140, f 141, f 142, f 143, f 144, f 145, f 146, f 147, f 148, f 149, f 150, f 151, f 152, f 153, f 154, f 155, f 156, f 157, f 158, f 159, f 160, f 161, f 162, f 163, f 164, f 165, f 166, f 167, f 168, f 169, f 170, f 171, f 172, f 173, f 174, f 175, f 176, f 177, f 178, f 179, f 180], defers := [] }
def fo3 (sd : List UInt8) (sv : Value) (gb gc ib : Nat) (av : Value) (at_ t : Nat) (f : Nat → Value) : Act := { tmps := #[str sd, sv, f 2, f 3, .bool false, .slice (some ⟨gb, 0, none⟩) 4 gc, f 6, .pointer (some ⟨ib, 0, none⟩), f 8, f 9, f 10, f 11, f 12, f 13, av, .int .i64 (at_ : Int), .int .i64 (t : Int), f 17, f 18, f 19, f 20, f 21, f 22, f 23, f 24, f 25, f 26, f 27, f 28, f 29, f 30, f 31, f 32, f 33, f 34, f 35, f 36, f 37, f 38, f 39, f 40, f 41, f 42, f 43, f 44, f 45, f 46, f 47, f 48, f 49, f 50, f 51, f 52, f 53, f 54, f 55, f 56, f 57, f 58, f 59, f 60, f 61, f 62, f 63, f 64, f 65, f 66, f 67, f 68, f 69, f 70, f 71, f 72, f 73, f 74, f 75, f 76, f 77, f 78, f 79, f 80, f 81, f 82, f 83, f 84, f 85, f 86, f 87, f 88, f 89, f 90, f 91, f 92, f 93, f 94, f 95, f 96, f 97, f 98, f 99, f 100, f 101, f 102, f 103, f 104, f 105, f 106, f 107, f 108, f 109, f 110, f 111, f 112, f 113, f 114, f 115, f 116, f 117, f 118, f 119, f 120, f 121, f 122, f 123, f 124, f 125, f 126, f 127, f 128, f 129, f 130, f 131, f 132, f 133, f 134, f 135, f 136, f 137, f 138, f 139, f 140, f 141, f 142, f 143, f 144, f 145, f 146, f 147, f 148, f 149, f 150, f 151, f 152, f 153, f 154, f 155, f 156, f 157, f 158, f 159, f 160, f 161, f 162, f 163, f 164, f 165, f 166, f 167, f 168, f 169, f 170, f 171, f 172, f 173, f 174, f 175, f 176, f 177, f 178, f 179, f 180], defers := [] }
def fo4 (sd : List UInt8) (sv : Value) (gb gc ib : Nat) (av : Value) (at_ t : Nat) (wv : Value) (g : Nat) (f : Nat → Value) : Act := { tmps := #[str sd, sv, f 2, f 3, .bool false, .slice (some ⟨gb, 0, none⟩) 4 gc, f 6, .pointer (some ⟨ib, 0, none⟩), f 8, f 9, f 10, f 11, f 12, f 13, av, .int .i64 (at_ : Int), .int .i64 (t : Int), wv, .int .i64 (g : Int), f 19, f 20, f 21, f 22, f 23, f 24, f 25, f 26, f 27, f 28, f 29, f 30, f 31, f 32, f 33, f 34, f 35, f 36, f 37, f 38, f 39, f 40, f 41, f 42, f 43, f 44, f 45, f 46, f 47, f 48, f 49, f 50, f 51, f 52, f 53, f 54, f 55, f 56, f 57, f 58, f 59, f 60, f 61, f 62, f 63, f 64, f 65, f 66, f 67, f 68, f 69, f 70, f 71, f 72, f 73, f 74, f 75, f 76, f 77, f 78, f 79, f 80, f 81, f 82, f 83, f 84, f 85, f 86, f 87, f 88, f 89, f 90, f 91, f 92, f 93, f 94, f 95, f 96, f 97, f 98, f 99, f 100, f 101, f 102, f 103, f 104, f 105, f 106, f 107, f 108, f 109, f 110, f 111, f 112, f 113, f 114, f 115, f 116, f 117, f 118, f 119, f 120, f 121, f 122, f 123, f 124, f 125, f 126, f 127, f 128, f 129, f 130, f 131, f 132, f 133, f 134, f 135, f 136, f 137, f 138, f 139, f 140, f 141, f 142, f 143, f 144, f 145, f 146, f 147, f 148, f 149, f 150, f 151, f 152, f 153, f 154, f 155, f 156, f 157, f 158, f 159, f 160, f 161, f 162, f 163, f 164, f 165, f 166, f 167, f 168, f 169, f 170, f 171, f 172, f 173, f 174, f 175, f 176, f 177, f 178, f 179, f 180], defers := [] }
def fo5 (sd : List UInt8) (sv : Value) (gb gc ib : Nat) (av : Value) (at_ t : Nat) (wv : Value) (k : Nat) (f : Nat → Value) : Act := { tmps := #[str sd, sv, f 2, f 3, .bool false, .slice (some ⟨gb, 0, none⟩) 4 gc, f 6, .pointer (some ⟨ib, 0, none⟩), f 8, f 9, f 10, f 11, f 12, f 13, av, .int .i64 (at_ : Int), .int .i64 (t : Int), wv, f 18, .int .i64 (k : Int), f 20, f 21, f 22, f 23, f 24, f 25, f 26, f 27, f 28, f 29, f 30, f 31, f 32, f 33, f 34, f 35, f 36, f 37, f 38, f 39, f 40, f 41, f 42, f 43, f 44, f 45, f 46, f 47, f 48, f 49, f 50, f 51, f 52, f 53, f 54, f 55, f 56, f 57, f 58, f 59, f 60, f 61, f 62, f 63, f 64, f 65, f 66, f 67, f 68, f 69, f 70, f 71, f 72, f 73, f 74, f 75, f 76, f 77, f 78, f 79, f 80, f 81, f 82, f 83, f 84, f 85, f 86, f 87, f 88, f 89, f 90, f 91, f 92, f 93, f 94, f 95, f 96, f 97, f 98, f 99, f 100, f 101, f 102, f 103, f 104, f 105, f 106, f 107, f 108, f 109, f 110, f 111, f 112, f 113, f 114, f 115, f 116, f 117, f 118, f 119, f 120, f 121, f 122, f 123, f 124, f 125, f 126, f 127, f 128, f 129, f 130, f 131, f 132, f 133, f 134, f 135, f 136, f 137, f 138, f 139, f 140, f 141, f 142, f 143, f 144, f 145, f 146, f 147, f 148, f 149, f 150, f 151, f 152, f 153, f 154, f 155, f 156, f 157, f 158, f 159, f 160, f 161, f 162, f 163, f 164, f 165, f 166, f 167, f 168, f 169, f 170, f 171, f 172, f 173, f 174, f 175, f 176, f 177, f 178, f 179, f 180], defers := [] }
set_option maxRecDepth 10000 in
set_option maxHeartbeats 2000000 in
theorem q7k (sd : List UInt8) (a0 : Option Addr) (cap : Nat) (os : List S4) (w : World) (ht : Hs.z0j w) (hS : ∀ w', Below w.heap.size w w' → ∀ O, (∀ b i, O b i → w.heap.size ≤ b) → k9d O w' a0 os) (hl : os.length ≤ 1000000000000) : Calls Tryz.prog 8 #[str sd, .slice a0 os.length cap] w fun e w' => e = .returned (.bool true) ∧ Below w.heap.size w w' := by
 go_enter Tryz.func8, Tryz.ntmps8
 refine wp_seq ?_
 refine Ks.reg ?_
 refine Ks.v (.bool false) ?_
 simp only [zD]
 refine Ks.done ?_
 refine wp_seq ?_
 refine Ks.reg ?_
 refine Ks.v (str sd) ?_
 simp only [zD]
 refine Ks.call rfl 24 #[str sd] (by kernel_rfl) (k5v sd w ht) ?_
 rintro _ w1 ⟨⟨lv, ps, O, rfl, hps, hT, hrow⟩, hb1⟩
 have hTown : z1k (z7h (z1u sd)) noF (q9c (z1u sd)) q2l w.heap.size w1 lv O ps 0 (fun _ => (0, 0)) (fun _ => 0) := z1k.start hT hps hrow
 have hHad : ∀ (g : Nat) p, ps[g]? = some p → Had (fun _ => false) p.2 := fun g p hp => by
  have h1 : p.2 ∈ news (z7h (z1u sd)) 4 := by rw [← hps]; exact List.mem_map.2 ⟨p, List.mem_of_getElem? hp, rfl⟩
  obtain ⟨j, _, e⟩ := List.mem_map.1 h1
  rw [← e]
  exact Had.new _ _
 have hTk : ∀ t : Nat, t < 6 → k1f z0q (z7h (z1u sd)) (tick (z1u sd) (t / 2 * 10) t 1) ∧ (z0f (tick (z1u sd) (t / 2 * 10) t 1), z0n (tick (z1u sd) (t / 2 * 10) t 1)) = pas t := fun t ht => by
  refine ⟨x9a _ _ _ _, ?_⟩
  rw [x4a _ (by omega), y9h _ (by omega)]
  rfl
 have hTf : ∀ (t : Nat) (w : World), t < 6 → Hs.z0j w → Calls Tryz.prog 32 #[str sd, .int .i64 (t : Int)] w fun e w' => e = .returned (str (tick (z1u sd) (t / 2 * 10) t 1)) ∧ Below w.heap.size w w' := fun t w ht hw => by
  have := q4i sd (t : Int) ⟨by omega, by omega⟩ w hw
  rw [q2v ht] at this
  refine this.mono fun e w' hx => ?_
  obtain ⟨v, rfl, rfl, hb⟩ := hx
  exact ⟨rfl, hb⟩
 generalize hk : z7h (z1u sd) = K at *
 have hO := x7l (z1u sd)
 rw [hk] at hO
 generalize q9c (z1u sd) = od at *
 generalize hti : (fun t : Nat => tick (z1u sd) (t / 2 * 10) t 1) = ti at *
 have hti2 : ∀ t : Nat, tick (z1u sd) (t / 2 * 10) t 1 = ti t := fun t => by rw [← hti]
 simp only [hti2] at hTk hTf
 clear hti hti2
 obtain ⟨gb, gc, rfl⟩ := hTown.list
 simp only [zD]
 refine Ks.v (.tuple #[.slice (some ⟨gb, 0, none⟩) 4 gc, .bool true]) ?_
 simp only [zD]
 refine Ks.v (.slice (some ⟨gb, 0, none⟩) 4 gc) ?_
 simp only [zD]
 refine Ks.v (.bool true) ?_
 simp only [zD]
 refine Ks.v (.slice (some ⟨gb, 0, none⟩) 4 gc) ?_
 simp only [zD]
 refine Ks.v (.bool true) ?_
 simp only [zD]
 refine Ks.done ?_
 refine wp_seq ?_
 refine wp_seq ?_
 refine Ks.reg ?_
 refine Ks.v (.bool true) ?_
 simp only [zD]
 refine Ks.v (.bool false) ?_
 simp only [zD]
 refine Ks.done ?_
 refine wp_cond_false rfl ?_
 refine wp_skip ?_
 refine Ks.norm ?_
 refine wp_seq ?_
 refine Ks.reg ?_
 refine Ks.alloc rfl _ rfl (.agg (Own.z0g 24 fun _ => .bool false)) (by kernel_rfl) (x2x fun _ _ => false) rfl ?_
 intro w2 ib Hib HX2 HB2 HS2
 have hF2 : FAt K od w.heap.size w (.slice (some ⟨gb, 0, none⟩) 4 gc) ib (fun _ _ => false) w2 O ps 0 (fun _ => (0, 0)) (fun _ => 0) :=
  ⟨hTown.below HB2.out, hb1.trans (HB2.out.mono hb1.size), by rw [Hib.out]; exact hb1.size, fun i hi => by have := (hTown.tin.lt ib i hi).2; rw [Hib.out] at this; omega, HX2.out⟩
 clear hTown hT hrow hps hb1 Hib HX2 HB2 HS2
 simp only [zD]
 refine Ks.done ?_
 refine Ks.cut (fun a' w' => ∃ (n : Nat) (O' : Nat → Nat → Prop) (ps' : List (Nat × St)) (P' : Int × Int → Int × Int) (ow' : Int → Int) (inn : Nat → Nat → Bool) (f : Nat → Value), FAt K od w.heap.size w (.slice (some ⟨gb, 0, none⟩) 4 gc) ib inn w' O' ps' n P' ow' ∧ (∀ (g : Nat) p, ps'[g]? = some p → Had (fun t => inn t g) p.2) ∧ a' = fo0 sd (.slice a0 os.length cap) gb gc ib f) ?_ ?_
 ·refine wp_seq ?_
  refine Ks.reg ?_
  refine Ks.v (.int .i64 0) ?_
  simp only [zD]
  refine Ks.done ?_
  refine wp_block ?_
  have start : ∀ a' : Act, a' = fo1 sd (.slice a0 os.length cap) gb gc ib 0 (fun j => a'.tmps.getD j undef) → ∃ (i : Nat) (O' : Nat → Nat → Prop) (ps' : List (Nat × St)) (P' : Int × Int → Int × Int) (ow' : Int → Int) (inn : Nat → Nat → Bool) (f : Nat → Value), i ≤ 200 ∧ i ≤ os.length ∧ 200 = 200 - i ∧ FAt K od w.heap.size w (.slice (some ⟨gb, 0, none⟩) 4 gc) ib inn w2 O' ps' i P' ow' ∧ (∀ (g : Nat) p, ps'[g]? = some p → Had (fun t => inn t g) p.2) ∧ a' = fo1 sd (.slice a0 os.length cap) gb gc ib i f := fun a' e => ⟨0, O, ps, _, _, _, _, by omega, by omega, rfl, hF2, hHad, e⟩
  refine Ks.loop (fun q a wr => ∃ (i : Nat) (O' : Nat → Nat → Prop) (ps' : List (Nat × St)) (P' : Int × Int → Int × Int) (ow' : Int → Int) (inn : Nat → Nat → Bool) (f : Nat → Value), i ≤ 200 ∧ i ≤ os.length ∧ q = 200 - i ∧ FAt K od w.heap.size w (.slice (some ⟨gb, 0, none⟩) 4 gc) ib inn wr O' ps' i P' ow' ∧ (∀ (g : Nat) p, ps'[g]? = some p → Had (fun t => inn t g) p.2) ∧ a = fo1 sd (.slice a0 os.length cap) gb gc ib i f) 200 (start _ rfl) ?_
  clear start hF2 hHad
  rintro q a wr ⟨i, O, ps, P, ow, inn, f, hi, hil, rfl, hF, hHad, rfl⟩
  have fin : ∀ (a' : Act) (w' : World) (i' : Nat) (O' : Nat → Nat → Prop) (ps' : List (Nat × St)) (P' : Int × Int → Int × Int) (ow' : Int → Int) (inn : Nat → Nat → Bool), i < i' → i' ≤ 200 → i' ≤ os.length → FAt K od w.heap.size w (.slice (some ⟨gb, 0, none⟩) 4 gc) ib inn w' O' ps' i' P' ow' → (∀ (g : Nat) p, ps'[g]? = some p → Had (fun t => inn t g) p.2) → a' = fo1 sd (.slice a0 os.length cap) gb gc ib i' (fun j => a'.tmps.getD j undef) → ∃ q, q < 200 - i ∧ ∃ (i : Nat) (O' : Nat → Nat → Prop) (ps' : List (Nat × St)) (P' : Int × Int → Int × Int) (ow' : Int → Int) (inn : Nat → Nat → Bool) (f : Nat → Value), i ≤ 200 ∧ i ≤ os.length ∧ q = 200 - i ∧ FAt K od w.heap.size w (.slice (some ⟨gb, 0, none⟩) 4 gc) ib inn w' O' ps' i P' ow' ∧ (∀ (g : Nat) p, ps'[g]? = some p → Had (fun t => inn t g) p.2) ∧ a' = fo1 sd (.slice a0 os.length cap) gb gc ib i f := fun a' w' i' O' ps' P' ow' inn q1 q2 q3 q4 q5 q6 => ⟨200 - i', by omega, i', O', ps', P', ow', inn, _, q2, q3, rfl, q4, q5, q6⟩
  obtain ⟨go, hgo⟩ : ∃ go : Bool, go = true ↔ i < os.length ∧ i < 200 := by
   by_cases hc : i < os.length ∧ i < 200
   ·exact ⟨true, by simp [hc]⟩
   ·exact ⟨false, by simp [hc]⟩
  unfold fo1
  refine wp_seq ?_
  refine Ks.cut (fun a' w' => w' = wr ∧ ∃ f : Nat → Value, f 34 = .bool go ∧ a' = fo1 sd (.slice a0 os.length cap) gb gc ib i f) ?_ ?_
  ·have fin4 : ∀ a' : Act, a'.tmps.getD 34 undef = .bool go → a' = fo1 sd (.slice a0 os.length cap) gb gc ib i (fun j => a'.tmps.getD j undef) → wr = wr ∧ ∃ f : Nat → Value, f 34 = .bool go ∧ a' = fo1 sd (.slice a0 os.length cap) gb gc ib i f := fun a' h1 h2 => ⟨rfl, _, h1, h2⟩
   refine Ks.reg ?_
   refine Ks.v (.int .i64 (i : Int)) ?_
   simp only [zD]
   refine Ks.v (.slice a0 os.length cap) ?_
   simp only [zD]
   refine Ks.v (.int .i64 (os.length : Int)) ?_
   simp only [zD]
   refine Ks.v (.bool (decide ((i : Int) < os.length))) ?_
   simp only [zD]
   refine Ks.v (.bool (decide ((i : Int) < os.length))) ?_
   simp only [zD]
   by_cases hlt : i < os.length
   ·rw [decide_eq_true (by omega : (i : Int) < os.length)]
    have e : go = decide ((i : Int) < 200) := by
     rw [Bool.eq_iff_iff, hgo, decide_eq_true_eq]
     omega
    refine Ks.g (.int .i64 (i : Int)) ?_
    simp only [zD]
    refine Ks.g (.bool (decide ((i : Int) < 200))) ?_
    simp only [zD]
    rw [← e]
    refine Ks.v (.bool go) ?_
    simp only [zD]
    refine Ks.done ?_
    exact fin4 _ rfl rfl
   ·rw [decide_eq_false (by omega : ¬ (i : Int) < os.length)]
    have e : go = false := by
     cases go
     ·rfl
     ·exact absurd (hgo.1 rfl).1 hlt
    with_reducible refine Ks.n ?_
    simp only [zD]
    with_reducible refine Ks.n ?_
    simp only [zD]
    refine Ks.v (.bool false) ?_
    simp only [zD]
    refine Ks.done ?_
    exact fin4 _ (by rw [e]; rfl) rfl
  rintro a' w' ⟨rfl, f', e34, rfl⟩
  unfold fo1
  rw [e34]
  cases go with
  | false =>
   have finX : ∀ a' : Act, a' = fo0 sd (.slice a0 os.length cap) gb gc ib (fun j => a'.tmps.getD j undef) → ∃ (n : Nat) (O' : Nat → Nat → Prop) (ps' : List (Nat × St)) (P' : Int × Int → Int × Int) (ow' : Int → Int) (inn : Nat → Nat → Bool) (f : Nat → Value), FAt K od w.heap.size w (.slice (some ⟨gb, 0, none⟩) 4 gc) ib inn w' O' ps' n P' ow' ∧ (∀ (g : Nat) p, ps'[g]? = some p → Had (fun t => inn t g) p.2) ∧ a' = fo0 sd (.slice a0 os.length cap) gb gc ib f := fun a' e => ⟨i, O, ps, P, ow, inn, _, hF, hHad, e⟩
   refine wp_cond_false rfl ?_
   refine wp_exit ?_
   refine Ks.z3q ?_
   exact finX _ rfl
  | true =>
   obtain ⟨hlt, hlt2⟩ := hgo.1 rfl
   obtain ⟨o, ho⟩ : ∃ o, os[i]? = some o := ⟨_, List.getElem?_eq_getElem hlt⟩
   have hS' := hS w' hF.low O fun b i hO => (hF.town.tin.lt b i hO).1
   have hoI := hS'.all o (List.mem_of_getElem? ho)
   obtain ⟨sb, so, rfl, hsb, hfree, hrng⟩ : ∃ sb so, a0 = some ⟨sb, so, none⟩ ∧ sb < w'.heap.size ∧ y7f O sb ∧ ∀ (i : Nat) (o : S4), os[i]? = some o → w'.rangeAt sb (so + i * 4) (s4C o) := by
    rcases hS'.at_ with e | e
    ·rw [e] at hlt; exact absurd hlt (Nat.not_lt_zero _)
    ·exact e
   have hr := hrng i o ho
   clear hrng hS'
   refine wp_cond_true rfl ?_
   refine wp_skip ?_
   refine Ks.norm ?_
   refine Ks.cut (fun a' w' => ∃ (O' : Nat → Nat → Prop) (ps' : List (Nat × St)) (P' : Int × Int → Int × Int) (ow' : Int → Int) (inn : Nat → Nat → Bool) (f : Nat → Value), FAt K od w.heap.size w (.slice (some ⟨gb, 0, none⟩) 4 gc) ib inn w' O' ps' (i + 1) P' ow' ∧ (∀ (g : Nat) p, ps'[g]? = some p → Had (fun t => inn t g) p.2) ∧ a' = fo1 sd (.slice (some ⟨sb, so, none⟩) os.length cap) gb gc ib i f) ?_ ?_
   ·have finM : ∀ (a' : Act) (w' : World) (O' : Nat → Nat → Prop) (ps' : List (Nat × St)) (P' : Int × Int → Int × Int) (ow' : Int → Int) (inn : Nat → Nat → Bool), FAt K od w.heap.size w (.slice (some ⟨gb, 0, none⟩) 4 gc) ib inn w' O' ps' (i + 1) P' ow' → (∀ (g : Nat) p, ps'[g]? = some p → Had (fun t => inn t g) p.2) → a' = fo1 sd (.slice (some ⟨sb, so, none⟩) os.length cap) gb gc ib i (fun j => a'.tmps.getD j undef) → ∃ (O' : Nat → Nat → Prop) (ps' : List (Nat × St)) (P' : Int × Int → Int × Int) (ow' : Int → Int) (inn : Nat → Nat → Bool) (f : Nat → Value), FAt K od w.heap.size w (.slice (some ⟨gb, 0, none⟩) 4 gc) ib inn w' O' ps' (i + 1) P' ow' ∧ (∀ (g : Nat) p, ps'[g]? = some p → Had (fun t => inn t g) p.2) ∧ a' = fo1 sd (.slice (some ⟨sb, so, none⟩) os.length cap) gb gc ib i f := fun a' w' O' ps' P' ow' inn q1 q2 q3 => ⟨O', ps', P', ow', inn, _, q1, q2, q3⟩
    refine wp_block ?_
    refine wp_seq ?_
    refine Ks.reg ?_
    refine Ks.v (.slice (some ⟨sb, so, none⟩) os.length cap) ?_
    simp only [zD]
    refine Ks.v (.int .i64 (i : Int)) ?_
    simp only [zD]
    refine Ks.q5a (by kernel_rfl) _ _ _ rfl 81 4 Tryz.underlying56 (by kernel_rfl) (by kernel_rfl) sb so os.length cap i rfl rfl hlt ?_
    simp only [zD]
    refine Ks.v (.pointer (some ⟨sb, so + i * 4 + 0, none⟩)) ?_
    simp only [zD]
    refine Ks.cell rfl _ _ rfl Tryz.underlying3 rfl sb (so + i * 4 + 0) (.int .i64 o.gate) rfl (hr 0 _ rfl) ?_
    simp only [zD]
    refine Ks.call rfl 30 #[.int .i64 o.gate, .int .i64 (4 : Nat)] (by kernel_rfl) (x7r o.gate hoI.gate 4 (by decide) (by decide) w') ?_
    rintro _ w' ⟨rfl, rfl⟩
    have hgi := q9g o.gate (n := 4) (by decide)
    generalize pk o.gate 4 = gi at hgi
    simp only [zD]
    refine Ks.v (.int .i64 (gi : Int)) ?_
    simp only [zD]
    refine Ks.done ?_
    refine wp_seq ?_
    refine Ks.reg ?_
    refine Ks.v (.slice (some ⟨sb, so, none⟩) os.length cap) ?_
    simp only [zD]
    refine Ks.v (.int .i64 (i : Int)) ?_
    simp only [zD]
    refine Ks.q5a (by kernel_rfl) _ _ _ rfl 81 4 Tryz.underlying56 (by kernel_rfl) (by kernel_rfl) sb so os.length cap i rfl rfl hlt ?_
    simp only [zD]
    refine Ks.v (.pointer (some ⟨sb, so + i * 4 + 2, none⟩)) ?_
    simp only [zD]
    refine Ks.cell rfl _ _ rfl Tryz.underlying3 rfl sb (so + i * 4 + 2) (.int .i64 o.ticket) rfl (hr 2 _ rfl) ?_
    simp only [zD]
    refine Ks.call rfl 30 #[.int .i64 o.ticket, .int .i64 (6 : Nat)] (by kernel_rfl) (x7r o.ticket hoI.ticket 6 (by decide) (by decide) w') ?_
    rintro _ w' ⟨rfl, rfl⟩
    have htt := q9g o.ticket (n := 6) (by decide)
    generalize pk o.ticket 6 = t at htt
    simp only [zD]
    refine Ks.v (.int .i64 (t : Int)) ?_
    simp only [zD]
    refine Ks.done ?_
    have hpl : ps.length = 4 := hF.town.len
    obtain ⟨p, hp⟩ : ∃ p, ps[gi]? = some p := ⟨_, List.getElem?_eq_getElem (by omega)⟩
    obtain ⟨hgl, z3b⟩ := hF.town.cell
    refine wp_seq ?_
    refine Qg.z0r 7 (by kernel_rfl) (by kernel_rfl) ?_
    simp only [List.take_succ_cons, List.take_zero, List.drop_succ_cons, List.drop_zero]
    refine Qg.val (by kernel_rfl) (.slice (some ⟨gb, 0, none⟩) 4 gc) (fun _ _ => by kernel_rfl) ?_
    simp only [zD]
    refine Qg.val (by kernel_rfl) (.int .i64 (gi : Int)) (fun _ _ => by kernel_rfl) ?_
    simp only [zD]
    refine Qg.idx (by kernel_rfl) _ _ _ rfl 62 1 Tryz.underlying57 (by kernel_rfl) (by kernel_rfl) gb 4 gc gi rfl rfl hgi ?_
    simp only [zD]
    refine Qg.cell (by kernel_rfl) _ _ rfl Tryz.underlying62 rfl gb (gi * 1) (.pointer (some ⟨p.1, 0, none⟩)) rfl hgl (z3b gi p hgi hp) ?_
    simp only [zD]
    refine Qg.val (by kernel_rfl) (str sd) (fun _ _ => by kernel_rfl) ?_
    simp only [zD]
    refine Qg.val (by kernel_rfl) (.int .i64 (t : Int)) (fun _ _ => by kernel_rfl) ?_
    simp only [zD]
    obtain ⟨hTt, hTp⟩ := hTk t htt
    have hTf2 := fun w hw => hTf t w htt hw
    generalize ti t = T at hTt hTp hTf2
    refine Qg.call (by kernel_rfl) 32 #[str sd, .int .i64 (t : Int)] (str T) (fun _ => by kernel_rfl) (fun w' hb => hTf2 w' (hF.below hb).town.tin.tab) ?_
    simp only [zD]
    refine wpQuiet_nil ?_
    intro w4 hb4
    have hF4 := hF.below hb4
    obtain ⟨hP4, hG4, hs4⟩ := hF4.town.at_ hp
    refine Ks.call rfl 31 #[.pointer (some ⟨p.1, 0, none⟩), str T] (by kernel_rfl) (R := fun v w' => v = .int .i64 (y7d p.2 T).1 ∧ z0i (fun b => O b gi ∨ w4.heap.size ≤ b) w' p.1 (y7d p.2 T).2 ∧ Fr (fun b => O b gi) w4.heap.size w4 w') ((q6k hP4 hG4.town.inv T hF4.town.tin.tab).mono fun e w' hx => ⟨_, hx.1, rfl, hx.2⟩) ?_
    rintro _ w5 ⟨rfl, hP5, hF5⟩
    obtain ⟨_, O5, P5, ow5, hT5, hK5, _⟩ := hF4.town.y2a x2e hgi hp (by omega) hTt hF5 hP5
    have hown : p.2.own < 1000 := by
     have := hF4.town.gts.few p.2.number
     rw [← hG4.town.own] at this
     omega
    obtain ⟨hc, hH5⟩ := (hHad gi p hp).y2a htt (by rw [hG4.key]; exact hTt) hTp hown
    have hHad5 : ∀ (g : Nat) q, (ps.set gi (p.1, (y7d p.2 T).2))[g]? = some q → Had (fun u => mark inn t gi u g) q.2 := fun g q hq => by
     rw [List.getElem?_set] at hq
     split at hq
     ·rename_i e
      subst e
      split at hq
      ·cases hq
       have e2 : (fun u => mark inn t gi u gi) = fun u => inn u gi || decide (u = t) := by
        funext u
        unfold mark
        simp
       rw [e2]
       exact hH5
      ·cases hq
     ·rename_i e
      have e2 : (fun u => mark inn t gi u g) = fun u => inn u g := by
       funext u
       unfold mark
       have : ¬ (u = t ∧ g = gi) := fun h => e h.2.symm
       simp [this]
      rw [e2]
      exact hHad g q hq
    have hFF := hF4.goes hT5 hK5
    have hc : (y7d p.2 T).1 = if inn t gi = true then 7 else 0 := hc
    rw [hc]
    clear hc hH5 hown hT5 hK5 hF5 hP5 hF4 hP4 hG4 hs4 hF hHad hb4 hTt hTp hTf2 z3b hgl hr
    generalize ps.set gi (p.1, (y7d p.2 T).2) = ps5 at *
    obtain ⟨c, hc⟩ : ∃ c : Bool, inn t gi = c := ⟨_, rfl⟩
    rw [hc]
    have hat : w5.cell? ⟨ib, 0 + t * 4 + gi * 1, none⟩ = some (.bool c) := by rw [x6e hFF.at_ htt hgi, hc]
    simp only [zD]
    cases c with
    | true =>
     rw [if_pos rfl]
     refine Ks.v (.int .i64 7) ?_
     simp only [zD]
     refine Ks.done ?_
     refine wp_seq ?_
     refine wp_seq ?_
     refine Ks.reg ?_
     refine Ks.v (.int .i64 (t : Int)) ?_
     simp only [zD]
     refine Ks.v (.int .i64 (gi : Int)) ?_
     simp only [zD]
     refine Ks.x0i (by kernel_rfl) _ _ _ rfl 78 6 4 Tryz.underlying79 (by kernel_rfl) (by kernel_rfl) ib 0 t rfl rfl htt ?_
     simp only [zD]
     refine Ks.x0i (by kernel_rfl) _ _ _ rfl 4 4 1 Tryz.underlying78 (by kernel_rfl) (by kernel_rfl) ib (0 + t * 4) gi rfl rfl hgi ?_
     simp only [zD]
     refine Ks.cell rfl _ _ rfl Tryz.underlying4 rfl ib (0 + t * 4 + gi * 1) (.bool true) rfl hat ?_
     simp only [zD]
     refine Ks.v (.bool true) ?_
     simp only [zD]
     refine Ks.g (.int .i64 7) ?_
     simp only [zD]
     refine Ks.g (.bool false) ?_
     simp only [zD]
     refine Ks.v (.bool false) ?_
     simp only [zD]
     refine Ks.v (.bool false) ?_
     simp only [zD]
     refine Ks.g (.int .i64 (t : Int)) ?_
     simp only [zD]
     refine Ks.g (.int .i64 (gi : Int)) ?_
     simp only [zD]
     refine Ks.x0i (by kernel_rfl) _ _ _ rfl 78 6 4 Tryz.underlying79 (by kernel_rfl) (by kernel_rfl) ib 0 t rfl rfl htt ?_
     simp only [zD]
     refine Ks.x0i (by kernel_rfl) _ _ _ rfl 4 4 1 Tryz.underlying78 (by kernel_rfl) (by kernel_rfl) ib (0 + t * 4) gi rfl rfl hgi ?_
     simp only [zD]
     refine Ks.z5c (by kernel_rfl) _ _ rfl Tryz.underlying4 rfl ib (0 + t * 4 + gi * 1) (.bool true) rfl hat ?_
     simp only [zD]
     refine Ks.g (.bool false) ?_
     simp only [zD]
     refine Ks.g (.bool false) ?_
     simp only [zD]
     with_reducible refine Ks.n ?_
     simp only [zD]
     with_reducible refine Ks.n ?_
     simp only [zD]
     refine Ks.g (.bool false) ?_
     simp only [zD]
     refine Ks.v (.bool false) ?_
     simp only [zD]
     refine Ks.done ?_
     refine wp_cond_false rfl ?_
     refine wp_skip ?_
     refine Ks.norm ?_
     refine Ks.reg ?_
     refine Ks.v (.int .i64 (t : Int)) ?_
     simp only [zD]
     refine Ks.v (.int .i64 (gi : Int)) ?_
     simp only [zD]
     refine Ks.x0i (by kernel_rfl) _ _ _ rfl 78 6 4 Tryz.underlying79 (by kernel_rfl) (by kernel_rfl) ib 0 t rfl rfl htt ?_
     simp only [zD]
     refine Ks.x0i (by kernel_rfl) _ _ _ rfl 4 4 1 Tryz.underlying78 (by kernel_rfl) (by kernel_rfl) ib (0 + t * 4) gi rfl rfl hgi ?_
     simp only [zD]
     refine Ks.store rfl _ _ _ rfl ib (0 + t * 4 + gi * 1) (.bool true) rfl rfl hFF.at_ (by unfold x2x; rw [Own.z0o]; omega) (by kernel_rfl) rfl (x2x (mark inn t gi)) (x0j inn htt hgi) ?_
     intro w6 HR6 HF6 HO6 HS6
     have hF6 := hFF.marks HR6.out HF6.out
     simp only [Act.put]
     refine Ks.fin ?_
     refine Ks.inb ?_
     exact finM _ w6 _ _ _ _ _ hF6 hHad5 rfl
    | false =>
     rw [if_neg (by simp)]
     refine Ks.v (.int .i64 0) ?_
     simp only [zD]
     refine Ks.done ?_
     refine wp_seq ?_
     refine wp_seq ?_
     refine Ks.reg ?_
     refine Ks.v (.int .i64 (t : Int)) ?_
     simp only [zD]
     refine Ks.v (.int .i64 (gi : Int)) ?_
     simp only [zD]
     refine Ks.x0i (by kernel_rfl) _ _ _ rfl 78 6 4 Tryz.underlying79 (by kernel_rfl) (by kernel_rfl) ib 0 t rfl rfl htt ?_
     simp only [zD]
     refine Ks.x0i (by kernel_rfl) _ _ _ rfl 4 4 1 Tryz.underlying78 (by kernel_rfl) (by kernel_rfl) ib (0 + t * 4) gi rfl rfl hgi ?_
     simp only [zD]
     refine Ks.cell rfl _ _ rfl Tryz.underlying4 rfl ib (0 + t * 4 + gi * 1) (.bool false) rfl hat ?_
     simp only [zD]
     refine Ks.v (.bool false) ?_
     simp only [zD]
     with_reducible refine Ks.n ?_
     simp only [zD]
     with_reducible refine Ks.n ?_
     simp only [zD]
     refine Ks.v (.bool false) ?_
     simp only [zD]
     refine Ks.v (.bool false) ?_
     simp only [zD]
     refine Ks.g (.int .i64 (t : Int)) ?_
     simp only [zD]
     refine Ks.g (.int .i64 (gi : Int)) ?_
     simp only [zD]
     refine Ks.x0i (by kernel_rfl) _ _ _ rfl 78 6 4 Tryz.underlying79 (by kernel_rfl) (by kernel_rfl) ib 0 t rfl rfl htt ?_
     simp only [zD]
     refine Ks.x0i (by kernel_rfl) _ _ _ rfl 4 4 1 Tryz.underlying78 (by kernel_rfl) (by kernel_rfl) ib (0 + t * 4) gi rfl rfl hgi ?_
     simp only [zD]
     refine Ks.z5c (by kernel_rfl) _ _ rfl Tryz.underlying4 rfl ib (0 + t * 4 + gi * 1) (.bool false) rfl hat ?_
     simp only [zD]
     refine Ks.g (.bool true) ?_
     simp only [zD]
     refine Ks.g (.bool true) ?_
     simp only [zD]
     refine Ks.g (.int .i64 0) ?_
     simp only [zD]
     refine Ks.g (.bool false) ?_
     simp only [zD]
     refine Ks.g (.bool false) ?_
     simp only [zD]
     refine Ks.v (.bool false) ?_
     simp only [zD]
     refine Ks.done ?_
     refine wp_cond_false rfl ?_
     refine wp_skip ?_
     refine Ks.norm ?_
     refine Ks.reg ?_
     refine Ks.v (.int .i64 (t : Int)) ?_
     simp only [zD]
     refine Ks.v (.int .i64 (gi : Int)) ?_
     simp only [zD]
     refine Ks.x0i (by kernel_rfl) _ _ _ rfl 78 6 4 Tryz.underlying79 (by kernel_rfl) (by kernel_rfl) ib 0 t rfl rfl htt ?_
     simp only [zD]
     refine Ks.x0i (by kernel_rfl) _ _ _ rfl 4 4 1 Tryz.underlying78 (by kernel_rfl) (by kernel_rfl) ib (0 + t * 4) gi rfl rfl hgi ?_
     simp only [zD]
     refine Ks.store rfl _ _ _ rfl ib (0 + t * 4 + gi * 1) (.bool true) rfl rfl hFF.at_ (by unfold x2x; rw [Own.z0o]; omega) (by kernel_rfl) rfl (x2x (mark inn t gi)) (x0j inn htt hgi) ?_
     intro w6 HR6 HF6 HO6 HS6
     have hF6 := hFF.marks HR6.out HF6.out
     simp only [Act.put]
     refine Ks.fin ?_
     refine Ks.inb ?_
     exact finM _ w6 _ _ _ _ _ hF6 hHad5 rfl
   ·rintro a' w9 ⟨O9, ps9, P9, ow9, inn9, f9, hF9, hH9, rfl⟩
    unfold fo1
    refine Ks.reg ?_
    refine Ks.v (.int .i64 (i : Int)) ?_
    simp only [zD]
    refine Ks.val rfl (.int .i64 ((i + 1 : Nat) : Int)) (by
     simp [execOp, go_sem]
     exact IntWalk.i64_in _ ⟨by omega, by omega⟩) ?_
    simp only [zD]
    refine Ks.v (.int .i64 ((i + 1 : Nat) : Int)) ?_
    simp only [zD]
    refine Ks.done ?_
    exact fin _ w9 (i + 1) O9 ps9 P9 ow9 inn9 (by omega) (by omega) hlt hF9 hH9 rfl
 rintro a' w3 ⟨n, O3, ps3, P, ow, inn, f3, hF3, hHad3, rfl⟩
 obtain ⟨K0, hK0⟩ : ∃ K0, K0 = ps3.map Prod.snd := ⟨_, rfl⟩
 have hKl : K0.length = 4 := by rw [hK0, List.length_map]; exact hF3.town.len
 have hss : ∀ (g : Nat) s, K0[g]? = some s → z6u P ow s ∧ Had (fun t => inn t g) s ∧ s.number = 3 * (g : Int) := fun g s hs => by
  have hg4 : g < 4 := by have := (List.getElem?_eq_some_iff.1 hs).1; omega
  rw [hK0, List.getElem?_map] at hs
  obtain ⟨p, hp, rfl⟩ := Option.map_eq_some_iff.1 hs
  refine ⟨(hF3.town.at_ hp).2.1.town, hHad3 g p hp, ?_⟩
  have hn : q2l[g]? = some p.2.number := by rw [← hF3.town.gts.z2m, List.getElem?_map, (hF3.town.at_ hp).2.2]; rfl
  unfold q2l at hn
  rcases (by omega : g = 0 ∨ g = 1 ∨ g = 2 ∨ g = 3) with rfl | rfl | rfl | rfl <;> simp at hn <;> omega
 have hR3 : GAt K od w.heap.size w (.slice (some ⟨gb, 0, none⟩) 4 gc) ib inn K0 n P ow (To 1) w3 := ⟨O3, ps3, hF3, (by rw [hK0]; exact z4v.start _ : z4v K0 (fun i g => i = g) (ps3.map Prod.snd)).mono fun i g _ _ h => by unfold To at h; omega⟩
 clear hF3 hHad3 hS hTk hTf hF2 hHad hK0
 generalize Value.slice a0 os.length cap = sv
 refine Ks.cut (fun a' w' => GAt K od w.heap.size w (.slice (some ⟨gb, 0, none⟩) 4 gc) ib inn K0 n P ow (To 4) w' ∧ ∃ f : Nat → Value, a' = fo0 sd sv gb gc ib f) ?_ ?_
 ·unfold fo0
  refine wp_seq ?_
  refine Ks.reg ?_
  refine Ks.v (.int .i64 1) ?_
  simp only [zD]
  refine Ks.done ?_
  refine wp_block ?_
  have start : ∀ a' : Act, a' = fo2 sd sv gb gc ib 1 (fun j => a'.tmps.getD j undef) → ∃ (i : Nat) (f : Nat → Value), 1 ≤ i ∧ i ≤ 4 ∧ 3 = 4 - i ∧ GAt K od w.heap.size w (.slice (some ⟨gb, 0, none⟩) 4 gc) ib inn K0 n P ow (To i) w3 ∧ a' = fo2 sd sv gb gc ib i f := fun a' e => ⟨1, _, by omega, by omega, rfl, hR3, e⟩
  refine Ks.loop (fun q a wr => ∃ (i : Nat) (f : Nat → Value), 1 ≤ i ∧ i ≤ 4 ∧ q = 4 - i ∧ GAt K od w.heap.size w (.slice (some ⟨gb, 0, none⟩) 4 gc) ib inn K0 n P ow (To i) wr ∧ a = fo2 sd sv gb gc ib i f) 3 (start _ rfl) ?_
  clear start hR3
  rintro q a w4 ⟨i, f4, hi1, hi, rfl, ⟨O4, ps4, hF4, hS4⟩, rfl⟩
  have finI : ∀ (a' : Act) (w' : World) (i' : Nat), i < i' → i' ≤ 4 → GAt K od w.heap.size w (.slice (some ⟨gb, 0, none⟩) 4 gc) ib inn K0 n P ow (To i') w' → a' = fo2 sd sv gb gc ib i' (fun j => a'.tmps.getD j undef) → ∃ q, q < 4 - i ∧ ∃ (i : Nat) (f : Nat → Value), 1 ≤ i ∧ i ≤ 4 ∧ q = 4 - i ∧ GAt K od w.heap.size w (.slice (some ⟨gb, 0, none⟩) 4 gc) ib inn K0 n P ow (To i) w' ∧ a' = fo2 sd sv gb gc ib i f := fun a' w' i' q1 q2 q3 q4 => ⟨4 - i', by omega, i', _, by omega, q2, rfl, q3, q4⟩
  unfold fo2
  refine wp_seq ?_
  refine wp_seq ?_
  refine Ks.reg ?_
  refine Ks.v (.int .i64 (i : Int)) ?_
  simp only [zD]
  refine Ks.v (.bool (decide ((i : Int) < 4))) ?_
  simp only [zD]
  refine Ks.done ?_
  refine wp_cond_split rfl ?_ ?_
  ·intro hlti
   have hlti : i < 4 := by have := of_decide_eq_true hlti; omega
   refine wp_skip ?_
   refine Ks.norm ?_
   refine Ks.cut (fun a' w' => GAt K od w.heap.size w (.slice (some ⟨gb, 0, none⟩) 4 gc) ib inn K0 n P ow (To (i + 1)) w' ∧ ∃ f : Nat → Value, a' = fo2 sd sv gb gc ib i f) ?_ ?_
   ·have finM : ∀ (a' : Act) (w' : World), GAt K od w.heap.size w (.slice (some ⟨gb, 0, none⟩) 4 gc) ib inn K0 n P ow (To (i + 1)) w' → a' = fo2 sd sv gb gc ib i (fun j => a'.tmps.getD j undef) → GAt K od w.heap.size w (.slice (some ⟨gb, 0, none⟩) 4 gc) ib inn K0 n P ow (To (i + 1)) w' ∧ ∃ f : Nat → Value, a' = fo2 sd sv gb gc ib i f := fun a' w' q1 q2 => ⟨q1, _, q2⟩
    have hpl : ps4.length = 4 := hF4.town.len
    obtain ⟨p, hp⟩ : ∃ p, ps4[i]? = some p := ⟨_, List.getElem?_eq_getElem (by omega)⟩
    obtain ⟨u, hu⟩ : ∃ u, ps4[0]? = some u := ⟨_, List.getElem?_eq_getElem (by omega)⟩
    obtain ⟨hgl, z3b⟩ := hF4.town.cell
    refine wp_block ?_
    refine wp_seq ?_
    refine Qg.z0r 7 (by kernel_rfl) (by kernel_rfl) ?_
    simp only [List.take_succ_cons, List.take_zero, List.drop_succ_cons, List.drop_zero]
    refine Qg.val (by kernel_rfl) (.slice (some ⟨gb, 0, none⟩) 4 gc) (fun _ _ => by kernel_rfl) ?_
    simp only [zD]
    refine Qg.val (by kernel_rfl) (.int .i64 (i : Int)) (fun _ _ => by kernel_rfl) ?_
    simp only [zD]
    refine Qg.idx (by kernel_rfl) _ _ _ rfl 62 1 Tryz.underlying57 (by kernel_rfl) (by kernel_rfl) gb 4 gc i rfl rfl hlti ?_
    simp only [zD]
    refine Qg.cell (by kernel_rfl) _ _ rfl Tryz.underlying62 rfl gb (i * 1) (.pointer (some ⟨p.1, 0, none⟩)) rfl hgl (z3b i p hlti hp) ?_
    simp only [zD]
    refine Qg.val (by kernel_rfl) (.slice (some ⟨gb, 0, none⟩) 4 gc) (fun _ _ => by kernel_rfl) ?_
    simp only [zD]
    refine Qg.idx (by kernel_rfl) _ _ _ rfl 62 1 Tryz.underlying57 (by kernel_rfl) (by kernel_rfl) gb 4 gc 0 rfl rfl (by decide) ?_
    simp only [zD]
    refine Qg.cell (by kernel_rfl) _ _ rfl Tryz.underlying62 rfl gb (0 * 1) (.pointer (some ⟨u.1, 0, none⟩)) rfl hgl (z3b 0 u (by decide) hu) ?_
    simp only [zD]
    refine wpQuiet_nil ?_
    intro w6 hb6
    have hF6 := hF4.below hb6
    obtain ⟨hPp, hGp, _⟩ := hF6.town.at_ hp
    obtain ⟨hPu, hGu, _⟩ := hF6.town.at_ hu
    refine Ks.call rfl 26 #[.pointer (some ⟨p.1, 0, none⟩), .pointer (some ⟨u.1, 0, none⟩), .int .i64 ((1000000 : Nat) : Int)] (by kernel_rfl) (k4j hPp hPu hGp.town.inv hGu.town.inv 1000000 hF6.town.tin.tab (hF6.town.meets (w' := w6) hO hp hu 1000000).1) ?_
    rintro _ w7 ⟨rfl, hP7, hF7⟩
    obtain ⟨O7, hT7, hK7⟩ := (hF6.town.meets hO hp hu 1000000).2 hF7 hP7
    have hS7 := hF6.town.spread hO hS4 (To.self i) hp hu 1000000 (by decide)
    have hFF := hF6.goes hT7 hK7
    simp only [zD]
    refine Ks.v (.bool true) ?_
    simp only [zD]
    refine Ks.done ?_
    refine wp_seq ?_
    refine Ks.reg ?_
    refine Ks.v (.bool true) ?_
    simp only [zD]
    refine Ks.v (.bool false) ?_
    simp only [zD]
    refine Ks.done ?_
    refine wp_cond_false rfl ?_
    refine wp_skip ?_
    refine finM _ w7 ⟨O7, _, hFF, hS7.mono fun a b _ _ h => ?_⟩ rfl
    unfold To at *
    omega
   ·rintro a' w6 ⟨hR6, f6, rfl⟩
    unfold fo2
    refine Ks.reg ?_
    refine Ks.v (.int .i64 (i : Int)) ?_
    simp only [zD]
    refine Ks.val rfl (.int .i64 ((i + 1 : Nat) : Int)) (by
     simp [execOp, go_sem]
     exact IntWalk.i64_in _ ⟨by omega, by omega⟩) ?_
    simp only [zD]
    refine Ks.v (.int .i64 ((i + 1 : Nat) : Int)) ?_
    simp only [zD]
    refine Ks.done ?_
    exact finI _ w6 (i + 1) (by omega) hlti hR6 rfl
  ·intro hlti
   have finX : ∀ a' : Act, a' = fo0 sd sv gb gc ib (fun j => a'.tmps.getD j undef) → GAt K od w.heap.size w (.slice (some ⟨gb, 0, none⟩) 4 gc) ib inn K0 n P ow (To 4) w4 ∧ ∃ f : Nat → Value, a' = fo0 sd sv gb gc ib f := fun a' e => ⟨⟨O4, ps4, hF4, hS4.mono fun a b _ _ h => by
    have : i = 4 := by have := of_decide_eq_false hlti; omega
    unfold To at *
    omega⟩, _, e⟩
   refine wp_exit ?_
   refine Ks.z3q ?_
   exact finX _ rfl
 rintro a' w5 ⟨⟨O5, ps5, hF5, hS5⟩, f5, rfl⟩
 have hpl : ps5.length = 4 := hF5.town.len
 obtain ⟨p0, hp0⟩ : ∃ u, ps5[0]? = some u := ⟨_, List.getElem?_eq_getElem (by omega)⟩
 obtain ⟨hgl, z3b⟩ := hF5.town.cell
 obtain ⟨hP0, hG0, hs0⟩ := hF5.town.at_ hp0
 have hTw : y7g p0.2.l (tws inn 6) := by
  refine x5s hss hKl hG0.town ?_ fun x => ⟨fun hx => hS5.keys _ (List.mem_of_getElem? hs0) x hx, ?_⟩
  ·rcases hG0.floor with e | ⟨e, _⟩
   ·exact e
   ·exact e.elim
  ·rintro ⟨s, hs, hx⟩
   obtain ⟨i, hi, rfl⟩ := List.getElem_of_mem hs
   exact (hS5.done i 0 _ _ (by unfold To; omega) (List.getElem?_eq_getElem hi) hs0).1 x hx
 clear hS5 hss hKl
 unfold fo0
 refine wp_seq ?_
 refine Ks.reg ?_
 refine Ks.v (.slice (some ⟨gb, 0, none⟩) 4 gc) ?_
 simp only [zD]
 refine Ks.idx (by kernel_rfl) _ _ _ rfl 62 1 Tryz.underlying57 (by kernel_rfl) (by kernel_rfl) gb 4 gc 0 rfl rfl (by decide) ?_
 simp only [zD]
 refine Ks.cell rfl _ _ rfl Tryz.underlying62 rfl gb (0 * 1) (.pointer (some ⟨p0.1, 0, none⟩)) rfl (z3b 0 p0 (by decide) hp0) ?_
 simp only [zD]
 refine Ks.call rfl 33 #[.pointer (some ⟨p0.1, 0, none⟩)] (by kernel_rfl) (q1m hP0 hG0.town.inv) ?_
 rintro av w6 ⟨⟨l1, hi1, hA1⟩, hb6⟩
 have hl1 := hi1.eq hTw
 have hAt6 : w6.heap[ib]? = some (.cells (x2x inn) 79 (0, 0)) := (hb6.block ib hF5.lt).trans hF5.at_
 have hBw6 : Below w.heap.size w w6 := hF5.low.trans (hb6.mono hF5.town.tin.wN)
 clear hi1 hTw hb6 hF5 hP0 hG0 hs0 hgl z3b
 simp only [zD]
 refine Ks.v (av) ?_
 simp only [zD]
 refine Ks.done ?_
 refine wp_seq ?_
 refine Ks.reg ?_
 refine Ks.v (.int .i64 0) ?_
 simp only [zD]
 refine Ks.done ?_
 refine Ks.cut (fun a' w' => Below w6.heap.size w6 w' ∧ ∃ f : Nat → Value, a' = fo3 sd sv gb gc ib av (tws inn 6).length 6 f) ?_ ?_
 ·refine wp_seq ?_
  refine Ks.reg ?_
  refine Ks.v (.int .i64 0) ?_
  simp only [zD]
  refine Ks.done ?_
  refine wp_block ?_
  have at0 : (tws inn 0).length = 0 := rfl
  have start : ∀ a' : Act, a' = fo3 sd sv gb gc ib av 0 0 (fun j => a'.tmps.getD j undef) → ∃ (t : Nat) (f : Nat → Value), t ≤ 6 ∧ 6 = 6 - t ∧ Below w6.heap.size w6 w6 ∧ a' = fo3 sd sv gb gc ib av (tws inn t).length t f := fun a' e => ⟨0, _, by omega, rfl, Below.refl _ _, by rw [at0]; exact e⟩
  refine Ks.loop (fun q a wr => ∃ (t : Nat) (f : Nat → Value), t ≤ 6 ∧ q = 6 - t ∧ Below w6.heap.size w6 wr ∧ a = fo3 sd sv gb gc ib av (tws inn t).length t f) 6 (start _ rfl) ?_
  clear start
  rintro q a w7 ⟨t, f7, ht6, rfl, hb7, rfl⟩
  have fin : ∀ (a' : Act) (w' : World) (t' : Nat), t < t' → t' ≤ 6 → Below w6.heap.size w6 w' → a' = fo3 sd sv gb gc ib av (tws inn t').length t' (fun j => a'.tmps.getD j undef) → ∃ q, q < 6 - t ∧ ∃ (t : Nat) (f : Nat → Value), t ≤ 6 ∧ q = 6 - t ∧ Below w6.heap.size w6 w' ∧ a' = fo3 sd sv gb gc ib av (tws inn t).length t f := fun a' w' t' q1 q2 q3 q4 => ⟨6 - t', by omega, t', _, q2, rfl, q3, q4⟩
  unfold fo3
  refine wp_seq ?_
  refine wp_seq ?_
  refine Ks.reg ?_
  refine Ks.v (.int .i64 (t : Int)) ?_
  simp only [zD]
  refine Ks.v (.bool (decide ((t : Int) < 6))) ?_
  simp only [zD]
  refine Ks.done ?_
  refine wp_cond_split rfl ?_ ?_
  ·intro hlt
   have hlt : t < 6 := by have := of_decide_eq_true hlt; omega
   have hsucc := q4k inn t
   have hle := k1b inn t
   refine wp_skip ?_
   refine Ks.norm ?_
   refine Ks.cut (fun a' w' => Below w6.heap.size w6 w' ∧ ∃ f : Nat → Value, a' = fo3 sd sv gb gc ib av (tws inn (t + 1)).length t f) ?_ ?_
   ·have finM : ∀ (a' : Act) (w' : World) (k : Nat), k = (tws inn (t + 1)).length → Below w6.heap.size w6 w' → a' = fo3 sd sv gb gc ib av k t (fun j => a'.tmps.getD j undef) → Below w6.heap.size w6 w' ∧ ∃ f : Nat → Value, a' = fo3 sd sv gb gc ib av (tws inn (t + 1)).length t f := fun a' w' k q0 q1 q2 => ⟨q1, _, by rw [← q0]; exact q2⟩
    refine wp_block ?_
    refine wp_seq ?_
    refine Ks.reg ?_
    refine Ks.v (.slice none 0 0) ?_
    simp only [zD]
    refine Ks.done ?_
    refine Ks.cut (fun a' w' => ∃ (wv : Value) (f : Nat → Value), Below w6.heap.size w6 w' ∧ Row (fun b => w6.heap.size ≤ b) w' 3 1 wv (want inn t 4).length ((want inn t 4).map inC) ∧ a' = fo4 sd sv gb gc ib av (tws inn t).length t wv 4 f) ?_ ?_
    ·refine wp_seq ?_
     refine Ks.reg ?_
     refine Ks.v (.int .i64 0) ?_
     simp only [zD]
     refine Ks.done ?_
     refine wp_block ?_
     have start : ∀ a' : Act, a' = fo4 sd sv gb gc ib av (tws inn t).length t (.slice none 0 0) 0 (fun j => a'.tmps.getD j undef) → ∃ (g : Nat) (wv : Value) (f : Nat → Value), g ≤ 4 ∧ 4 = 4 - g ∧ Below w6.heap.size w6 w7 ∧ Row (fun b => w6.heap.size ≤ b) w7 3 1 wv (want inn t g).length ((want inn t g).map inC) ∧ a' = fo4 sd sv gb gc ib av (tws inn t).length t wv g f := fun a' e => ⟨0, _, _, by omega, rfl, hb7, Row.nil _ _ _ _, e⟩
     refine Ks.loop (fun q a wr => ∃ (g : Nat) (wv : Value) (f : Nat → Value), g ≤ 4 ∧ q = 4 - g ∧ Below w6.heap.size w6 wr ∧ Row (fun b => w6.heap.size ≤ b) wr 3 1 wv (want inn t g).length ((want inn t g).map inC) ∧ a = fo4 sd sv gb gc ib av (tws inn t).length t wv g f) 4 (start _ rfl) ?_
     clear start hb7
     rintro q a w8 ⟨g, wv, f8, hg4, rfl, hb8, hrow, rfl⟩
     have finG : ∀ (a' : Act) (w' : World) (g' : Nat) (wv : Value), g < g' → g' ≤ 4 → Below w6.heap.size w6 w' → Row (fun b => w6.heap.size ≤ b) w' 3 1 wv (want inn t g').length ((want inn t g').map inC) → a' = fo4 sd sv gb gc ib av (tws inn t).length t wv g' (fun j => a'.tmps.getD j undef) → ∃ q, q < 4 - g ∧ ∃ (g : Nat) (wv : Value) (f : Nat → Value), g ≤ 4 ∧ q = 4 - g ∧ Below w6.heap.size w6 w' ∧ Row (fun b => w6.heap.size ≤ b) w' 3 1 wv (want inn t g).length ((want inn t g).map inC) ∧ a' = fo4 sd sv gb gc ib av (tws inn t).length t wv g f := fun a' w' g' wv q1 q2 q3 q4 q5 => ⟨4 - g', by omega, g', wv, _, q2, rfl, q3, q4, q5⟩
     unfold fo4
     refine wp_seq ?_
     refine wp_seq ?_
     refine Ks.reg ?_
     refine Ks.v (.int .i64 (g : Int)) ?_
     simp only [zD]
     refine Ks.v (.bool (decide ((g : Int) < 4))) ?_
     simp only [zD]
     refine Ks.done ?_
     refine wp_cond_split rfl ?_ ?_
     ·intro hltg
      have hltg : g < 4 := by have := of_decide_eq_true hltg; omega
      refine wp_skip ?_
      refine Ks.norm ?_
      refine Ks.cut (fun a' w' => ∃ (wv : Value) (f : Nat → Value), Below w6.heap.size w6 w' ∧ Row (fun b => w6.heap.size ≤ b) w' 3 1 wv (want inn t (g + 1)).length ((want inn t (g + 1)).map inC) ∧ a' = fo4 sd sv gb gc ib av (tws inn t).length t wv g f) ?_ ?_
      ·have finW : ∀ (a' : Act) (w' : World) (wv : Value), Below w6.heap.size w6 w' → Row (fun b => w6.heap.size ≤ b) w' 3 1 wv (want inn t (g + 1)).length ((want inn t (g + 1)).map inC) → a' = fo4 sd sv gb gc ib av (tws inn t).length t wv g (fun j => a'.tmps.getD j undef) → ∃ (wv : Value) (f : Nat → Value), Below w6.heap.size w6 w' ∧ Row (fun b => w6.heap.size ≤ b) w' 3 1 wv (want inn t (g + 1)).length ((want inn t (g + 1)).map inC) ∧ a' = fo4 sd sv gb gc ib av (tws inn t).length t wv g f := fun a' w' wv q1 q2 q3 => ⟨wv, _, q1, q2, q3⟩
       have hAt8 : w8.heap[ib]? = some (.cells (x2x inn) 79 (0, 0)) := (hb8.block ib (Array.getElem?_eq_some_iff.1 hAt6).1).trans hAt6
       have hws := x9g inn t g
       have hwl := x1z inn t g
       obtain ⟨c, hc⟩ : ∃ c : Bool, inn t g = c := ⟨_, rfl⟩
       have hat : w8.cell? ⟨ib, 0 + t * 4 + g * 1, none⟩ = some (.bool c) := by rw [x6e hAt8 hlt hltg, hc]
       rw [hc] at hws
       refine wp_block ?_
       refine wp_seq ?_
       refine Ks.reg ?_
       refine Ks.v (.int .i64 (t : Int)) ?_
       simp only [zD]
       refine Ks.v (.int .i64 (g : Int)) ?_
       simp only [zD]
       refine Ks.x0i (by kernel_rfl) _ _ _ rfl 78 6 4 Tryz.underlying79 (by kernel_rfl) (by kernel_rfl) ib 0 t rfl rfl hlt ?_
       simp only [zD]
       refine Ks.x0i (by kernel_rfl) _ _ _ rfl 4 4 1 Tryz.underlying78 (by kernel_rfl) (by kernel_rfl) ib (0 + t * 4) g rfl rfl hltg ?_
       simp only [zD]
       refine Ks.cell rfl _ _ rfl Tryz.underlying4 rfl ib (0 + t * 4 + g * 1) (.bool c) rfl hat ?_
       simp only [zD]
       refine Ks.done ?_
       cases c with
       | false =>
        rw [if_neg (by simp)] at hws
        refine wp_cond_false rfl ?_
        refine wp_skip ?_
        exact finW _ w8 wv hb8 (by rw [hws]; exact hrow) rfl
       | true =>
        rw [if_pos rfl] at hws
        refine wp_cond_true rfl ?_
        refine Ks.reg ?_
        refine Ks.v (wv) ?_
        simp only [zD]
        refine Ks.v (.int .i64 (g : Int)) ?_
        simp only [zD]
        refine Ks.val rfl (.int .i64 (3 * (g : Int))) (by
         simp [execOp, go_sem]
         exact IntWalk.i64_in _ ⟨by omega, by omega⟩) ?_
        simp only [zD]
        refine Ks.push rfl rfl 25 3 _ _ _ rfl rfl (.int .i64 (3 * (g : Int))) (.int .i64 0) rfl #[.int .i64 (3 * (g : Int))] 1 8 Tryz.underlying25 x6g (by decide) (by decide) (by kernel_rfl) rfl (by decide) _ wv (want inn t g).length ((want inn t g).map inC) (fun _ => rfl) (fun _ => rfl) hrow rfl (by simp [Value.oneCell']) (by omega) ?_
        intro u wv' w9 hr9 hf9
        have hb9 : Below w6.heap.size w6 w9 := hb8.trans (hf9.below hb8.size fun k hk e => by have := hrow.2 k e; omega)
        have hr9' : Row (fun b => w6.heap.size ≤ b) w9 3 1 wv' (want inn t (g + 1)).length ((want inn t (g + 1)).map inC) := by
         rw [hws, List.length_append, List.map_append]
         exact hr9.mono fun k hk => hk.elim id fun h => Nat.le_trans hb8.size h
        simp only [zD]
        refine Ks.v (wv') ?_
        simp only [zD]
        refine Ks.fin ?_
        exact finW _ w9 wv' hb9 hr9' rfl
      ·rintro a' w9 ⟨wv9, f9, hb9, hr9, rfl⟩
       unfold fo4
       refine Ks.reg ?_
       refine Ks.v (.int .i64 (g : Int)) ?_
       simp only [zD]
       refine Ks.val rfl (.int .i64 ((g + 1 : Nat) : Int)) (by
        simp [execOp, go_sem]
        exact IntWalk.i64_in _ ⟨by omega, by omega⟩) ?_
       simp only [zD]
       refine Ks.v (.int .i64 ((g + 1 : Nat) : Int)) ?_
       simp only [zD]
       refine Ks.done ?_
       exact finG _ w9 (g + 1) wv9 (by omega) hltg hb9 hr9 rfl
     ·intro hltg
      obtain rfl : g = 4 := by have := of_decide_eq_false hltg; omega
      have finX : ∀ a' : Act, a' = fo4 sd sv gb gc ib av (tws inn t).length t wv 4 (fun j => a'.tmps.getD j undef) → ∃ (wv : Value) (f : Nat → Value), Below w6.heap.size w6 w8 ∧ Row (fun b => w6.heap.size ≤ b) w8 3 1 wv (want inn t 4).length ((want inn t 4).map inC) ∧ a' = fo4 sd sv gb gc ib av (tws inn t).length t wv 4 f := fun a' e => ⟨wv, _, hb8, hrow, e⟩
      refine wp_exit ?_
      refine Ks.z3q ?_
      exact finX _ rfl
    rintro a' w8 ⟨wv, f8, hb8, hrow, rfl⟩
    obtain ⟨pw, cw, ew, _⟩ := Row.form hrow
    unfold fo4
    refine wp_seq ?_
    refine wp_seq ?_
    refine Ks.reg ?_
    rw [ew]
    refine Ks.v (.slice pw (want inn t 4).length cw) ?_
    simp only [zD]
    refine Ks.v (.int .i64 ((want inn t 4).length : Int)) ?_
    simp only [zD]
    refine Ks.v (.bool (decide (((want inn t 4).length : Int) < 2))) ?_
    simp only [zD]
    refine Ks.done ?_
    have hwl := x1z inn t 4
    refine wp_cond_split rfl ?_ ?_
    ·intro h2
     have h2 : (want inn t 4).length < 2 := by have := of_decide_eq_true h2; omega
     rw [if_neg (by unfold y9k; simp; omega)] at hsucc
     refine wp_exit ?_
     refine Ks.k2q ?_
     exact finM _ w8 _ hsucc.symm hb8 rfl
    intro h2
    have h2 : 2 ≤ (want inn t 4).length := by have := of_decide_eq_false h2; omega
    have hwt : y9k inn t = true := decide_eq_true h2
    rw [if_pos hwt] at hsucc
    have htw := k5y inn hwt hlt
    rw [← hl1, List.getElem?_map] at htw
    obtain ⟨⟨tw, m1⟩, hx1, e1⟩ := Option.map_eq_some_iff.1 htw
    simp only at e1
    subst e1
    have hat := (List.getElem?_eq_some_iff.1 hx1).1
    have hA8 := hA1.below hb8
    have hm8 := hA8.more _ (List.mem_of_getElem? hx1)
    obtain ⟨pm, cm, em, hcm⟩ := Row.form hm8
    simp only at em hcm hm8
    obtain ⟨pa, ca, ea, hca⟩ := Row.form hA8.row
    obtain ⟨ga, cura, rfl, hga, hta⟩ := hca (tws inn t).length hat
    have hra := Row.range (f := fun p : Tw × Value => [.int .i64 p.1.epoch, .int .i64 p.1.serial, p.2]) (m := 3) (fun _ => rfl) hga hta hx1
    simp only [em] at hra
    generalize (tws inn t).length = at_ at *
    rw [ea]
    refine wp_skip ?_
    refine Ks.norm ?_
    refine wp_seq ?_
    refine wp_seq ?_
    refine Ks.reg ?_
    refine Ks.v (.int .i64 (at_ : Int)) ?_
    simp only [zD]
    refine Ks.v (.slice (some ⟨ga, 0, none⟩) l1.length ca) ?_
    simp only [zD]
    refine Ks.v (.int .i64 (l1.length : Int)) ?_
    simp only [zD]
    refine Ks.val rfl (.bool false) (by
     simp [execOp, go_sem]
     omega) ?_
    simp only [zD]
    refine Ks.v (.bool false) ?_
    simp only [zD]
    refine Ks.g (.slice (some ⟨ga, 0, none⟩) l1.length ca) ?_
    simp only [zD]
    refine Ks.g (.int .i64 (at_ : Int)) ?_
    simp only [zD]
    refine Ks.idx (by kernel_rfl) _ _ _ rfl 86 3 Tryz.underlying83 (by kernel_rfl) (by kernel_rfl) ga l1.length ca at_ rfl rfl hat ?_
    simp only [zD]
    refine Ks.g (.pointer (some ⟨ga, at_ * 3 + 0, none⟩)) ?_
    simp only [zD]
    refine Ks.z5c (by kernel_rfl) _ _ rfl Tryz.underlying3 rfl ga (at_ * 3 + 0) (.int .i64 ((t / 2 * 10 : Nat) : Int)) rfl (hra 0 _ rfl) ?_
    simp only [zD]
    refine Ks.g (.int .i64 (t : Int)) ?_
    simp only [zD]
    refine Ks.y4q (by kernel_rfl) (.int .i64 ((t / 2 : Nat) : Int)) (by
     simp [execOp, go_sem]
     exact IntWalk.i64_in _ ⟨by omega, by omega⟩) ?_
    simp only [zD]
    refine Ks.y4q (by kernel_rfl) (.int .i64 ((t / 2 * 10 : Nat) : Int)) (by
     simp [execOp, go_sem]
     exact IntWalk.i64_in _ ⟨by omega, by omega⟩) ?_
    simp only [zD]
    refine Ks.y4q (by kernel_rfl) (.bool false) (by simp [execOp, go_sem]) ?_
    simp only [zD]
    refine Ks.v (.bool false) ?_
    simp only [zD]
    refine Ks.v (.bool false) ?_
    simp only [zD]
    refine Ks.g (.slice (some ⟨ga, 0, none⟩) l1.length ca) ?_
    simp only [zD]
    refine Ks.g (.int .i64 (at_ : Int)) ?_
    simp only [zD]
    refine Ks.idx (by kernel_rfl) _ _ _ rfl 86 3 Tryz.underlying83 (by kernel_rfl) (by kernel_rfl) ga l1.length ca at_ rfl rfl hat ?_
    simp only [zD]
    refine Ks.g (.pointer (some ⟨ga, at_ * 3 + 1, none⟩)) ?_
    simp only [zD]
    refine Ks.z5c (by kernel_rfl) _ _ rfl Tryz.underlying3 rfl ga (at_ * 3 + 1) (.int .i64 (t : Int)) rfl (hra 1 _ rfl) ?_
    simp only [zD]
    refine Ks.g (.int .i64 (t : Int)) ?_
    simp only [zD]
    refine Ks.y4q (by kernel_rfl) (.bool false) (by simp [execOp, go_sem]) ?_
    simp only [zD]
    refine Ks.v (.bool false) ?_
    simp only [zD]
    refine Ks.v (.bool false) ?_
    simp only [zD]
    refine Ks.g (.slice (some ⟨ga, 0, none⟩) l1.length ca) ?_
    simp only [zD]
    refine Ks.g (.int .i64 (at_ : Int)) ?_
    simp only [zD]
    refine Ks.idx (by kernel_rfl) _ _ _ rfl 86 3 Tryz.underlying83 (by kernel_rfl) (by kernel_rfl) ga l1.length ca at_ rfl rfl hat ?_
    simp only [zD]
    refine Ks.g (.pointer (some ⟨ga, at_ * 3 + 2, none⟩)) ?_
    simp only [zD]
    refine Ks.z5c (by kernel_rfl) _ _ rfl Tryz.underlying25 rfl ga (at_ * 3 + 2) (.slice pm (want inn t 4).length cm) rfl (hra 2 _ rfl) ?_
    simp only [zD]
    refine Ks.g (.int .i64 ((want inn t 4).length : Int)) ?_
    simp only [zD]
    refine Ks.g (.slice pw (want inn t 4).length cw) ?_
    simp only [zD]
    refine Ks.g (.int .i64 ((want inn t 4).length : Int)) ?_
    simp only [zD]
    refine Ks.y4q (by kernel_rfl) (.bool false) (by simp [execOp, go_sem]) ?_
    simp only [zD]
    refine Ks.v (.bool false) ?_
    simp only [zD]
    refine Ks.done ?_
    refine wp_cond_false rfl ?_
    refine wp_skip ?_
    refine Ks.norm ?_
    have hgal := (Array.getElem?_eq_some_iff.1 hga).1
    refine Ks.cut (fun a' w' => Below w8.heap.size w8 w' ∧ ∃ f : Nat → Value, a' = fo3 sd sv gb gc ib (.slice (some ⟨ga, 0, none⟩) l1.length ca) at_ t f) ?_ ?_
    ·refine wp_seq ?_
     refine Ks.reg ?_
     refine Ks.v (.int .i64 0) ?_
     simp only [zD]
     refine Ks.done ?_
     refine wp_block ?_
     have start : ∀ a' : Act, a' = fo5 sd sv gb gc ib (.slice (some ⟨ga, 0, none⟩) l1.length ca) at_ t (.slice pw (want inn t 4).length cw) 0 (fun j => a'.tmps.getD j undef) → ∃ (k : Nat) (f : Nat → Value), k ≤ (want inn t 4).length ∧ (want inn t 4).length = (want inn t 4).length - k ∧ Below w8.heap.size w8 w8 ∧ a' = fo5 sd sv gb gc ib (.slice (some ⟨ga, 0, none⟩) l1.length ca) at_ t (.slice pw (want inn t 4).length cw) k f := fun a' e => ⟨0, _, by omega, rfl, Below.refl _ _, e⟩
     refine Ks.loop (fun q a wr => ∃ (k : Nat) (f : Nat → Value), k ≤ (want inn t 4).length ∧ q = (want inn t 4).length - k ∧ Below w8.heap.size w8 wr ∧ a = fo5 sd sv gb gc ib (.slice (some ⟨ga, 0, none⟩) l1.length ca) at_ t (.slice pw (want inn t 4).length cw) k f) (want inn t 4).length (start _ rfl) ?_
     clear start
     rintro q a w9 ⟨k, f9, hk, rfl, hb9, rfl⟩
     have finK : ∀ (a' : Act) (w' : World) (k' : Nat), k < k' → k' ≤ (want inn t 4).length → Below w8.heap.size w8 w' → a' = fo5 sd sv gb gc ib (.slice (some ⟨ga, 0, none⟩) l1.length ca) at_ t (.slice pw (want inn t 4).length cw) k' (fun j => a'.tmps.getD j undef) → ∃ q, q < (want inn t 4).length - k ∧ ∃ (k : Nat) (f : Nat → Value), k ≤ (want inn t 4).length ∧ q = (want inn t 4).length - k ∧ Below w8.heap.size w8 w' ∧ a' = fo5 sd sv gb gc ib (.slice (some ⟨ga, 0, none⟩) l1.length ca) at_ t (.slice pw (want inn t 4).length cw) k f := fun a' w' k' q1 q2 q3 q4 => ⟨(want inn t 4).length - k', by omega, k', _, q2, rfl, q3, q4⟩
     unfold fo5
     refine wp_seq ?_
     refine wp_seq ?_
     refine Ks.reg ?_
     refine Ks.v (.int .i64 (k : Int)) ?_
     simp only [zD]
     refine Ks.v (.slice pw (want inn t 4).length cw) ?_
     simp only [zD]
     refine Ks.v (.int .i64 ((want inn t 4).length : Int)) ?_
     simp only [zD]
     refine Ks.v (.bool (decide ((k : Int) < ((want inn t 4).length : Int)))) ?_
     simp only [zD]
     refine Ks.done ?_
     refine wp_cond_split rfl ?_ ?_
     ·intro hltk
      have hltk : k < (want inn t 4).length := by have := of_decide_eq_true hltk; omega
      obtain ⟨x, hx⟩ : ∃ x, (want inn t 4)[k]? = some x := ⟨_, List.getElem?_eq_getElem hltk⟩
      obtain ⟨gm, curm, rfl, _, _⟩ := hcm k hltk
      have hm9 := hm8.below hb9 (Nat.le_refl _)
      have hw9 := hrow.below hb9 (Nat.le_refl _)
      obtain ⟨q3, c3, e3, h3⟩ := Row.form hw9
      rw [ew] at e3
      injection e3 with e3a _ e3b
      subst e3a e3b
      obtain ⟨gw, curw, rfl, _, _⟩ := h3 k hltk
      obtain ⟨hgm, hcm9⟩ := q5b hm9 em hx
      obtain ⟨hgw, hcw9⟩ := q5b hw9 ew hx
      have hra9 := z2h hra hb9 hgal
      have hs9 := hb9.size
      refine wp_skip ?_
      refine Ks.norm ?_
      refine wp_seq ?_
      refine wp_block ?_
      refine wp_seq ?_
      refine Qt.z0y (by kernel_rfl) (by kernel_rfl) ?_
      refine Qg.val (by kernel_rfl) (.slice (some ⟨ga, 0, none⟩) l1.length ca) (fun _ _ => by kernel_rfl) ?_
      simp only [zD]
      refine Qg.val (by kernel_rfl) (.int .i64 (at_ : Int)) (fun _ _ => by kernel_rfl) ?_
      simp only [zD]
      refine Qg.idx (by kernel_rfl) _ _ _ rfl 86 3 Tryz.underlying83 (by kernel_rfl) (by kernel_rfl) ga l1.length ca at_ rfl rfl hat ?_
      simp only [zD]
      refine Qg.val (by kernel_rfl) (.pointer (some ⟨ga, at_ * 3 + 2, none⟩)) (fun _ _ => by kernel_rfl) ?_
      simp only [zD]
      refine Qg.cell (by kernel_rfl) _ _ rfl Tryz.underlying25 rfl ga (at_ * 3 + 2) (.slice (some ⟨gm, 0, none⟩) (want inn t 4).length cm) rfl (by omega) (hra9 2 _ rfl) ?_
      simp only [zD]
      refine Qg.val (by kernel_rfl) (.int .i64 (k : Int)) (fun _ _ => by kernel_rfl) ?_
      simp only [zD]
      refine Qg.idx (by kernel_rfl) _ _ _ rfl 3 1 Tryz.underlying25 (by kernel_rfl) (by kernel_rfl) gm (want inn t 4).length cm k rfl rfl hltk ?_
      simp only [zD]
      refine Qg.cell (by kernel_rfl) _ _ rfl Tryz.underlying3 rfl gm (k * 1) (.int .i64 x) rfl hgm hcm9 ?_
      simp only [zD]
      refine Qg.val (by kernel_rfl) (.slice (some ⟨gw, 0, none⟩) (want inn t 4).length cw) (fun _ _ => by kernel_rfl) ?_
      simp only [zD]
      refine Qg.val (by kernel_rfl) (.int .i64 (k : Int)) (fun _ _ => by kernel_rfl) ?_
      simp only [zD]
      refine Qg.idx (by kernel_rfl) _ _ _ rfl 3 1 Tryz.underlying25 (by kernel_rfl) (by kernel_rfl) gw (want inn t 4).length cw k rfl rfl hltk ?_
      simp only [zD]
      refine Qg.cell (by kernel_rfl) _ _ rfl Tryz.underlying3 rfl gw (k * 1) (.int .i64 x) rfl hgw hcw9 ?_
      simp only [zD]
      refine Qg.val (by kernel_rfl) (.bool false) (fun w' _ => by simp [execOp, go_sem]) ?_
      simp only [zD]
      refine wpQuiet_nil ?_
      intro w10 hb10
      refine Ks.norm ?_
      refine wp_cond_false rfl ?_
      refine wp_skip ?_
      refine Ks.inb ?_
      refine Ks.reg ?_
      refine Ks.v (.int .i64 (k : Int)) ?_
      simp only [zD]
      refine Ks.val rfl (.int .i64 ((k + 1 : Nat) : Int)) (by
       simp [execOp, go_sem]
       exact IntWalk.i64_in _ ⟨by omega, by omega⟩) ?_
      simp only [zD]
      refine Ks.v (.int .i64 ((k + 1 : Nat) : Int)) ?_
      simp only [zD]
      refine Ks.done ?_
      exact finK _ w10 (k + 1) (by omega) hltk (hb9.trans (Below.mono hb10 hb9.size)) rfl
     ·intro hltk
      have finX : ∀ a' : Act, a' = fo3 sd sv gb gc ib (.slice (some ⟨ga, 0, none⟩) l1.length ca) at_ t (fun j => a'.tmps.getD j undef) → Below w8.heap.size w8 w9 ∧ ∃ f : Nat → Value, a' = fo3 sd sv gb gc ib (.slice (some ⟨ga, 0, none⟩) l1.length ca) at_ t f := fun a' e => ⟨hb9, _, e⟩
      refine wp_exit ?_
      refine Ks.z3q ?_
      exact finX _ rfl
    rintro a' w9 ⟨hb9, f9, rfl⟩
    have hb69 : Below w6.heap.size w6 w9 := hb8.trans (hb9.mono hb8.size)
    rw [ea] at finM
    unfold fo3
    refine Ks.reg ?_
    refine Ks.v (.int .i64 (at_ : Int)) ?_
    simp only [zD]
    refine Ks.val rfl (.int .i64 ((at_ + 1 : Nat) : Int)) (by
     simp [execOp, go_sem]
     exact IntWalk.i64_in _ ⟨by omega, by omega⟩) ?_
    simp only [zD]
    refine Ks.v (.int .i64 ((at_ + 1 : Nat) : Int)) ?_
    simp only [zD]
    refine Ks.fin ?_
    refine Ks.inb ?_
    exact finM _ w9 (at_ + 1) hsucc.symm hb69 rfl
   ·rintro a' w8 ⟨hb8, f8, rfl⟩
    unfold fo3
    refine Ks.reg ?_
    refine Ks.v (.int .i64 (t : Int)) ?_
    simp only [zD]
    refine Ks.val rfl (.int .i64 ((t + 1 : Nat) : Int)) (by
     simp [execOp, go_sem]
     exact IntWalk.i64_in _ ⟨by omega, by omega⟩) ?_
    simp only [zD]
    refine Ks.v (.int .i64 ((t + 1 : Nat) : Int)) ?_
    simp only [zD]
    refine Ks.done ?_
    exact fin _ w8 (t + 1) (by omega) hlt hb8 rfl
  ·intro hlt
   obtain rfl : t = 6 := by have := of_decide_eq_false hlt; omega
   have finX : ∀ a' : Act, a' = fo3 sd sv gb gc ib av (tws inn 6).length 6 (fun j => a'.tmps.getD j undef) → Below w6.heap.size w6 w7 ∧ ∃ f : Nat → Value, a' = fo3 sd sv gb gc ib av (tws inn 6).length 6 f := fun a' e => ⟨hb7, _, e⟩
   refine wp_exit ?_
   refine Ks.z3q ?_
   exact finX _ rfl
 rintro a' w8 ⟨hb8, f8, rfl⟩
 have hlen : l1.length = (tws inn 6).length := by rw [← hl1, List.length_map]
 obtain ⟨pa, ca, rfl, _⟩ := Row.form hA1.row
 rw [← hlen]
 unfold fo3
 refine wp_seq ?_
 refine Ks.reg ?_
 refine Ks.v (.int .i64 (l1.length : Int)) ?_
 simp only [zD]
 refine Ks.v (.slice pa l1.length ca) ?_
 simp only [zD]
 refine Ks.v (.int .i64 (l1.length : Int)) ?_
 simp only [zD]
 refine Ks.val rfl (.bool true) (by simp [execOp, go_sem]) ?_
 simp only [zD]
 refine Ks.v (.bool true) ?_
 simp only [zD]
 refine Ks.done ?_
 refine wp_ret ?_
 repeat (refine Ks.ret ?_)
 refine bodyPost_ret (v := .bool true) (by simp [results, Tryz.results8]) rfl ?_
 exact ⟨rfl, hBw6.trans (hb8.mono hBw6.size)⟩
end Tn
end Go.Proofs.YtbojijefenfbgaaGreatDoor

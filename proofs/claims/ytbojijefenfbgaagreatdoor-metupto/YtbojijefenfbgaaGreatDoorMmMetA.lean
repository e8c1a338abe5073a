/- Walk of the package posternkeep's Met. Towards: whatever script is handed in (of bulk at most 1048576), the statement Gates answers true: gates of the program's and of the document's, made, asked to admit, to close and how they stand, answer the same at every step and at the end.
  Conditions: the row's own ('upto': the bulk; 'laid': the program's table of round words starts as its text lays it, tied by the card). -/
import Derived.Test.YtbojijefenfbgaaGreatDoorMmShort
import Derived.Test.YtbojijefenfbgaaGreatDoorMmTownH
import Derived.Test.YtbojijefenfbgaaGreatDoorCards
import Derived.Test.YtbojijefenfbgaaGreatDoorTie
import Derived.Test.YtbojijefenfbgaaGreatDoorMmLawF
import Derived.WalkKit
import Derived.ProofKit
import Derived.OpenShut
import Derived.Carry
import Derived.Deep.Slices
import Derived.Deep.DeepHandedRow
import Derived.Lib.LaidTab
namespace Go.Proofs.YtbojijefenfbgaaGreatDoor
open Go Go.RowKit
namespace Tn
open Mp Bk Tk Gw Gt
def me0 (sd : List UInt8) (sv : Value) (gb gc : Nat) (f : Nat → Value) : Act := { tmps := #[str sd, sv, f 2, f 3, .bool false, .slice (some ⟨gb, 0, none⟩) 4 gc, f 6, f 7, f 8, f 9, f 10, f 11, f 12, f 13, f 14, f 15, f 16, f 17, f 18, f 19, f 20, f 21, f 22, f 23, f 24, f 25, f 26, f 27, f 28, f 29, f 30, f 31, f 32, f 33, f 34, f 35, f 36, f 37, f 38, f 39, f 40, f 41, f 42, f 43, f 44, f 45, f 46, f 47, f 48, f 49, f 50, f 51, f 52, f 53, f 54, f 55, f 56, f 57, f 58, f 59, f 60, f 61, f 62, f 63, f 64, f 65, f 66, f 67, f 68, f 69, f 70, f 71, f 72, f 73, f 74, f 75, f 76, f 77, f 78, f 79, f 80, f 81, f 82, f 83, f 84, f 85, f 86, f 87, f 88, f 89, f 90, f 91, f 92, f 93, f 94, f 95, f 96, f 97, f 98, f 99, f 100, f 101, f 102, f 103, f 104, f 105, f 106, f 107, f 108, f 109, f 110, f 111, f 112, f 113, f 114, f 115, f 116, f 117, f 118, f 119, f 120, f 121], defers := [] }
def me1 (sd : List UInt8) (sv : Value) (gb gc r : Nat) (f : Nat → Value) : Act := { tmps := #[str sd, sv, f 2, f 3, .bool false, .slice (some ⟨gb, 0, none⟩) 4 gc, f 6, f 7, .int .i64 (r : Int), f 9, f 10, f 11, f 12, f 13, f 14, f 15, f 16, f 17, f 18, f 19, f 20, f 21, f 22, f 23, f 24, f 25, f 26, f 27, f 28, f 29, f 30, f 31, f 32, f 33, f 34, f 35, f 36, f 37, f 38, f 39, f 40, f 41, f 42, f 43, f 44, f 45, f 46, f 47, f 48, f 49, f 50, f 51, f 52, f 53, f 54, f 55, f 56, f 57, f 58, f 59, f 60, f 61, f 62, f 63, f 64, f 65, f 66, f 67, f 68, f 69, f 70, f 71, f 72, f 73, f 74, f 75, f 76, f 77, f 78, f 79, f 80, f 81, f 82, f 83, f 84, f 85, f 86, f 87, f 88, f 89, f 90, f 91, f 92, f 93, f 94, f 95, f 96, f 97, f 98, f 99, f 100, f 101, f 102, f 103, f 104, f 105, f 106, f 107, f 108, f 109, f 110, f 111, f 112, f 113, f 114, f 115, f 116, f 117, f 118, f 119, f 120, f 121], defers := [] }
def me2 (sd : List UInt8) (sv : Value) (gb gc r i : Nat) (f : Nat → Value) : Act := { tmps := #[str sd, sv, f 2, f 3, .bool false, .slice (some ⟨gb, 0, none⟩) 4 gc, f 6, f 7, .int .i64 (r : Int), .int .i64 (i : Int), f 10, f 11, f 12, f 13, f 14, f 15, f 16, f 17, f 18, f 19, f 20, f 21, f 22, f 23, f 24, f 25, f 26, f 27, f 28, f 29, f 30, f 31, f 32, f 33, f 34, f 35, f 36, f 37, f 38, f 39, f 40, f 41, f 42, f 43, f 44, f 45, f 46, f 47, f 48, f 49, f 50, f 51, f 52, f 53, f 54, f 55, f 56, f 57, f 58, f 59, f 60, f 61, f 62, f 63, f 64, f 65, f 66, f 67, f 68, f 69, f 70, f 71, f 72, f 73, f 74, f 75, f 76, f 77, f 78, f 79, f 80, f 81, f 82, f 83, f 84, f 85, f 86, f 87, f 88, f 89, f 90, f 91, f 92, f 93, f 94, f 95, f 96, f 97, f 98, f 99, f 100, f 101, f 102, f 103, f 104, f 105, f 106, f 107, f 108, f 109, f 110, f 111, f 112, f 113, f 114, f 115, f 116, f 117, f 118, f 119, f 120, f 121], defers := [] }
def me3 (sd : List UInt8) (sv : Value) (gb gc r i j : Nat) (f : Nat → Value) : Act := { tmps := #[str sd, sv, f 2, f 3, .bool false, .slice (some ⟨gb, 0, none⟩) 4 gc, f 6, f 7, .int .i64 (r : Int), .int .i64 (i : Int), .int .i64 (j : Int), f 11, f 12, f 13, f 14, f 15, f 16, f 17, f 18, f 19, f 20, f 21, f 22, f 23, f 24, f 25, f 26, f 27, f 28, f 29, f 30, f 31, f 32, f 33, f 34, f 35, f 36, f 37, f 38, f 39, f 40, f 41, f 42, f 43, f 44, f 45, f 46, f 47, f 48, f 49, f 50, f 51, f 52, f 53, f 54, f 55, f 56, f 57, f 58, f 59, f 60, f 61, f 62, f 63, f 64, f 65, f 66, f 67, f 68, f 69, f 70, f 71, f 72, f 73, f 74, f 75, f 76, f 77, f 78, f 79, f 80, f 81, f 82, f 83, f 84, f 85, f 86, f 87, f 88, f 89, f 90, f 91, f 92, f 93, f 94, f 95, f 96, f 97, f 98, f 99, f 100, f 101, f 102, f 103, f 104, f 105, f 106, f 107, f 108, f 109, f 110, f 111, f 112, f 113, f 114, f 115, f 116, f 117, f 118, f 119, f 120, f 121], defers := [] }
def me6 (sd : List UInt8) (sv : Value) (gb gc i : Nat) (f : Nat → Value) : Act := { tmps := #[str sd, sv, f 2, f 3, .bool false, .slice (some ⟨gb, 0, none⟩) 4 gc, f 6, f 7, f 8, f 9, f 10, f 11, .int .i64 (i : Int), f 13, f 14, f 15, f 16, f 17, f 18, f 19, f 20, f 21, f 22, f 23, f 24, f 25, f 26, f 27, f 28, f 29, f 30, f 31, f 32, f 33, f 34, f 35, f 36, f 37, f 38, f 39, f 40, f 41, f 42, f 43, f 44, f 45, f 46, f 47, f 48, f 49, f 50, f 51, f 52, f 53, f 54, f 55, f 56, f 57, f 58, f 59, f 60, f 61, f 62, f 63, f 64, f 65, f 66, f 67, f 68, f 69, f 70, f 71, f 72, f 73, f 74, f 75, f 76, f 77, f 78, f 79, f 80, f 81, f 82, f 83, f 84, f 85, f 86, f 87, f 88, f 89, f 90, f 91, f 92, f 93, f 94, f 95, f 96, f 97, f 98, f 99, f 100, f 101, f 102, f 103, f 104, f 105, f 106, f 107, f 108, f 109, f 110, f 111, f 112, f 113, f 114, f 115, f 116, f 117, f 118, f 119, f 120, f 121], defers := [] }
def me8 (sd : List UInt8) (sv : Value) (gb gc b i : Nat) (f : Nat → Value) : Act := { tmps := #[str sd, sv, f 2, f 3, .bool false, .slice (some ⟨gb, 0, none⟩) 4 gc, f 6, f 7, f 8, f 9, f 10, f 11, f 12, f 13, .pointer (some ⟨b, 0, none⟩), f 15, .int .i64 (i : Int), f 17, f 18, f 19, f 20, f 21, f 22, f 23, f 24, f 25, f 26, f 27, f 28, f 29, f 30, f 31, f 32, f 33, f 34, f 35, f 36, f 37, f 38, f 39, f 40, f 41, f 42, f 43, f 44, f 45, f 46, f 47, f 48, f 49, f 50, f 51, f 52, f 53, f 54, f 55, f 56, f 57, f 58, f 59, f 60, f 61, f 62, f 63, f 64, f 65, f 66, f 67, f 68, f 69, f 70, f 71, f 72, f 73, f 74, f 75, f 76, f 77, f 78, f 79, f 80, f 81, f 82, f 83, f 84, f 85, f 86, f 87, f 88, f 89, f 90, f 91, f 92, f 93, f 94, f 95, f 96, f 97, f 98, f 99, f 100, f 101, f 102, f 103, f 104, f 105, f 106, f 107, f 108, f 109, f 110, f 111, f 112, f 113, f 114, f 115, f 116, f 117, f 118, f 119, f 120, f 121], defers := [] }
def RAt (k : List UInt8) (ok : Int → Prop) (ord : Int → List UInt8) (N : Nat) (w0 : World) (lv : Value) (K : List St) (m : Nat) (P : Int × Int → Int × Int) (ow : Int → Int) (D : Nat → Nat → Prop) (w : World) : Prop := ∃ O ps, z0t k ok ord x3i N w lv O ps m P ow ∧ z4d K D (ps.map Prod.snd) ∧ Below N w0 w
theorem RAt.mono {k : List UInt8} {ok : Int → Prop} {ord : Int → List UInt8} {N : Nat} {lv : Value} {K : List St} {m : Nat} {P : Int × Int → Int × Int} {ow : Int → Int} {D E : Nat → Nat → Prop} {w0 w : World} (h : RAt k ok ord N w0 lv K m P ow D w) (hK : K.length = 4) (hE : ∀ a b, a < 4 → b < 4 → E a b → D a b) : RAt k ok ord N w0 lv K m P ow E w := by
 obtain ⟨O, ps, h1, h2, h3⟩ := h
 refine ⟨O, ps, h1, h2.mono fun i g hi hg => hE i g (by omega) ?_, h3⟩
 rw [List.length_map, h1.len] at hg
 exact hg
set_option maxRecDepth 10000 in
set_option maxHeartbeats 2000000 in
theorem k7b (sd : List UInt8) (a0 : Option Addr) (cap : Nat) (os : List S4) (w : World) (ht : Hs.z0j w) (hS : ∀ w', Below w.heap.size w w' → ∀ O, (∀ b i, O b i → w.heap.size ≤ b) → k1l O w' a0 os) (hl : os.length ≤ 1000000000000) : Calls Tryz.prog 7 #[str sd, .slice a0 os.length cap] w fun e w' => e = .returned (.bool true) ∧ Below w.heap.size w w' := by
 go_enter Tryz.func7, Tryz.ntmps7
 refine wp_seq ?_
 refine Ks.reg ?_
 refine Ks.v (.bool false) ?_
 simp only [zD]
 refine Ks.done ?_
 refine wp_seq ?_
 refine Ks.reg ?_
 refine Ks.v (str sd) ?_
 simp only [zD]
 refine Ks.call rfl 24 #[str sd] (by kernel_rfl) (k3u sd w ht) ?_
 rintro _ w1 ⟨⟨lv, ps, O, rfl, hps, hT, hrow⟩, hb1⟩
 have hSc := hS w1 hb1 O fun b i hO => (hT.lt b i hO).1
 have hTown : z0t (z5w (z1i sd)) okF (y6r (z1i sd)) x3i w.heap.size w1 lv O ps 0 (fun _ => (0, 0)) (fun _ => 0) := z0t.start hT hps hrow
 simp only [zD]
 refine Ks.v (.tuple #[lv, .bool true]) ?_
 simp only [zD]
 refine Ks.v (lv) ?_
 simp only [zD]
 refine Ks.v (.bool true) ?_
 simp only [zD]
 refine Ks.v (lv) ?_
 simp only [zD]
 refine Ks.v (.bool true) ?_
 simp only [zD]
 refine Ks.done ?_
 refine wp_seq ?_
 refine wp_seq ?_
 refine Ks.reg ?_
 refine Ks.v (.bool true) ?_
 simp only [zD]
 refine Ks.v (.bool false) ?_
 simp only [zD]
 refine Ks.done ?_
 refine wp_cond_false rfl ?_
 refine wp_skip ?_
 refine Ks.norm ?_
 refine wp_seq ?_
 refine Ks.reg ?_
 refine Ks.v (lv) ?_
 simp only [zD]
 refine Ks.v (str sd) ?_
 simp only [zD]
 refine Ks.v (.slice a0 os.length cap) ?_
 simp only [zD]
 refine Ks.call rfl 25 #[lv, str sd, .slice a0 os.length cap] (by kernel_rfl) (k4y sd (y6j _) x2x hTown a0 cap os hSc (fun o _ _ => by
  have := y9b o.ticket (n := 2) (by decide)
  unfold okF
  omega) (by omega) hl) ?_
 rintro _ w2 ⟨rfl, n, O2, ps2, P2, ow2, hn, _, hOn⟩
 have hTown2 := hOn.town
 have hBw2 : Below w.heap.size w w2 := hb1.trans (hT.x7j hOn.kept)
 have hkey : z5w (z1i sd) = z5w (z1i sd) := rfl
 generalize hk : z5w (z1i sd) = K at *
 have hO := y6j (z1i sd)
 rw [hk] at hO
 generalize y6r (z1i sd) = od at *
 obtain ⟨gb, gc, rfl⟩ := hTown2.list
 clear hOn hTown hSc hT hrow hps hS
 simp only [zD]
 refine Ks.v (.bool true) ?_
 simp only [zD]
 refine Ks.done ?_
 refine wp_seq ?_
 refine wp_seq ?_
 refine Ks.reg ?_
 refine Ks.v (.bool true) ?_
 simp only [zD]
 refine Ks.v (.bool false) ?_
 simp only [zD]
 refine Ks.done ?_
 refine wp_cond_false rfl ?_
 refine wp_skip ?_
 refine Ks.norm ?_
 obtain ⟨K0, hK0⟩ : ∃ K0, K0 = ps2.map Prod.snd := ⟨_, rfl⟩
 have hKl : K0.length = 4 := by rw [hK0, List.length_map]; exact hTown2.len
 have hR2 : RAt K okF od w.heap.size w (.slice (some ⟨gb, 0, none⟩) 4 gc) K0 (0 + n) P2 ow2 (Far 0 0 0) w2 := RAt.mono (D := fun i g => i = g) ⟨O2, ps2, hTown2, by rw [hK0]; exact z4d.start _, hBw2⟩ hKl fun a b _ _ h => by
  unfold Far at h
  omega
 clear hTown2
 generalize Value.slice a0 os.length cap = sv
 refine Ks.cut (fun a' w' => RAt K okF od w.heap.size w (.slice (some ⟨gb, 0, none⟩) 4 gc) K0 (0 + n) P2 ow2 (fun _ _ => True) w' ∧ ∃ f : Nat → Value, a' = me0 sd sv gb gc f) ?_ ?_
 ·refine wp_seq ?_
  refine Ks.reg ?_
  refine Ks.v (.int .i64 0) ?_
  simp only [zD]
  refine Ks.done ?_
  refine wp_block ?_
  have start : ∀ a' : Act, a' = me1 sd sv gb gc 0 (fun j => a'.tmps.getD j undef) → ∃ (r : Nat) (f : Nat → Value), r ≤ 2 ∧ 2 = 2 - r ∧ RAt K okF od w.heap.size w (.slice (some ⟨gb, 0, none⟩) 4 gc) K0 (0 + n) P2 ow2 (Far r 0 0) w2 ∧ a' = me1 sd sv gb gc r f := fun a' e => ⟨0, _, by omega, rfl, hR2, e⟩
  refine Ks.loop (fun q a wr => ∃ (r : Nat) (f : Nat → Value), r ≤ 2 ∧ q = 2 - r ∧ RAt K okF od w.heap.size w (.slice (some ⟨gb, 0, none⟩) 4 gc) K0 (0 + n) P2 ow2 (Far r 0 0) wr ∧ a = me1 sd sv gb gc r f) 2 (start _ rfl) ?_
  clear start hR2
  rintro q a w3 ⟨r, f3, hr, rfl, hR3, rfl⟩
  have finR : ∀ (a' : Act) (w' : World) (r' : Nat), r < r' → r' ≤ 2 → RAt K okF od w.heap.size w (.slice (some ⟨gb, 0, none⟩) 4 gc) K0 (0 + n) P2 ow2 (Far r' 0 0) w' → a' = me1 sd sv gb gc r' (fun j => a'.tmps.getD j undef) → ∃ q, q < 2 - r ∧ ∃ (r : Nat) (f : Nat → Value), r ≤ 2 ∧ q = 2 - r ∧ RAt K okF od w.heap.size w (.slice (some ⟨gb, 0, none⟩) 4 gc) K0 (0 + n) P2 ow2 (Far r 0 0) w' ∧ a' = me1 sd sv gb gc r f := fun a' w' r' q1 q2 q3 q4 => ⟨2 - r', by omega, r', _, q2, rfl, q3, q4⟩
  unfold me1
  refine wp_seq ?_
  refine wp_seq ?_
  refine Ks.reg ?_
  refine Ks.v (.int .i64 (r : Int)) ?_
  simp only [zD]
  refine Ks.v (.bool (decide ((r : Int) < 2))) ?_
  simp only [zD]
  refine Ks.done ?_
  refine wp_cond_split rfl ?_ ?_
  ·intro hlt
   have hlt : r < 2 := by have := of_decide_eq_true hlt; omega
   refine wp_skip ?_
   refine Ks.norm ?_
   refine Ks.cut (fun a' w' => RAt K okF od w.heap.size w (.slice (some ⟨gb, 0, none⟩) 4 gc) K0 (0 + n) P2 ow2 (Far r 4 0) w' ∧ ∃ f : Nat → Value, a' = me1 sd sv gb gc r f) ?_ ?_
   ·refine wp_block ?_
    refine wp_seq ?_
    refine Ks.reg ?_
    refine Ks.v (.int .i64 0) ?_
    simp only [zD]
    refine Ks.done ?_
    refine wp_block ?_
    have start : ∀ a' : Act, a' = me2 sd sv gb gc r 0 (fun j => a'.tmps.getD j undef) → ∃ (i : Nat) (f : Nat → Value), i ≤ 4 ∧ 4 = 4 - i ∧ RAt K okF od w.heap.size w (.slice (some ⟨gb, 0, none⟩) 4 gc) K0 (0 + n) P2 ow2 (Far r i 0) w3 ∧ a' = me2 sd sv gb gc r i f := fun a' e => ⟨0, _, by omega, rfl, hR3, e⟩
    refine Ks.loop (fun q a wr => ∃ (i : Nat) (f : Nat → Value), i ≤ 4 ∧ q = 4 - i ∧ RAt K okF od w.heap.size w (.slice (some ⟨gb, 0, none⟩) 4 gc) K0 (0 + n) P2 ow2 (Far r i 0) wr ∧ a = me2 sd sv gb gc r i f) 4 (start _ rfl) ?_
    clear start hR3
    rintro q a w4 ⟨i, f4, hi, rfl, hR4, rfl⟩
    have finI : ∀ (a' : Act) (w' : World) (i' : Nat), i < i' → i' ≤ 4 → RAt K okF od w.heap.size w (.slice (some ⟨gb, 0, none⟩) 4 gc) K0 (0 + n) P2 ow2 (Far r i' 0) w' → a' = me2 sd sv gb gc r i' (fun j => a'.tmps.getD j undef) → ∃ q, q < 4 - i ∧ ∃ (i : Nat) (f : Nat → Value), i ≤ 4 ∧ q = 4 - i ∧ RAt K okF od w.heap.size w (.slice (some ⟨gb, 0, none⟩) 4 gc) K0 (0 + n) P2 ow2 (Far r i 0) w' ∧ a' = me2 sd sv gb gc r i f := fun a' w' i' q1 q2 q3 q4 => ⟨4 - i', by omega, i', _, q2, rfl, q3, q4⟩
    unfold me2
    refine wp_seq ?_
    refine wp_seq ?_
    refine Ks.reg ?_
    refine Ks.v (.int .i64 (i : Int)) ?_
    simp only [zD]
    refine Ks.v (.bool (decide ((i : Int) < 4))) ?_
    simp only [zD]
    refine Ks.done ?_
    refine wp_cond_split rfl ?_ ?_
    ·intro hlti
     have hlti : i < 4 := by have := of_decide_eq_true hlti; omega
     refine wp_skip ?_
     refine Ks.norm ?_
     refine Ks.cut (fun a' w' => RAt K okF od w.heap.size w (.slice (some ⟨gb, 0, none⟩) 4 gc) K0 (0 + n) P2 ow2 (Far r i 4) w' ∧ ∃ f : Nat → Value, a' = me2 sd sv gb gc r i f) ?_ ?_
     ·refine wp_block ?_
      refine wp_seq ?_
      refine Ks.reg ?_
      refine Ks.v (.int .i64 0) ?_
      simp only [zD]
      refine Ks.done ?_
      refine wp_block ?_
      have start : ∀ a' : Act, a' = me3 sd sv gb gc r i 0 (fun j => a'.tmps.getD j undef) → ∃ (j : Nat) (f : Nat → Value), j ≤ 4 ∧ 4 = 4 - j ∧ RAt K okF od w.heap.size w (.slice (some ⟨gb, 0, none⟩) 4 gc) K0 (0 + n) P2 ow2 (Far r i j) w4 ∧ a' = me3 sd sv gb gc r i j f := fun a' e => ⟨0, _, by omega, rfl, hR4, e⟩
      refine Ks.loop (fun q a wr => ∃ (j : Nat) (f : Nat → Value), j ≤ 4 ∧ q = 4 - j ∧ RAt K okF od w.heap.size w (.slice (some ⟨gb, 0, none⟩) 4 gc) K0 (0 + n) P2 ow2 (Far r i j) wr ∧ a = me3 sd sv gb gc r i j f) 4 (start _ rfl) ?_
      clear start hR4
      rintro q a w5 ⟨j, f5, hj, rfl, hR5, rfl⟩
      have finJ : ∀ (a' : Act) (w' : World) (j' : Nat), j < j' → j' ≤ 4 → RAt K okF od w.heap.size w (.slice (some ⟨gb, 0, none⟩) 4 gc) K0 (0 + n) P2 ow2 (Far r i j') w' → a' = me3 sd sv gb gc r i j' (fun j => a'.tmps.getD j undef) → ∃ q, q < 4 - j ∧ ∃ (j : Nat) (f : Nat → Value), j ≤ 4 ∧ q = 4 - j ∧ RAt K okF od w.heap.size w (.slice (some ⟨gb, 0, none⟩) 4 gc) K0 (0 + n) P2 ow2 (Far r i j) w' ∧ a' = me3 sd sv gb gc r i j f := fun a' w' j' q1 q2 q3 q4 => ⟨4 - j', by omega, j', _, q2, rfl, q3, q4⟩
      unfold me3
      refine wp_seq ?_
      refine wp_seq ?_
      refine Ks.reg ?_
      refine Ks.v (.int .i64 (j : Int)) ?_
      simp only [zD]
      refine Ks.v (.bool (decide ((j : Int) < 4))) ?_
      simp only [zD]
      refine Ks.done ?_
      refine wp_cond_split rfl ?_ ?_
      ·intro hltj
       have hltj : j < 4 := by have := of_decide_eq_true hltj; omega
       refine wp_skip ?_
       refine Ks.norm ?_
       refine Ks.cut (fun a' w' => RAt K okF od w.heap.size w (.slice (some ⟨gb, 0, none⟩) 4 gc) K0 (0 + n) P2 ow2 (Far r i (j + 1)) w' ∧ ∃ f : Nat → Value, a' = me3 sd sv gb gc r i j f) ?_ ?_
       ·have finM : ∀ (a' : Act) (w' : World), RAt K okF od w.heap.size w (.slice (some ⟨gb, 0, none⟩) 4 gc) K0 (0 + n) P2 ow2 (Far r i (j + 1)) w' → a' = me3 sd sv gb gc r i j (fun j => a'.tmps.getD j undef) → RAt K okF od w.heap.size w (.slice (some ⟨gb, 0, none⟩) 4 gc) K0 (0 + n) P2 ow2 (Far r i (j + 1)) w' ∧ ∃ f : Nat → Value, a' = me3 sd sv gb gc r i j f := fun a' w' q1 q2 => ⟨q1, _, q2⟩
        refine wp_block ?_
        refine wp_seq ?_
        refine Ks.reg ?_
        refine Ks.v (.int .i64 (i : Int)) ?_
        simp only [zD]
        refine Ks.v (.int .i64 (j : Int)) ?_
        simp only [zD]
        refine Ks.v (.bool (!decide ((i : Int) = j))) ?_
        simp only [zD]
        refine Ks.done ?_
        refine wp_cond_split rfl ?_ ?_
        ·intro hne
         have hne : i ≠ j := by
          intro e
          subst e
          simp at hne
         obtain ⟨O5, ps5, hT5, hS5, hB5⟩ := hR5
         have hl5 : ps5.length = 4 := hT5.len
         obtain ⟨p, hp⟩ : ∃ p, ps5[i]? = some p := ⟨_, List.getElem?_eq_getElem (by omega)⟩
         obtain ⟨u, hu⟩ : ∃ u, ps5[j]? = some u := ⟨_, List.getElem?_eq_getElem (by omega)⟩
         obtain ⟨hgl, z2h⟩ := hT5.cell
         refine wp_seq ?_
         refine Qg.z0p 8 (by kernel_rfl) (by kernel_rfl) ?_
         simp only [List.take_succ_cons, List.take_zero, List.drop_succ_cons, List.drop_zero]
         refine Qg.val (by kernel_rfl) (.slice (some ⟨gb, 0, none⟩) 4 gc) (fun _ _ => by kernel_rfl) ?_
         simp only [zD]
         refine Qg.val (by kernel_rfl) (.int .i64 (i : Int)) (fun _ _ => by kernel_rfl) ?_
         simp only [zD]
         refine Qg.idx (by kernel_rfl) _ _ _ rfl 62 1 Tryz.underlying57 (by kernel_rfl) (by kernel_rfl) gb 4 gc i rfl rfl hlti ?_
         simp only [zD]
         refine Qg.cell (by kernel_rfl) _ _ rfl Tryz.underlying62 rfl gb (i * 1) (.pointer (some ⟨p.1, 0, none⟩)) rfl hgl (z2h i p hlti hp) ?_
         simp only [zD]
         refine Qg.val (by kernel_rfl) (.slice (some ⟨gb, 0, none⟩) 4 gc) (fun _ _ => by kernel_rfl) ?_
         simp only [zD]
         refine Qg.val (by kernel_rfl) (.int .i64 (j : Int)) (fun _ _ => by kernel_rfl) ?_
         simp only [zD]
         refine Qg.idx (by kernel_rfl) _ _ _ rfl 62 1 Tryz.underlying57 (by kernel_rfl) (by kernel_rfl) gb 4 gc j rfl rfl hltj ?_
         simp only [zD]
         refine Qg.cell (by kernel_rfl) _ _ rfl Tryz.underlying62 rfl gb (j * 1) (.pointer (some ⟨u.1, 0, none⟩)) rfl hgl (z2h j u hltj hu) ?_
         simp only [zD]
         refine wpQuiet_nil ?_
         intro w6 hb6
         have hT6 := hT5.below hb6
         obtain ⟨hPp, hGp, _⟩ := hT6.at_ hp
         obtain ⟨hPu, hGu, _⟩ := hT6.at_ hu
         refine Ks.call rfl 26 #[.pointer (some ⟨p.1, 0, none⟩), .pointer (some ⟨u.1, 0, none⟩), .int .i64 ((1000000 : Nat) : Int)] (by kernel_rfl) (q5c hPp hPu hGp.town.inv hGu.town.inv 1000000 hT6.tin.tab (hT6.meets (w' := w6) hO hp hu 1000000).1) ?_
         rintro _ w7 ⟨rfl, hP7, hF7⟩
         obtain ⟨O7, hT7, hK7⟩ := (hT6.meets hO hp hu 1000000).2 hF7 hP7
         have hS7 := hT6.spread hO hS5 (Far.self r i j) hp hu 1000000 (by decide)
         simp only [zD]
         refine Ks.v (.bool true) ?_
         simp only [zD]
         refine Ks.done ?_
         refine wp_seq ?_
         refine Ks.reg ?_
         refine Ks.v (.bool true) ?_
         simp only [zD]
         refine Ks.v (.bool false) ?_
         simp only [zD]
         refine Ks.done ?_
         refine wp_cond_false rfl ?_
         refine wp_skip ?_
         refine finM _ w7 (RAt.mono ⟨O7, _, hT7, hS7, hB5.trans (hT5.tin.x7j ((Kept.below hb6).trans hK7))⟩ hKl fun a b ha hb h => ?_) rfl
         unfold Far at *
         omega
        ·intro hne
         have hne : i = j := by
          have : decide ((i : Int) = j) = true := by simpa using hne
          have := of_decide_eq_true this
          omega
         refine wp_skip ?_
         refine finM _ w5 (hR5.mono hKl fun a b ha hb h => ?_) rfl
         unfold Far at *
         omega
       ·rintro a' w6 ⟨hR6, f6, rfl⟩
        unfold me3
        refine Ks.reg ?_
        refine Ks.v (.int .i64 (j : Int)) ?_
        simp only [zD]
        refine Ks.val rfl (.int .i64 ((j + 1 : Nat) : Int)) (by
         simp [execOp, go_sem]
         exact IntWalk.i64_in _ ⟨by omega, by omega⟩) ?_
        simp only [zD]
        refine Ks.v (.int .i64 ((j + 1 : Nat) : Int)) ?_
        simp only [zD]
        refine Ks.done ?_
        exact finJ _ w6 (j + 1) (by omega) hltj hR6 rfl
      ·intro hltj
       have finX : ∀ a' : Act, a' = me2 sd sv gb gc r i (fun j => a'.tmps.getD j undef) → RAt K okF od w.heap.size w (.slice (some ⟨gb, 0, none⟩) 4 gc) K0 (0 + n) P2 ow2 (Far r i 4) w5 ∧ ∃ f : Nat → Value, a' = me2 sd sv gb gc r i f := fun a' e => ⟨by
        have : j = 4 := by have := of_decide_eq_false hltj; omega
        refine hR5.mono hKl fun a b ha hb h => ?_
        unfold Far at *
        omega, _, e⟩
       refine wp_exit ?_
       refine Ks.z3d ?_
       exact finX _ rfl
     ·rintro a' w5 ⟨hR5, f5, rfl⟩
      unfold me2
      refine Ks.reg ?_
      refine Ks.v (.int .i64 (i : Int)) ?_
      simp only [zD]
      refine Ks.val rfl (.int .i64 ((i + 1 : Nat) : Int)) (by
       simp [execOp, go_sem]
       exact IntWalk.i64_in _ ⟨by omega, by omega⟩) ?_
      simp only [zD]
      refine Ks.v (.int .i64 ((i + 1 : Nat) : Int)) ?_
      simp only [zD]
      refine Ks.done ?_
      refine finI _ w5 (i + 1) (by omega) hlti (hR5.mono hKl fun a b ha hb h => ?_) rfl
      unfold Far at *
      omega
    ·intro hlti
     have finX : ∀ a' : Act, a' = me1 sd sv gb gc r (fun j => a'.tmps.getD j undef) → RAt K okF od w.heap.size w (.slice (some ⟨gb, 0, none⟩) 4 gc) K0 (0 + n) P2 ow2 (Far r 4 0) w4 ∧ ∃ f : Nat → Value, a' = me1 sd sv gb gc r f := fun a' e => ⟨by
      have : i = 4 := by have := of_decide_eq_false hlti; omega
      refine hR4.mono hKl fun a b ha hb h => ?_
      unfold Far at *
      omega, _, e⟩
     refine wp_exit ?_
     refine Ks.z3d ?_
     exact finX _ rfl
   ·rintro a' w5 ⟨hR5, f5, rfl⟩
    unfold me1
    refine Ks.reg ?_
    refine Ks.v (.int .i64 (r : Int)) ?_
    simp only [zD]
    refine Ks.val rfl (.int .i64 ((r + 1 : Nat) : Int)) (by
     simp [execOp, go_sem]
     exact IntWalk.i64_in _ ⟨by omega, by omega⟩) ?_
    simp only [zD]
    refine Ks.v (.int .i64 ((r + 1 : Nat) : Int)) ?_
    simp only [zD]
    refine Ks.done ?_
    refine finR _ w5 (r + 1) (by omega) hlt (hR5.mono hKl fun a b ha hb h => ?_) rfl
    unfold Far at *
    omega
  ·intro hlt
   have finX : ∀ a' : Act, a' = me0 sd sv gb gc (fun j => a'.tmps.getD j undef) → RAt K okF od w.heap.size w (.slice (some ⟨gb, 0, none⟩) 4 gc) K0 (0 + n) P2 ow2 (fun _ _ => True) w3 ∧ ∃ f : Nat → Value, a' = me0 sd sv gb gc f := fun a' e => ⟨hR3.mono hKl fun a b ha hb _ => by
    have : r = 2 := by have := of_decide_eq_false hlt; omega
    unfold Far
    omega, _, e⟩
   refine wp_exit ?_
   refine Ks.z3d ?_
   exact finX _ rfl
 rintro a' w3 ⟨⟨O3, ps3, hT3, hS3, hBw3⟩, f3, rfl⟩
 have hl3 : ps3.length = 4 := hT3.len
 obtain ⟨p0, hp0⟩ : ∃ p, ps3[0]? = some p := ⟨_, List.getElem?_eq_getElem (by omega)⟩
 have hsame : ∀ (i : Nat) (p : Nat × St), ps3[i]? = some p → p0.2.l = p.2.l ∧ p0.2.floor = p.2.floor ∧ told p0.2 = told p.2 := fun i p hp => hT3.same hS3 (fun _ _ _ _ => trivial) hp0 hp
 clear hS3
 unfold me0
 refine Ks.cut (fun a' w' => Below w3.heap.size w3 w' ∧ ∃ f : Nat → Value, a' = me0 sd sv gb gc f) ?_ ?_
 ·refine wp_seq ?_
  refine Ks.reg ?_
  refine Ks.v (.int .i64 1) ?_
  simp only [zD]
  refine Ks.done ?_
  refine wp_block ?_
  have start : ∀ a' : Act, a' = me6 sd sv gb gc 1 (fun j => a'.tmps.getD j undef) → ∃ (i : Nat) (f : Nat → Value), 1 ≤ i ∧ i ≤ 4 ∧ 3 = 4 - i ∧ Below w3.heap.size w3 w3 ∧ a' = me6 sd sv gb gc i f := fun a' e => ⟨1, _, by omega, by omega, rfl, Below.refl _ _, e⟩
  refine Ks.loop (fun q a wr => ∃ (i : Nat) (f : Nat → Value), 1 ≤ i ∧ i ≤ 4 ∧ q = 4 - i ∧ Below w3.heap.size w3 wr ∧ a = me6 sd sv gb gc i f) 3 (start _ rfl) ?_
  clear start
  rintro q a w4 ⟨i, f4, hi1, hi, rfl, hb4, rfl⟩
  have finI : ∀ (a' : Act) (w' : World) (i' : Nat), i < i' → i' ≤ 4 → Below w3.heap.size w3 w' → a' = me6 sd sv gb gc i' (fun j => a'.tmps.getD j undef) → ∃ q, q < 4 - i ∧ ∃ (i : Nat) (f : Nat → Value), 1 ≤ i ∧ i ≤ 4 ∧ q = 4 - i ∧ Below w3.heap.size w3 w' ∧ a' = me6 sd sv gb gc i f := fun a' w' i' q1 q2 q3 q4 => ⟨4 - i', by omega, i', _, by omega, q2, rfl, q3, q4⟩
  have hT4 := hT3.below hb4
  unfold me6
  refine wp_seq ?_
  refine wp_seq ?_
  refine Ks.reg ?_
  refine Ks.v (.int .i64 (i : Int)) ?_
  simp only [zD]
  refine Ks.v (.bool (decide ((i : Int) < 4))) ?_
  simp only [zD]
  refine Ks.done ?_
  refine wp_cond_split rfl ?_ ?_
  ·intro hlt
   have hlt : i < 4 := by have := of_decide_eq_true hlt; omega
   obtain ⟨u, hu⟩ : ∃ u, ps3[i]? = some u := ⟨_, List.getElem?_eq_getElem (by omega)⟩
   obtain ⟨hgl, z2h⟩ := hT4.cell
   refine wp_skip ?_
   refine Ks.norm ?_
   refine wp_seq ?_
   refine wp_block ?_
   refine wp_seq ?_
   refine Qg.z0p 7 (by kernel_rfl) (by kernel_rfl) ?_
   simp only [List.take_succ_cons, List.take_zero, List.drop_succ_cons, List.drop_zero]
   refine Qg.val (by kernel_rfl) (.slice (some ⟨gb, 0, none⟩) 4 gc) (fun _ _ => by kernel_rfl) ?_
   simp only [zD]
   refine Qg.idx (by kernel_rfl) _ _ _ rfl 62 1 Tryz.underlying57 (by kernel_rfl) (by kernel_rfl) gb 4 gc 0 rfl rfl (by decide) ?_
   simp only [zD]
   refine Qg.cell (by kernel_rfl) _ _ rfl Tryz.underlying62 rfl gb (0 * 1) (.pointer (some ⟨p0.1, 0, none⟩)) rfl hgl (z2h 0 p0 (by decide) hp0) ?_
   simp only [zD]
   refine Qg.val (by kernel_rfl) (.slice (some ⟨gb, 0, none⟩) 4 gc) (fun _ _ => by kernel_rfl) ?_
   simp only [zD]
   refine Qg.val (by kernel_rfl) (.int .i64 (i : Int)) (fun _ _ => by kernel_rfl) ?_
   simp only [zD]
   refine Qg.idx (by kernel_rfl) _ _ _ rfl 62 1 Tryz.underlying57 (by kernel_rfl) (by kernel_rfl) gb 4 gc i rfl rfl hlt ?_
   simp only [zD]
   refine Qg.cell (by kernel_rfl) _ _ rfl Tryz.underlying62 rfl gb (i * 1) (.pointer (some ⟨u.1, 0, none⟩)) rfl hgl (z2h i u hlt hu) ?_
   simp only [zD]
   refine wpQuiet_nil ?_
   intro w6 hb6
   have hT6 := hT4.below hb6
   obtain ⟨hPp, hGp, _⟩ := hT6.at_ hp0
   obtain ⟨hPu, hGu, _⟩ := hT6.at_ hu
   obtain ⟨e1, e2, e3⟩ := hsame i u hu
   refine Ks.call rfl 27 #[.pointer (some ⟨p0.1, 0, none⟩), .pointer (some ⟨u.1, 0, none⟩)] (by kernel_rfl) (q9x hPp hPu hGp.town.inv hGu.town.inv e1 e2 e3) ?_
   rintro _ w7 ⟨rfl, hb7⟩
   have hb67 : Below w3.heap.size w3 w7 := (hb4.trans (Below.mono hb6 hb4.size)).trans (hb7.mono (Nat.le_trans hb4.size (Below.size hb6)))
   simp only [zD]
   refine Ks.v (.bool true) ?_
   simp only [zD]
   refine Ks.done ?_
   refine wp_seq ?_
   refine Ks.reg ?_
   refine Ks.v (.bool true) ?_
   simp only [zD]
   refine Ks.v (.bool false) ?_
   simp only [zD]
   refine Ks.done ?_
   refine wp_cond_false rfl ?_
   refine wp_skip ?_
   refine Ks.inb ?_
   refine Ks.reg ?_
   refine Ks.v (.int .i64 (i : Int)) ?_
   simp only [zD]
   refine Ks.val rfl (.int .i64 ((i + 1 : Nat) : Int)) (by
    simp [execOp, go_sem]
    exact IntWalk.i64_in _ ⟨by omega, by omega⟩) ?_
   simp only [zD]
   refine Ks.v (.int .i64 ((i + 1 : Nat) : Int)) ?_
   simp only [zD]
   refine Ks.done ?_
   exact finI _ w7 (i + 1) (by omega) hlt hb67 rfl
  ·intro hlt
   have finX : ∀ a' : Act, a' = me0 sd sv gb gc (fun j => a'.tmps.getD j undef) → Below w3.heap.size w3 w4 ∧ ∃ f : Nat → Value, a' = me0 sd sv gb gc f := fun a' e => ⟨hb4, _, e⟩
   refine wp_exit ?_
   refine Ks.z3d ?_
   exact finX _ rfl
 rintro a' w4 ⟨hb4, f4, rfl⟩
 have hT4 := hT3.below hb4
 have hBw4 : Below w.heap.size w w4 := hBw3.trans (hb4.mono hT3.tin.wN)
 clear hT3 hb4
 obtain ⟨hgl, z2h⟩ := hT4.cell
 unfold me0
 refine wp_seq ?_
 refine Ks.reg ?_
 refine Ks.v (.slice (some ⟨gb, 0, none⟩) 4 gc) ?_
 simp only [zD]
 refine Ks.idx (by kernel_rfl) _ _ _ rfl 62 1 Tryz.underlying57 (by kernel_rfl) (by kernel_rfl) gb 4 gc 0 rfl rfl (by decide) ?_
 simp only [zD]
 refine Ks.cell rfl _ _ rfl Tryz.underlying62 rfl gb (0 * 1) (.pointer (some ⟨p0.1, 0, none⟩)) rfl (z2h 0 p0 (by decide) hp0) ?_
 simp only [zD]
 refine Ks.v (.agg #[.int .i64 0, .slice none 0 0]) ?_
 simp only [zD]
 obtain ⟨hP0, hG0, _⟩ := hT4.at_ hp0
 refine Ks.call rfl 28 #[.pointer (some ⟨p0.1, 0, none⟩), .agg #[.int .i64 0, .slice none 0 0], .int .i64 1000000] (by kernel_rfl) (y4n hP0 hG0.town.inv) ?_
 rintro _ w5 ⟨⟨hv, rfl, hrow⟩, hb5⟩
 have hone : hv.oneCell' = true := Row.one hrow
 generalize told p0.2 = tl
 simp only [zD]
 refine Ks.v (.tuple #[.agg #[str tl, hv], .int .i64 0]) ?_
 simp only [zD]
 refine Ks.v (.agg #[str tl, hv]) ?_
 simp only [zD]
 refine Ks.v (.int .i64 0) ?_
 simp only [zD]
 refine Ks.alloc rfl _ rfl (.agg #[.string ⟨#[]⟩, .slice none 0 0]) (by kernel_rfl) #[.string ⟨#[]⟩, .slice none 0 0] rfl ?_
 intro w6 b Hb HX6 HB6 HS6
 simp only [zD]
 refine Ks.whole rfl _ _ _ rfl b #[str tl, hv] rfl rfl HX6.out (by kernel_rfl) rfl (by
  simp [Value.oneCell'] at hone ⊢
  exact ⟨rfl, hone⟩) ?_
 intro w7 HR7 HF7 HO7 HS7
 have hb67 : Below w5.heap.size w5 w7 := HB6.out.trans ((HF7.out (fun _ => False) w5.heap.size (Or.inr (Nat.le_of_eq Hb.out.symm))).below (Nat.le_refl _) fun _ _ h => h)
 have hb47 : Below w4.heap.size w4 w7 := hb5.trans (hb67.mono hb5.size)
 have hT7 := hT4.below hb47
 have hBw7 : Below w.heap.size w w7 := hBw4.trans (hb47.mono hT4.tin.wN)
 have hbw : w4.heap.size ≤ b := by rw [Hb.out]; exact hb5.size
 have hfree : ∀ c, w4.heap.size ≤ c → y6q O3 c := fun c hc i hi => by have := (hT4.tin.lt c i hi).2; omega
 have hrow7 : Row (fun c => w.heap.size ≤ c ∧ y6q O3 c) w7 73 5 hv p0.2.l.length (itL p0.2.l) := (hrow.below hb67 (Nat.le_refl _)).mono fun c hc => ⟨Nat.le_trans hT4.tin.wN hc, hfree c hc⟩
 clear hrow hb67 HX6 HB6 HS6 HF7 HO7 HS7 Hb hone
 simp only [Act.put]
 refine Ks.v (.int .i64 0) ?_
 simp only [zD]
 refine Ks.done ?_
 refine wp_seq ?_
 refine wp_seq ?_
 refine Ks.reg ?_
 refine Ks.v (.int .i64 0) ?_
 simp only [zD]
 refine Ks.v (.bool false) ?_
 simp only [zD]
 refine Ks.done ?_
 refine wp_cond_false rfl ?_
 refine wp_skip ?_
 refine Ks.norm ?_
 have hbl := (Array.getElem?_eq_some_iff.1 HR7.out).1
 have hfb := hfree b hbw
 have hfew := hG0.town.inv.few
 obtain ⟨pa, ca, rfl, _⟩ := Row.form hrow7
 obtain ⟨sl, hsl⟩ : ∃ sl, sl = z1i sd := ⟨_, rfl⟩
 have hsll := z4g sd
 rw [← hsl] at hk hsll
 have Hseed : ∀ w, Calls Tryz.prog 29 #[str sd] w fun e w' => e = .returned (str sl) ∧ Below w.heap.size w w' := fun w => by rw [hsl]; exact y7g sd w
 clear z2h hgl hP0 hT4 hb47 hfree hb5 hbw
 refine Ks.cut (fun a' w' => Below w.heap.size w w' ∧ ∃ f : Nat → Value, a' = me0 sd sv gb gc f) ?_ ?_
 ·refine wp_seq ?_
  refine Ks.reg ?_
  refine Ks.v (.int .i64 0) ?_
  simp only [zD]
  refine Ks.done ?_
  refine wp_block ?_
  have start : ∀ a' : Act, a' = me8 sd sv gb gc b 0 (fun j => a'.tmps.getD j undef) → ∃ (i : Nat) (f : Nat → Value) (O' : Nat → Nat → Prop), i ≤ p0.2.l.length ∧ p0.2.l.length = p0.2.l.length - i ∧ z0t K okF od x3i w.heap.size w7 (.slice (some ⟨gb, 0, none⟩) 4 gc) O' ps3 (0 + n) P2 ow2 ∧ Kept O3 w7 O' w7 ∧ a' = me8 sd sv gb gc b i f := fun a' e => ⟨0, _, O3, by omega, rfl, hT7, Kept.refl _ _, e⟩
  refine Ks.loop (fun q a wr => ∃ (i : Nat) (f : Nat → Value) (O' : Nat → Nat → Prop), i ≤ p0.2.l.length ∧ q = p0.2.l.length - i ∧ z0t K okF od x3i w.heap.size wr (.slice (some ⟨gb, 0, none⟩) 4 gc) O' ps3 (0 + n) P2 ow2 ∧ Kept O3 w7 O' wr ∧ a = me8 sd sv gb gc b i f) p0.2.l.length (start _ rfl) ?_
  clear start
  rintro q a w8 ⟨i, f8, O8, hi, rfl, hT8, hK8, rfl⟩
  have fin : ∀ (a' : Act) (w' : World) (i' : Nat) (O' : Nat → Nat → Prop), i < i' → i' ≤ p0.2.l.length → z0t K okF od x3i w.heap.size w' (.slice (some ⟨gb, 0, none⟩) 4 gc) O' ps3 (0 + n) P2 ow2 → Kept O3 w7 O' w' → a' = me8 sd sv gb gc b i' (fun j => a'.tmps.getD j undef) → ∃ q, q < p0.2.l.length - i ∧ ∃ (i : Nat) (f : Nat → Value) (O' : Nat → Nat → Prop), i ≤ p0.2.l.length ∧ q = p0.2.l.length - i ∧ z0t K okF od x3i w.heap.size w' (.slice (some ⟨gb, 0, none⟩) 4 gc) O' ps3 (0 + n) P2 ow2 ∧ Kept O3 w7 O' w' ∧ a' = me8 sd sv gb gc b i f := fun a' w' i' O' q1 q2 q3 q4 q5 => ⟨p0.2.l.length - i', by omega, i', _, O', q2, rfl, q3, q4, q5⟩
  have HR8 : Hid (w8.heap[b]? = some (.cells #[str tl, .slice pa p0.2.l.length ca] 66 (0, 0))) := (hK8.free b hbl hfb).2.trans HR7.out
  have hrow8 := hK8.row hrow7
  unfold me8
  refine wp_seq ?_
  refine wp_seq ?_
  refine Ks.reg ?_
  refine Ks.v (.int .i64 (i : Int)) ?_
  simp only [zD]
  refine Ks.v (.pointer (some ⟨b, 1, none⟩)) ?_
  simp only [zD]
  refine Ks.cell rfl _ _ rfl Tryz.underlying64 rfl b 1 (.slice pa p0.2.l.length ca) rfl (z0b HR8.out 1 rfl) ?_
  simp only [zD]
  refine Ks.v (.int .i64 (p0.2.l.length : Int)) ?_
  simp only [zD]
  refine Ks.v (.bool (decide ((i : Int) < p0.2.l.length))) ?_
  simp only [zD]
  refine Ks.done ?_
  refine wp_cond_split rfl ?_ ?_
  ·intro hlt
   have hlt : i < p0.2.l.length := by have := of_decide_eq_true hlt; omega
   obtain ⟨x, hx⟩ : ∃ x, p0.2.l[i]? = some x := ⟨_, List.getElem?_eq_getElem hlt⟩
   refine wp_skip ?_
   refine Ks.norm ?_
   refine Ks.cut (fun a' w' => ∃ (O' : Nat → Nat → Prop) (f : Nat → Value), z0t K okF od x3i w.heap.size w' (.slice (some ⟨gb, 0, none⟩) 4 gc) O' ps3 (0 + n) P2 ow2 ∧ Kept O3 w7 O' w' ∧ a' = me8 sd sv gb gc b i f) ?_ ?_
   ·have finM : ∀ (a' : Act) (w' : World) (O' : Nat → Nat → Prop), z0t K okF od x3i w.heap.size w' (.slice (some ⟨gb, 0, none⟩) 4 gc) O' ps3 (0 + n) P2 ow2 → Kept O3 w7 O' w' → a' = me8 sd sv gb gc b i (fun j => a'.tmps.getD j undef) → ∃ (O' : Nat → Nat → Prop) (f : Nat → Value), z0t K okF od x3i w.heap.size w' (.slice (some ⟨gb, 0, none⟩) 4 gc) O' ps3 (0 + n) P2 ow2 ∧ Kept O3 w7 O' w' ∧ a' = me8 sd sv gb gc b i f := fun a' w' O' q1 q2 q3 => ⟨O', _, q1, q2, q3⟩
    obtain ⟨pa', ca', epa, hcell8⟩ := Row.form hrow8
    injection epa with epa1 epa2 epa3
    subst epa1 epa3
    obtain ⟨ga, cura, rfl, hga, hta⟩ := hcell8 i hlt
    have hra : w8.rangeAt ga (i * 5) (itC x) := Row.range z5m hga hta hx
    refine wp_block ?_
    refine wp_seq ?_
    refine Ks.reg ?_
    refine Ks.v (.pointer (some ⟨b, 1, none⟩)) ?_
    simp only [zD]
    refine Ks.cell rfl _ _ rfl Tryz.underlying64 rfl b 1 (.slice (some ⟨ga, 0, none⟩) p0.2.l.length ca) rfl (z0b HR8.out 1 rfl) ?_
    simp only [zD]
    refine Ks.v (.int .i64 (i : Int)) ?_
    simp only [zD]
    refine Ks.idx (by kernel_rfl) _ _ _ rfl 73 5 Tryz.underlying64 (by kernel_rfl) (by kernel_rfl) ga p0.2.l.length ca i rfl rfl hlt ?_
    simp only [zD]
    refine Ks.mid rfl _ _ rfl ga (i * 5) rfl (itC x) hra Tryz.underlying73 rfl (by kernel_rfl) ?_
    simp only [zD]
    refine Ks.alloc rfl _ rfl (.agg #[.int .i64 0, .int .i64 0, .int .i64 0, .int .i64 0, .bool false]) (by kernel_rfl) #[.int .i64 0, .int .i64 0, .int .i64 0, .int .i64 0, .bool false] rfl ?_
    intro w9 b17 Hb17 HX9 HB9 HS9
    simp only [zD]
    refine Ks.whole rfl _ _ _ rfl b17 (itC x).toArray rfl rfl HX9.out (by kernel_rfl) rfl (by kernel_rfl) ?_
    intro w10 HR10 HF10 HO10 HS10
    have hb10 : Below w8.heap.size w8 w10 := HB9.out.trans ((HF10.out (fun _ => False) w8.heap.size (Or.inr (Nat.le_of_eq Hb17.out.symm))).below (Nat.le_refl _) fun _ _ h => h)
    have hT10 := hT8.below hb10
    have hK10 := hK8.trans (Kept.below hb10)
    clear HX9 HB9 HS9 HF10 HO10 HS10 Hb17 hb10 hra hta hga hcell8 HR8 hT8 hK8
    simp only [Act.put]
    refine Ks.done ?_
    refine wp_seq ?_
    refine wp_seq ?_
    refine Ks.reg ?_
    refine Ks.v (.pointer (some ⟨b17, 4, none⟩)) ?_
    simp only [zD]
    refine Ks.cell rfl _ _ rfl Tryz.underlying4 rfl b17 4 (.bool x.gone) rfl (z0b HR10.out 4 rfl) ?_
    simp only [zD]
    refine Ks.done ?_
    cases hg : x.gone with
    | true =>
     refine wp_cond_true rfl ?_
     refine wp_exit ?_
     refine Ks.k2n ?_
     exact finM _ w10 O8 hT10 hK10 rfl
    | false =>
     refine wp_cond_false rfl ?_
     refine wp_skip ?_
     refine Ks.norm ?_
     have hxm := List.mem_of_getElem? hx
     have hfx := hG0.town.inv.fair x hxm
     have hfe := hfx.epoch
     have hfs := hfx.serial
     have hans : q7t sl x.epoch x.serial 7 = (⟨(tick sl x.epoch.toNat x.serial.toNat 7).toArray⟩, 0) := by
      have := x1d hsll (e := x.epoch.toNat) (s := x.serial.toNat) (c := 7) (by omega) (by omega) (by omega)
      rwa [Int.toNat_of_nonneg hfe.1, Int.toNat_of_nonneg hfs.1] at this
     have hused : ∀ (i : Nat) (u : Nat × St), ps3[i]? = some u → y7r u.2 (tick sl x.epoch.toNat x.serial.toNat 7) = (7, u.2) := fun i u hu => by
      obtain ⟨_, hGu, _⟩ := hT10.at_ hu
      exact used hk hGu.town.inv hGu.key (by rw [← (hsame i u hu).1]; exact hxm) hg 7
     have Htk := y9w sl x.epoch x.serial 7
     rw [hans] at Htk
     clear hans
     generalize tick sl x.epoch.toNat x.serial.toNat 7 = T at hused Htk
     have hb17l := (Array.getElem?_eq_some_iff.1 HR10.out).1
     refine wp_seq ?_
     refine Qt.z0r (by kernel_rfl) (by kernel_rfl) ?_
     refine Qg.val (by kernel_rfl) (str sd) (fun _ _ => by kernel_rfl) ?_
     simp only [zD]
     refine Qg.call (by kernel_rfl) 29 #[str sd] (str sl) (fun _ => by kernel_rfl) (fun w' hb => Hseed w') ?_
     simp only [zD]
     refine Qg.val (by kernel_rfl) (.pointer (some ⟨b17, 2, none⟩)) (fun _ _ => by kernel_rfl) ?_
     simp only [zD]
     refine Qg.cell (by kernel_rfl) _ _ rfl Tryz.underlying3 rfl b17 2 (.int .i64 x.epoch) rfl hb17l (z0b HR10.out 2 rfl) ?_
     simp only [zD]
     refine Qg.val (by kernel_rfl) (.pointer (some ⟨b17, 3, none⟩)) (fun _ _ => by kernel_rfl) ?_
     simp only [zD]
     refine Qg.cell (by kernel_rfl) _ _ rfl Tryz.underlying3 rfl b17 3 (.int .i64 x.serial) rfl hb17l (z0b HR10.out 3 rfl) ?_
     simp only [zD]
     refine Qg.val (by kernel_rfl) (.agg (tk x.epoch x.serial 7)) (fun _ _ => by kernel_rfl) ?_
     simp only [zD]
     refine Qg.call (by kernel_rfl) 18 #[str sl, .agg (tk x.epoch x.serial 7)] (.tuple #[str T, .int .i64 0]) (fun _ => by kernel_rfl) (fun w' hb => Htk w' (hT10.below hb).tin.tab) ?_
     simp only [zD]
     refine Qg.val (by kernel_rfl) (.tuple #[str T, .int .i64 0]) (fun _ _ => by kernel_rfl) ?_
     simp only [zD]
     refine Qg.val (by kernel_rfl) (str T) (fun _ _ => by kernel_rfl) ?_
     simp only [zD]
     refine Qg.val (by kernel_rfl) (.int .i64 0) (fun _ _ => by kernel_rfl) ?_
     simp only [zD]
     refine Qg.val (by kernel_rfl) (str T) (fun _ _ => by kernel_rfl) ?_
     simp only [zD]
     refine Qg.val (by kernel_rfl) (.int .i64 0) (fun _ _ => by kernel_rfl) ?_
     simp only [zD]
     refine wpQuiet_nil ?_
     intro w12 hb12
     refine Ks.norm ?_
     have hT12 := hT10.below hb12
     have hK12 := hK10.trans (Kept.below hb12)
     clear hT10 hK10 hb12
     refine wp_seq ?_
     refine Ks.reg ?_
     refine Ks.v (.slice (some ⟨gb, 0, none⟩) 4 gc) ?_
     simp only [zD]
     refine Ks.v (.int .i64 (i : Int)) ?_
     simp only [zD]
     refine Ks.call rfl 30 #[.int .i64 (i : Int), .int .i64 (4 : Nat)] (by kernel_rfl) (y6z (i : Int) ⟨by omega, by omega⟩ 4 (by decide) (by decide) w12) ?_
     rintro _ w12 ⟨rfl, rfl⟩
     have hgi := y9b (i : Int) (n := 4) (by decide)
     generalize pk (i : Int) 4 = gi at hgi
     obtain ⟨u, hu⟩ : ∃ u, ps3[gi]? = some u := ⟨_, List.getElem?_eq_getElem (by omega)⟩
     obtain ⟨hgl, z2h⟩ := hT12.cell
     obtain ⟨hPu, hGu, hsu⟩ := hT12.at_ hu
     simp only [zD]
     refine Ks.idx (by kernel_rfl) _ _ _ rfl 62 1 Tryz.underlying57 (by kernel_rfl) (by kernel_rfl) gb 4 gc gi rfl rfl hgi ?_
     simp only [zD]
     refine Ks.cell rfl _ _ rfl Tryz.underlying62 rfl gb (gi * 1) (.pointer (some ⟨u.1, 0, none⟩)) rfl (z2h gi u hgi hu) ?_
     simp only [zD]
     refine Ks.v (str T) ?_
     simp only [zD]
     have hAd := x6u hPu hGu.town.inv T hT12.tin.tab
     rw [hused gi u hu] at hAd
     refine Ks.call rfl 31 #[.pointer (some ⟨u.1, 0, none⟩), str T] (by kernel_rfl) (R := fun v w' => v = .int .i64 7 ∧ z0h (fun c => O8 c gi ∨ w12.heap.size ≤ c) w' u.1 u.2 ∧ Fr (fun c => O8 c gi) w12.heap.size w12 w') (hAd.mono fun e w' hx => ⟨_, hx.1, rfl, hx.2⟩) ?_
     rintro _ w13 ⟨rfl, hP13, hF13⟩
     have hset : (ps3.map Prod.snd).set gi u.2 = ps3.map Prod.snd := by
      apply List.ext_getElem?
      intro j
      rw [List.getElem?_set]
      split
      ·rename_i e
       subst e
       split
       ·exact hsu.symm
       ·rename_i hlt'
        exact absurd (List.getElem?_eq_some_iff.1 hsu).1 hlt'
      ·rfl
     have hset2 : ps3.set gi (u.1, u.2) = ps3 := by
      apply List.ext_getElem?
      intro j
      rw [List.getElem?_set]
      split
      ·rename_i e
       subst e
       split
       ·exact hu.symm
       ·rename_i hlt'
        exact absurd (List.getElem?_eq_some_iff.1 hu).1 hlt'
      ·rfl
     obtain ⟨O13, hT13, hK13⟩ := hT12.turn hu hF13 hP13 (by rw [hset]; exact hT12.gts)
     rw [hset2] at hT13
     have hK13' := hK12.trans hK13
     simp only [zD]
     refine Ks.v (.int .i64 7) ?_
     simp only [zD]
     refine Ks.done ?_
     refine wp_seq ?_
     refine Ks.reg ?_
     refine Ks.v (.int .i64 0) ?_
     simp only [zD]
     refine Ks.v (.bool false) ?_
     simp only [zD]
     refine Ks.v (.bool false) ?_
     simp only [zD]
     refine Ks.g (.int .i64 7) ?_
     simp only [zD]
     refine Ks.g (.bool false) ?_
     simp only [zD]
     refine Ks.v (.bool false) ?_
     simp only [zD]
     refine Ks.done ?_
     refine wp_cond_false rfl ?_
     refine wp_skip ?_
     exact finM _ w13 O13 hT13 hK13' rfl
   ·rintro a' w9 ⟨O9, f9, hT9, hK9, rfl⟩
    unfold me8
    refine Ks.reg ?_
    refine Ks.v (.int .i64 (i : Int)) ?_
    simp only [zD]
    refine Ks.val rfl (.int .i64 ((i + 1 : Nat) : Int)) (by
     simp [execOp, go_sem]
     exact IntWalk.i64_in _ ⟨by omega, by omega⟩) ?_
    simp only [zD]
    refine Ks.v (.int .i64 ((i + 1 : Nat) : Int)) ?_
    simp only [zD]
    refine Ks.done ?_
    exact fin _ w9 (i + 1) O9 (by omega) hlt hT9 hK9 rfl
  ·intro hlt
   have finX : ∀ a' : Act, a' = me0 sd sv gb gc (fun j => a'.tmps.getD j undef) → Below w.heap.size w w8 ∧ ∃ f : Nat → Value, a' = me0 sd sv gb gc f := fun a' e => ⟨hBw7.trans (hT7.tin.x7j hK8), _, e⟩
   refine wp_exit ?_
   refine Ks.z3d ?_
   exact finX _ rfl
 rintro a' w8 ⟨hBw8, f8, rfl⟩
 unfold me0
 refine wp_seq ?_
 refine Ks.reg ?_
 refine Ks.v (.bool true) ?_
 simp only [zD]
 refine Ks.done ?_
 refine wp_ret ?_
 repeat (refine Ks.ret ?_)
 refine bodyPost_ret (v := .bool true) (by simp [results, Tryz.results7]) rfl ?_
 exact ⟨rfl, hBw8⟩
end Tn
end Go.Proofs.YtbojijefenfbgaaGreatDoor
namespace Go.Proofs.YtbojijefenfbgaaGreatDoor.GatesP
open Go.ChangeShapes Go.WideShapes Go.ChangeAt Go.RowKit
theorem leaves {P : Program} {last : Machine} {w : World} {t : Trace} (h : aloneAtReturn P last w t) : leavingAtReturn P last w t := by
 obtain ⟨⟨h1, h2⟩, h3, h4⟩ := h
 refine ⟨h3, ⟨fun g hg => ⟨0, ?_⟩, h2⟩, h4⟩
 have := List.all_eq_true.1 h1 g hg
 show g.status = .finished
 exact eq_of_beq this
theorem q2v {p : Pinned} {s : OpenSpec} {c : OpenClaim} (hl : c.leaving = true) (ha : c.again = false) (hstart : c.start = .entering) (hst : c.stops = []) (h : ({ c with leaving := false } : OpenClaim).holds p s) : c.holds p s := by
 unfold OpenClaim.holds at h ⊢
 obtain ⟨a1, a2, a3, a4, a5, a6, a7, a8, f, fn, g1, g2, r, b1, b2, b3, b4, b5, k, c1, c2, c3, c4, c5, c6, m, l, q, n1, v1, e1, L, hL, all⟩ := h
 refine ⟨?_, a2, a3, a4, a5, a6, a7, a8, f, fn, g1, g2, r, b1, b2, b3, b4, b5, k, c1, c2, c3, c4, c5, c6, m, l, q, n1, v1, e1, L, hL, fun os x y H enc inj => ?_⟩
 ·cases c
  simp only at hl ha
  subst hl ha
  exact a1
 ·have A := all os x y H enc inj
  unfold OpenClaim.form at A ⊢
  simp only [hstart, hst] at A ⊢
  intro F
  obtain ⟨q1, q2, q3, q4, q5⟩ := A F
  refine ⟨q1, q2, q3, q4, fun w tape i hf => ?_⟩
  obtain ⟨n, v, w', d1, d2, d3, d4, ⟨j, last, d5, d6, d7⟩, d8⟩ := q5 w tape i hf
  refine ⟨n, v, w', d1, d2, d3, d4, ⟨j, last, d5, d6, ?_⟩, d8⟩
  unfold OpenClaim.atReturn at d7 ⊢
  rw [hl]
  exact leaves d7
theorem own : ownKnob Tryz.prog.godebug = none := by kernel_rfl
theorem laidOut : laidOutB Tryz.prog = true := by kernel_rfl
theorem k9w : Tryz.prog.globalNamed "postern/hash.roundWords" = some 0 := by kernel_rfl
theorem q4l : (Tryz.prog.globals[0]?).map (·.type) = some 179 := by kernel_rfl
theorem q0z : Tryz.prog.cellsOf 179 = 80 := by kernel_rfl
theorem k2o : Tryz.prog.cellsOf 159 = 1 := by kernel_rfl
def x4u : List Int := Sha.K.map un
theorem q9n : (Rows.laid_postern_hash_roundWords : DataW Unit) = Lib.tabData .u64 x4u := by kernel_rfl
theorem table {W : World} (h : laidMetH Tryz.prog Rows.gatesRow.laid W) : Hs.z0j W := by
 have h1 : laidMetH Tryz.prog [("postern/hash.roundWords", Rows.laid_postern_hash_roundWords)] W := h
 rw [q9n] at h1
 have ht : Lib.TabIs Tryz.prog W "postern/hash.roundWords" .u64 x4u := Lib.tabIs_of_head (rest := []) k9w q4l Tryz.underlying179 Tryz.underlying159 k2o q0z h1
 intro k hk
 have hk' : k < x4u.length := by unfold x4u; rw [List.length_map, Sha.q3a]; exact hk
 have hc := ht.cell k9w k hk'
 rw [hc]
 unfold x4u Sha.kAt
 simp [List.getElem_map, show k < Sha.K.length from hk]
theorem x9x {H : Type} (d : DataW H) : 1 ≤ Rows.uptoBulk d := by
 cases d with
 | lit l => cases l <;> simp [Rows.uptoBulk]
 | _ => simp [Rows.uptoBulk]
theorem q2f {H : Type} (l : List (DataW H)) : l.length ≤ Rows.uptoBulkAll l := by
 induction l with
 | nil => simp
 | cons d r ih =>
  have := x9x d
  simp only [List.length_cons, Rows.uptoBulkAll]
  omega
theorem collect {α : Type} {Q : Nat → α → Prop} : ∀ (n : Nat), (∀ i, i < n → ∃ a, Q i a) → ∃ l : List α, l.length = n ∧ ∀ (i : Nat) (a : α), l[i]? = some a → Q i a
 | 0, _ => ⟨[], rfl, fun i a h => by simp at h⟩
 | n + 1, h => by
  obtain ⟨l, hl, hq⟩ := collect n fun i hi => h i (by omega)
  obtain ⟨a, ha⟩ := h n (by omega)
  refine ⟨l ++ [a], by simp [hl], fun i b hb => ?_⟩
  by_cases hi : i < n
  ·rw [List.getElem?_append_left (by omega)] at hb
   exact hq i b hb
  ·have hlt := (List.getElem?_eq_some_iff.1 hb).1
   simp [hl] at hlt
   obtain rfl : i = n := by omega
   rw [List.getElem?_append_right (by omega), hl, Nat.sub_self] at hb
   simp at hb
   rw [← hb]
   exact ha
theorem k5p : Tryz.prog.cellsOf 3 = 1 := by kernel_rfl
theorem x5t {w : World} {base : Nat} {a : Addr} {n : Nat} {cs : List Value} (h : w.cells? base a n = some cs) : cs.length = n ∧ ∀ (j : Nat) (v : Value), cs[j]? = some v → w.cell? (a.add j) = some v := by
 unfold World.cells? at h
 split at h
 ·have hl := mapM_some_length h
  simp at hl
  refine ⟨hl, fun j v hv => ?_⟩
  have hj : j < n := by rw [← hl]; exact (List.getElem?_eq_some_iff.1 hv).1
  have := mapM_some_get h j j (by simp [hj])
  rw [this, hv]
 ·cases h
noncomputable def y1s (os : Os) : World :=
 { World.holding Tryz.prog os ⟨#[], #[], []⟩ with heap := (World.holding Tryz.prog os ⟨#[], #[], []⟩).heap.modify 0 fun
   | .cells _ t frozen => .cells (Own.z0g 80 k8w) t frozen
   | o => o }
end Go.Proofs.YtbojijefenfbgaaGreatDoor.GatesP

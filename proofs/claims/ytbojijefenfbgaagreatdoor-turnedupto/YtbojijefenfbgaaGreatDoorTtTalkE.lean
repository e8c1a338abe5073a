/- Walks of the program's gate: Digest; of its talk: is it a digest? Walks of the program's talk: is it a digest? Walk of the program's talk: IsDigest. Walks: slices.BinarySearch of whole numbers; of the program's talk: Has. Walks of the program's book and talk: Pass, Item. -/
import Derived.Test.YtbojijefenfbgaaGreatDoorTtQMore
set_option maxRecDepth 100000
namespace Go.Proofs.YtbojijefenfbgaaGreatDoor
open Go Go.RowKit
namespace Gt
open Mp Bk Tk
theorem z1e.other {S : Nat → Prop} {w w' : World} {v : Value} {l : List (Sn × Value)} (h : z1e S w v l) {b : Nat} {cs : Array Value} {t : TypeId} {fr : Nat × Nat} (hb : w.heap[b]? = some (.cells cs t fr)) (h1 : 213 ≠ t) (h2 : 3 ≠ t) (hw : ∀ k, k ≠ b → w'.heap[k]? = w.heap[k]?) : z1e S w' v l :=
 ⟨Row.other h.row (z2e h.row hb h1) hw, fun p hp => Row.other (h.more p hp) (z2e (h.more p hp) hb h2) hw, h.apart⟩
theorem y6k {S : Nat → Prop} {w : World} {g : Nat} {s : St} (h : z0h S w g s) (hI : Inv s) : Calls Tryz.prog 36 #[.pointer (some ⟨g, 0, none⟩)] w fun e w' => ∃ u, e = .returned u ∧ (∃ sv l, u = .agg #[.int .i64 s.floor, sv] ∧ l.map Prod.fst = z5w s.keys ∧ z1e (fun k => w.heap.size ≤ k) w' sv l) ∧ Below w.heap.size w w' := by
 go_enter Tryz.func36, Tryz.ntmps36
 refine wp_seq ?_
 refine Ks.reg ?_
 refine Ks.alloc rfl _ rfl (.agg #[.int .i64 0, .slice none 0 0]) y8l #[.int .i64 0, .slice none 0 0] rfl ?_
 intro w1 b Hb HX1 HB1 HS1
 have HP1 : Hid (z0h S w1 g s) := h.below HB1.out
 have hbw : w.heap.size ≤ b := Nat.le_of_eq Hb.out.symm
 simp only [zD]
 refine Ks.done ?_
 refine wp_seq ?_
 refine wp_seq ?_
 refine Ks.reg ?_
 refine Ks.v (.pointer (some ⟨g, 0, none⟩)) ?_
 simp only [zD]
 refine Ks.v (.bool false) ?_
 simp only [zD]
 refine Ks.done ?_
 refine wp_cond_false rfl ?_
 refine wp_skip ?_
 refine Ks.norm ?_
 refine wp_seq ?_
 refine Qg.z0q 7 (by kernel_rfl) (by kernel_rfl) ?_
 simp only [List.take_succ_cons, List.take_zero, List.drop_succ_cons, List.drop_zero]
 refine Qg.val (by kernel_rfl) (.pointer (some ⟨g, 0, none⟩)) (fun _ _ => by kernel_rfl) ?_
 simp only [zD]
 refine Qg.val (by kernel_rfl) (.pointer (some ⟨g, 0, none⟩)) (fun _ _ => by kernel_rfl) ?_
 simp only [zD]
 refine Qg.val (by kernel_rfl) (.pointer (some ⟨g, 3, none⟩)) (fun _ _ => by kernel_rfl) ?_
 simp only [zD]
 refine Qg.call (by kernel_rfl) 75 #[.pointer (some ⟨g, 3, none⟩)] (.int .i64 s.floor) (fun _ => by kernel_rfl) (fun w' hb => z8p (HP1.out.below hb)) ?_
 simp only [zD]
 refine Qg.val (by kernel_rfl) (.pointer (some ⟨g, 0, none⟩)) (fun _ _ => by kernel_rfl) ?_
 simp only [zD]
 refine Qg.val (by kernel_rfl) (.pointer (some ⟨g, 0, none⟩)) (fun _ _ => by kernel_rfl) ?_
 simp only [zD]
 refine Qg.val (by kernel_rfl) (.pointer (some ⟨g, 3, none⟩)) (fun _ _ => by kernel_rfl) ?_
 simp only [zD]
 refine wpQuiet_nil ?_
 intro w2 hb2
 have HP2 : Hid (z0h S w2 g s) := HP1.out.below hb2
 have HX2 : Hid (w2.heap[b]? = _) := (Below.block hb2 _ (aL HX1.out)).trans HX1.out
 have HB2 : Hid (Below w.heap.size w w2) := HB1.out.trans (Below.mono hb2 HB1.out.size)
 clear hb2 HP1 HX1 HB1 HS1
 refine Ks.call rfl 88 #[.pointer (some ⟨g, 3, none⟩)] (by kernel_rfl) (z9c HP2.out hI) ?_
 rintro v w3 ⟨hrow, hb3⟩
 simp only [zD]
 have hrow' : Row (fun k => w2.heap.size ≤ k) w3 154 2 v (s.l.map It.key).length ((s.l.map It.key).flatMap kC) := by rw [List.length_map]; exact hrow
 refine Ks.call rfl 87 #[.int .i64 s.floor, v] (by kernel_rfl) (q1m w3 v (s.l.map It.key) s.floor hrow' (fun k hk => (hI.x1e k hk).2) (by rw [List.length_map]; exact hI.few)) ?_
 rintro _ w4 ⟨⟨sv, l, rfl, hl, hs⟩, hb4⟩
 have HX4 : Hid (w4.heap[b]? = some (.cells #[.int .i64 0, .slice none 0 0] 71 (0, 0))) := by
  have h2 := (aL HX2.out)
  have h3 := Nat.lt_of_lt_of_le h2 hb3.size
  exact ((hb4.block b h3).trans (hb3.block b h2)).trans HX2.out
 have hB4 : Below w.heap.size w w4 := (HB2.out.trans (hb3.mono HB2.out.size)).trans (hb4.mono (Nat.le_trans HB2.out.size hb3.size))
 have hle3 : w.heap.size ≤ w3.heap.size := Nat.le_trans HB2.out.size hb3.size
 simp only [zD]
 refine Ks.whole rfl _ _ _ rfl b #[.int .i64 s.floor, sv] rfl rfl HX4.out (by kernel_rfl) rfl (by
  have := Row.one hs.row
  simp [Value.oneCell'] at this ⊢
  exact this) ?_
 intro w5 HR5 H2 H3 H4
 simp only [Act.put]
 refine Ks.done ?_
 refine wp_ret ?_
 exact Own.z1g Tryz.results36 rfl b _ #[.int .i64 s.floor, sv] _ _ rfl HR5.out Tryz.underlying71 rfl (by kernel_rfl) ⟨_, rfl, ⟨sv, l, rfl, hl, (hs.other HX4.out (by decide) (by decide) H3.out).mono fun k hk => Nat.le_trans hle3 hk⟩, hB4.trans ((H2.out (fun _ => False) w.heap.size (Or.inr hbw)).below (Nat.le_refl _) (fun _ _ h => h))⟩
end Gt
open Go Go.RowKit
namespace Gt
open Mp Bk Tk
def x2f (b : Nat) (p : Option Addr) (n cap k : Nat) (ls : Int) (f : Nat → Value) : Act := { tmps := #[f 0, .pointer (some ⟨b, 0, none⟩), .bool false, .int .i64 ls, f 4, f 5, f 6, f 7, f 8, f 9, f 10, f 11, f 12, f 13, f 14, f 15, f 16, f 17, f 18, f 19, f 20, f 21, f 22, f 23, f 24, f 25, f 26, f 27, .slice p n cap, .int .i64 (n : Int), .int .i64 (k : Int), f 31, f 32, f 33, f 34, f 35, f 36, f 37, f 38, f 39, f 40, f 41, f 42, f 43, f 44], defers := [] }
theorem y9d (ls n : Int) (r : List Int) (h : 2 ≤ ls) : okMore ls (n :: r) = (decide (ls ≤ n) && (bet 1 n 1000 && okMore (n + 1) r)) := by
 show (decide (ls ≤ n) && decide (n ≤ 1000) && okMore (n + 1) r) = _
 unfold bet
 by_cases h1 : ls ≤ n
 ·have : (1 : Int) ≤ n := by omega
  simp [h1, this]
 ·simp [h1]
theorem x4k (s : Sn) : x1s s = if s.upto = 0 ∧ s.more = [] then false else if s.upto ≠ 0 ∧ bet 1 s.upto 1000 = false then false else okMore (s.upto + 2) s.more := by
 unfold x1s bet
 by_cases h1 : s.upto = 0
 ·by_cases h2 : s.more = []
  ·simp [h1, h2]
  ·simp [h1, h2]
 ·by_cases h2 : 1 ≤ s.upto ∧ s.upto ≤ 1000
  ·have : 0 ≤ s.upto := by omega
   simp [h1, h2, this]
  ·rw [if_neg (by simp [h1]), if_pos ⟨h1, by simp; omega⟩]
   have : ¬ (0 ≤ s.upto ∧ s.upto ≤ 1000) := by omega
   simp only [this, decide_false, Bool.and_false, Bool.false_and]
set_option maxHeartbeats 1000000 in
theorem q2m {S : Nat → Prop} (w : World) (s : Sn) (m : Value) (hm : Row S w 3 1 m s.more.length (s.more.map inC)) (hl : s.more.length ≤ 1000000000) : Calls Tryz.prog 145 #[.agg #[.int .i64 s.gate, .int .i64 s.upto, m]] w fun e w' => e = .returned (.bool (x1s s)) ∧ Below w.heap.size w w' := by
  obtain ⟨p, cap, rfl, z3s⟩ := Row.form hm
  have H : Hid _ := y0m
  have HS : Hid _ := x4k s
  generalize x1s s = R at HS ⊢
  have HB : ∀ o, Hid (Below w.heap.size w (w.alloc o)) := fun o => (Below.refl _ _).alloc (Nat.le_refl _) _
  go_enter Tryz.func145, Tryz.ntmps145
  go_wp2_with (go_at_call 217; refine (H.out _ _).mono ?_; rintro _ _ ⟨rfl, rfl⟩)
  · have h1 : s.upto = 0 := by assumption
    have h2 : ((s.more.length : Int) == 0) = true := by assumption
    have hR : R = false := by rw [HS.out, if_pos ⟨h1, List.length_eq_zero_iff.1 (by simpa using h2)⟩]
    rw [hR]
    go_ret
    exact ⟨rfl, (HB _).out⟩
  rotate_left
  · have h1 : ¬ s.upto = 0 := by assumption
    have h2 : (s.upto != 0) = true ∧ (!bet 1 s.upto 1000) = true := by assumption
    have hR : R = false := by rw [HS.out, if_neg (fun h => h1 h.1), if_pos ⟨h1, by simpa using h2.2⟩]
    rw [hR]
    go_ret
    exact ⟨rfl, (HB _).out⟩
  all_goals
    rename_i K hK
    have hpair : (0 ≤ s.upto ∧ s.upto ≤ 1000) ∧ R = okMore (s.upto + 2) s.more := by
      first
        | (have h1 : s.upto = 0 := by assumption
           have h2 : ((s.more.length : Int) == 0) = false := by assumption
           refine ⟨by omega, ?_⟩
           rw [HS.out, if_neg (fun h => by rw [h.2] at h2; simp at h2), if_neg (fun h => h.1 h1)])
        | (have h1 : ¬ s.upto = 0 := by assumption
           have h2 : (s.upto != 0) = false ∨ (!bet 1 s.upto 1000) = false := by assumption
           have h3 : bet 1 s.upto 1000 = true := by
             rcases h2 with h2 | h2
             · simp at h2; exact absurd h2 h1
             · simpa using h2
           have := y3p h3
           refine ⟨by omega, ?_⟩
           rw [HS.out, if_neg (fun h => h1 h.1), if_neg (fun h => by rw [h3] at h; cases h.2)])
    obtain ⟨hu, hR⟩ := hpair
    clear HS
    generalize hw1 : w.alloc _ = w1
    have hB1 : Below w.heap.size w w1 := by rw [← hw1]; exact (HB _).out
    clear hw1 HB
    refine Ks.loop (fun m a wr => wr = w1 ∧ ∃ (k : Nat) (ls : Int) (f : Nat → Value), k ≤ s.more.length ∧ m = s.more.length - k ∧ (2 ≤ ls ∧ ls ≤ 1002) ∧ R = okMore ls (s.more.drop k) ∧ a = x2f w.heap.size p s.more.length cap k ls f) s.more.length ?_ ?_
    · first
        | (have h1 : s.upto = 0 := by assumption
           refine ⟨rfl, 0, s.upto + 2, fun j => Array.getD #[.agg #[.int .i64 s.gate, .int .i64 0, .slice p s.more.length cap], undef, undef, undef, undef, undef, .pointer (some ⟨w.heap.size, 1, none⟩), .int .i64 0, .bool true, .bool true, .pointer (some ⟨w.heap.size, 2, none⟩), .slice p s.more.length cap, .int .i64 (s.more.length : Int), .bool ((s.more.length : Int) == 0), .bool ((s.more.length : Int) == 0), .pointer (some ⟨w.heap.size, 1, none⟩), .int .i64 0, .bool false, .bool false, undef, undef, undef, undef, .bool false, .pointer (some ⟨w.heap.size, 1, none⟩), .int .i64 0, .int .i64 2, .pointer (some ⟨w.heap.size, 2, none⟩)] j undef, Nat.zero_le _, rfl, by omega, hR, ?_⟩
           rw [h1]
           rfl)
        | (refine ⟨rfl, 0, s.upto + 2, fun j => Array.getD #[.agg #[.int .i64 s.gate, .int .i64 s.upto, .slice p s.more.length cap], undef, undef, undef, undef, undef, .pointer (some ⟨w.heap.size, 1, none⟩), .int .i64 s.upto, .bool (s.upto == 0), .bool (s.upto == 0), undef, undef, undef, undef, .bool false, .pointer (some ⟨w.heap.size, 1, none⟩), .int .i64 s.upto, .bool (s.upto != 0), .bool (s.upto != 0), .pointer (some ⟨w.heap.size, 1, none⟩), .int .i64 s.upto, .bool (bet 1 s.upto 1000), .bool (!bet 1 s.upto 1000), .bool (s.upto != 0 && !bet 1 s.upto 1000), .pointer (some ⟨w.heap.size, 1, none⟩), .int .i64 s.upto, .int .i64 (s.upto + 2), .pointer (some ⟨w.heap.size, 2, none⟩)] j undef, Nat.zero_le _, rfl, by omega, hR, ?_⟩
           have e : wrap64 (s.upto + 2) = s.upto + 2 := IntWalk.wrap64_in _ ⟨by omega, by omega⟩
           rw [e]
           rfl)
    · rintro m a wr ⟨rfl, k, ls, f, hk, rfl, hls, hRk, rfl⟩
      have fin : ∀ (a' : Act) (k' : Nat) (ls' : Int), k < k' → k' ≤ s.more.length → (2 ≤ ls' ∧ ls' ≤ 1002) → R = okMore ls' (s.more.drop k') → a' = x2f w.heap.size p s.more.length cap k' ls' (fun j => a'.tmps.getD j undef) → ∃ m, m < s.more.length - k ∧ wr = wr ∧ ∃ (k : Nat) (ls : Int) (f : Nat → Value), k ≤ s.more.length ∧ m = s.more.length - k ∧ (2 ≤ ls ∧ ls ≤ 1002) ∧ R = okMore ls (s.more.drop k) ∧ a' = x2f w.heap.size p s.more.length cap k ls f := fun a' k' ls' q1 q2 q3 q4 q5 => ⟨s.more.length - k', by omega, rfl, k', ls', _, q2, rfl, q3, q4, q5⟩
      unfold x2f
      refine wp_seq ?_
      refine Ks.reg ?_
      refine Ks.v (.bool (decide ((k : Int) < s.more.length))) ?_
      simp only [zD]
      refine Ks.done ?_
      refine wp_seq ?_
      refine wp_cond_split rfl ?_ ?_
      · intro hlt
        have hlt : k < s.more.length := by have := of_decide_eq_true hlt; omega
        obtain ⟨g, cur, rfl, hg, htk⟩ := z3s k hlt
        have hgl := (aL hg)
        obtain ⟨x, hx⟩ : ∃ x, s.more[k] = x := ⟨_, rfl⟩
        have hxk : s.more[k]? = some x := by rw [List.getElem?_eq_getElem hlt, hx]
        have hxc : wr.cell? ⟨g, k * 1, none⟩ = some (.int .i64 x) := by
          rw [hB1.cell (by exact hgl)]
          exact Row.cell hg htk (by rw [Nat.mul_one, List.getElem?_map, hxk]; rfl)
        have hdrop : s.more.drop k = x :: s.more.drop (k + 1) := by rw [List.drop_eq_getElem_cons hlt, hx]
        rw [hdrop, y9d _ _ _ hls.1] at hRk
        refine wp_skip ?_
        refine Ks.norm ?_
        refine wp_seq ?_
        refine wp_block ?_
        refine wp_seq ?_
        refine Ks.reg ?_
        refine Ks.idx (by kernel_rfl) _ _ _ rfl 3 1 Tryz.underlying25 (by kernel_rfl) (by kernel_rfl) g s.more.length cap k rfl rfl hlt ?_
        simp only [zD]
        refine Ks.cell rfl _ _ rfl Tryz.underlying3 rfl g (k * 1) (.int .i64 x) rfl hxc ?_
        simp only [zD]
        refine Ks.v (.int .i64 x) ?_
        simp only [zD]
        refine Ks.done ?_
        refine wp_seq ?_
        refine wp_seq ?_
        refine Ks.reg ?_
        refine Ks.v (.int .i64 x) ?_
        simp only [zD]
        refine Ks.v (.int .i64 ls) ?_
        simp only [zD]
        refine Ks.v (.bool (decide (x < ls))) ?_
        simp only [zD]
        refine Ks.v (.bool (decide (x < ls))) ?_
        simp only [zD]
        by_cases hxl : x < ls
        · rw [decide_eq_true hxl]
          with_reducible refine Ks.n ?_
          simp only [zD]
          with_reducible refine Ks.n ?_
          simp only [zD]
          with_reducible refine Ks.n ?_
          simp only [zD]
          refine Ks.v (.bool true) ?_
          simp only [zD]
          refine Ks.done ?_
          refine wp_cond_true rfl ?_
          refine wp_seq ?_
          refine Ks.reg ?_
          refine Ks.v (.bool false) ?_
          simp only [zD]
          refine Ks.done ?_
          obtain rfl : R = false := by rw [hRk]; simp; omega
          refine wp_ret ?_
          repeat (refine Ks.ret ?_)
          refine Ks.y2y ?_
          repeat (refine Ks.ret ?_)
          refine Ks.y2y ?_
          repeat (refine Ks.ret ?_)
          exact bodyPost_ret (v := .bool false) (by simp [results, Tryz.results145]) rfl ⟨rfl, hB1⟩
        · rw [decide_eq_false hxl]
          refine Ks.g (.int .i64 x) ?_
          simp only [zD]
          refine Ks.same (by kernel_rfl) 217 #[.int .i64 x] (by kernel_rfl) (H.out x wr) ?_
          simp only [zD]
          refine Ks.g (.bool (!bet 1 x 1000)) ?_
          simp only [zD]
          refine Ks.v (.bool (!bet 1 x 1000)) ?_
          simp only [zD]
          refine Ks.done ?_
          cases hb : bet 1 x 1000 with
          | false =>
            rw [hb] at hRk
            refine wp_cond_true rfl ?_
            refine wp_seq ?_
            refine Ks.reg ?_
            refine Ks.v (.bool false) ?_
            simp only [zD]
            refine Ks.done ?_
            obtain rfl : R = false := by rw [hRk]; simp
            refine wp_ret ?_
            repeat (refine Ks.ret ?_)
            refine Ks.y2y ?_
            repeat (refine Ks.ret ?_)
            refine Ks.y2y ?_
            repeat (refine Ks.ret ?_)
            exact bodyPost_ret (v := .bool false) (by simp [results, Tryz.results145]) rfl ⟨rfl, hB1⟩
          | true =>
            have hbx := y3p hb
            rw [hb, decide_eq_true (by omega : ls ≤ x)] at hRk
            refine wp_cond_false rfl ?_
            refine wp_skip ?_
            refine Ks.norm ?_
            refine Ks.reg ?_
            refine Ks.v (.int .i64 x) ?_
            simp only [zD]
            refine Ks.val rfl (.int .i64 (x + 1)) (by
              simp [execOp, go_sem]
              rw [IntWalk.i64_in _ ⟨by omega, by omega⟩]) ?_
            simp only [zD]
            refine Ks.v (.int .i64 (x + 1)) ?_
            simp only [zD]
            refine Ks.fin ?_
            refine Ks.inb ?_
            refine Ks.reg ?_
            refine Ks.val rfl (.int .i64 ((k + 1 : Nat) : Int)) (by
              simp [execOp, go_sem]
              rw [IntWalk.i64_in _ ⟨by omega, by omega⟩]) ?_
            simp only [zD]
            refine Ks.v (.int .i64 ((k + 1 : Nat) : Int)) ?_
            simp only [zD]
            refine Ks.done ?_
            exact fin _ (k + 1) (x + 1) (by omega) hlt ⟨by omega, by omega⟩ (by rw [hRk]; rfl) rfl
      · intro hlt
        obtain rfl : k = s.more.length := by have := of_decide_eq_false hlt; omega
        rw [List.drop_length] at hRk
        refine wp_exit ?_
        refine Ks.z3r ?_
        refine Ks.norm ?_
        obtain rfl : R = true := hRk
        refine hK _ _ ?_
        refine wp_seq ?_
        refine Ks.reg ?_
        refine Ks.v (.bool true) ?_
        simp only [zD]
        refine Ks.done ?_
        refine wp_ret ?_
        repeat (refine Ks.ret ?_)
        refine bodyPost_ret (v := .bool true) (by simp [results, Tryz.results145]) rfl ?_
        exact ⟨rfl, hB1⟩
end Gt
open Go Go.RowKit
namespace Gt
open Mp Bk Tk
def x1b (v0 : Value) (b : Nat) (p : Option Addr) (n cap k : Nat) (ls : Int) (f : Nat → Value) : Act := { tmps := #[v0, .pointer (some ⟨b, 0, none⟩), .bool false, .int .i64 ls, f 4, f 5, f 6, f 7, f 8, f 9, f 10, .slice p n cap, .int .i64 (n : Int), .int .i64 (k : Int), f 14, f 15, f 16, f 17, f 18, f 19, f 20, f 21, f 22, f 23, f 24, f 25, f 26, f 27, f 28, f 29, f 30, f 31, f 32, f 33, f 34, f 35], defers := [] }
theorem y9e (ls : Int) (s : Sn) (r : List Sn) (h : 0 ≤ ls) : okSeen ls (s :: r) = (!(decide (s.gate < ls)) && (bet 0 s.gate 15 && (x1s s && okSeen (s.gate + 1) r))) := by
 show (decide (ls ≤ s.gate ∧ s.gate ≤ 15) && x1s s && okSeen (s.gate + 1) r) = _
 unfold bet
 by_cases h1 : ls ≤ s.gate
 ·have h2 : (0 : Int) ≤ s.gate := by omega
  have h3 : ¬ s.gate < ls := by omega
  simp [h1, h2, h3, Bool.and_assoc]
 ·have h3 : s.gate < ls := by omega
  simp [h1, h3]
theorem x3v {S : Nat → Prop} (w : World) (F : Int) (sv : Value) (l : List (Sn × Value)) (h : z1e S w sv l) (hl : l.length ≤ 1000000000) (hm : ∀ p ∈ l, p.1.more.length ≤ 1000000000) : Calls Tryz.prog 73 #[.agg #[.int .i64 F, sv]] w fun e w' => e = .returned (.bool (z8t F (l.map Prod.fst))) ∧ Below w.heap.size w w' := by
 obtain ⟨p, cap, rfl, z3s⟩ := Row.form h.row
 have HR : Hid (z8t F (l.map Prod.fst) = (bet 0 F 65535 && okSeen 0 (l.map Prod.fst))) := by
  show z8t _ _ = _
  unfold z8t bet
  congr 1
  by_cases h1 : 0 ≤ F <;> by_cases h2 : F ≤ 65535 <;> simp [h1, h2]
 generalize z8t F (l.map Prod.fst) = R at HR ⊢
 go_enter Tryz.func73, Tryz.ntmps73
 refine wp_seq ?_
 refine Ks.reg ?_
 refine Ks.box rfl _ _ rfl #[.int .i64 F, .slice p l.length cap] rfl ?_
 intro w1 b1 Hb1 HX1 HB1 HS1
 simp only [zD]
 refine Ks.v (.bool false) ?_
 simp only [zD]
 refine Ks.done ?_
 refine wp_seq ?_
 refine wp_seq ?_
 refine Ks.reg ?_
 refine Ks.v (.pointer (some ⟨b1, 0, none⟩)) ?_
 simp only [zD]
 refine Ks.cell rfl _ _ rfl Tryz.underlying3 rfl b1 0 (.int .i64 F) rfl (z0c HX1.out 0 rfl) ?_
 simp only [zD]
 refine Ks.same (by kernel_rfl) 56 #[.int .i64 F] (by kernel_rfl) (y3w F w1) ?_
 simp only [zD]
 refine Ks.v (.bool (!bet 0 F 65535)) ?_
 simp only [zD]
 refine Ks.done ?_
 cases hb : bet 0 F 65535 with
 | false =>
  obtain rfl : R = false := by rw [HR.out, hb]; rfl
  refine wp_cond_true rfl ?_
  refine wp_seq ?_
  refine Ks.reg ?_
  refine Ks.v (.bool false) ?_
  simp only [zD]
  refine Ks.done ?_
  refine wp_ret ?_
  repeat (refine Ks.ret ?_)
  refine bodyPost_ret (v := .bool false) (by simp [results, Tryz.results73]) rfl ?_
  exact ⟨rfl, HB1.out⟩
 | true =>
  have HR2 : Hid (R = okSeen 0 (l.map Prod.fst)) := by
   show R = _
   rw [HR.out, hb, Bool.true_and]
  clear HR hb
  refine wp_cond_false rfl ?_
  refine wp_skip ?_
  refine Ks.norm ?_
  refine wp_seq ?_
  refine Ks.reg ?_
  refine Ks.v (.int .i64 0) ?_
  simp only [zD]
  refine Ks.done ?_
  refine wp_seq ?_
  refine wp_seq ?_
  refine Ks.reg ?_
  refine Ks.v (.pointer (some ⟨b1, 1, none⟩)) ?_
  simp only [zD]
  refine Ks.cell rfl _ _ rfl Tryz.underlying69 rfl b1 1 (.slice p l.length cap) rfl (z0c HX1.out 1 rfl) ?_
  simp only [zD]
  refine Ks.v (.int .i64 (l.length : Int)) ?_
  simp only [zD]
  refine Ks.v (.int .i64 0) ?_
  simp only [zD]
  refine Ks.done ?_
  refine wp_block ?_
  refine Ks.loop (fun m a wr => ∃ (k : Nat) (ls : Int) (f : Nat → Value), k ≤ l.length ∧ m = l.length - k ∧ (0 ≤ ls ∧ ls ≤ 16) ∧ R = okSeen ls ((l.map Prod.fst).drop k) ∧ Below w.heap.size w wr ∧ a = x1b (.agg #[.int .i64 F, .slice p l.length cap]) b1 p l.length cap k ls f) l.length ⟨0, 0, fun j => Array.getD #[undef, undef, undef, undef, undef, undef, .pointer (some ⟨b1, 0, none⟩), .int .i64 F, .bool true, .bool (!true), .pointer (some ⟨b1, 1, none⟩)] j undef, Nat.zero_le _, rfl, by omega, HR2.out, HB1.out, rfl⟩ ?_
  clear HR2 HX1 HB1 HS1 Hb1
  rintro m a wr ⟨k, ls, f, hk, rfl, hls, hRk, hB, rfl⟩
  have fin : ∀ (a' : Act) (w' : World) (k' : Nat) (ls' : Int), k < k' → k' ≤ l.length → (0 ≤ ls' ∧ ls' ≤ 16) → R = okSeen ls' ((l.map Prod.fst).drop k') → Below w.heap.size w w' → a' = x1b (.agg #[.int .i64 F, .slice p l.length cap]) b1 p l.length cap k' ls' (fun j => a'.tmps.getD j undef) → ∃ m, m < l.length - k ∧ ∃ (k : Nat) (ls : Int) (f : Nat → Value), k ≤ l.length ∧ m = l.length - k ∧ (0 ≤ ls ∧ ls ≤ 16) ∧ R = okSeen ls ((l.map Prod.fst).drop k) ∧ Below w.heap.size w w' ∧ a' = x1b (.agg #[.int .i64 F, .slice p l.length cap]) b1 p l.length cap k ls f := fun a' w' k' ls' q1 q2 q3 q4 q5 q6 => ⟨l.length - k', by omega, k', ls', _, q2, rfl, q3, q4, q5, q6⟩
  unfold x1b
  refine wp_seq ?_
  refine Ks.reg ?_
  refine Ks.v (.bool (decide ((k : Int) < l.length))) ?_
  simp only [zD]
  refine Ks.done ?_
  refine wp_seq ?_
  refine wp_cond_split rfl ?_ ?_
  ·intro hlt
   have hlt : k < l.length := by have := of_decide_eq_true hlt; omega
   obtain ⟨g, cur, rfl, hg, htk⟩ := z3s k hlt
   have hgl := (aL hg)
   obtain ⟨s, mv, hx⟩ : ∃ s mv, l[k] = (s, mv) := ⟨_, _, rfl⟩
   have hxk : l[k]? = some (s, mv) := by rw [List.getElem?_eq_getElem hlt, hx]
   have hin : (s, mv) ∈ l := List.mem_of_getElem? hxk
   have hmo := (h.more (s, mv) hin).below hB (Nat.le_refl _)
   have hrg : wr.rangeAt g (k * 3) (snC s mv) := z1v (Row.range (f := fun p : Sn × Value => snC p.1 p.2) y4t hg htk hxk) hB hgl
   have hdrop : (l.map Prod.fst).drop k = s :: (l.map Prod.fst).drop (k + 1) := by
    rw [List.drop_eq_getElem_cons (by simpa using hlt)]
    simp [hx]
   rw [hdrop, y9e _ _ _ hls.1] at hRk
   refine wp_skip ?_
   refine Ks.norm ?_
   refine wp_seq ?_
   refine wp_block ?_
   refine wp_seq ?_
   refine Ks.reg ?_
   refine Ks.idx (by kernel_rfl) _ _ _ rfl 213 3 Tryz.underlying69 (by kernel_rfl) (by kernel_rfl) g l.length cap k rfl rfl hlt ?_
   simp only [zD]
   refine Ks.mid rfl _ _ rfl g (k * 3) rfl (snC s mv) hrg Tryz.underlying213 rfl (by kernel_rfl) ?_
   simp only [zD]
   refine Ks.decl rfl _ rfl (.agg #[.int .i64 0, .int .i64 0, .slice none 0 0]) (by kernel_rfl) rfl _ _ rfl #[.int .i64 s.gate, .int .i64 s.upto, mv] (fun _ => rfl) (fun _ => rfl) (by kernel_rfl) rfl (by
    have := Row.one hmo
    simp [Value.oneCell'] at this ⊢
    exact this) ?_
   intro wa b5 Hb5 HA HBa
   have hB2 : Below w.heap.size w wa := hB.trans (HBa.out.mono hB.size)
   have hmo2 := (h.more (s, mv) hin).below hB2 (Nat.le_refl _)
   simp only [zD]
   refine Ks.done ?_
   refine wp_seq ?_
   refine wp_seq ?_
   refine Ks.reg ?_
   refine Ks.v (.pointer (some ⟨b5, 0, none⟩)) ?_
   simp only [zD]
   refine Ks.cell rfl _ _ rfl Tryz.underlying3 rfl b5 0 (.int .i64 s.gate) rfl (z0c HA.out 0 rfl) ?_
   simp only [zD]
   refine Ks.v (.int .i64 ls) ?_
   simp only [zD]
   refine Ks.v (.bool (decide (s.gate < ls))) ?_
   simp only [zD]
   refine Ks.v (.bool (decide (s.gate < ls))) ?_
   simp only [zD]
   by_cases hxl : s.gate < ls
   ·rw [decide_eq_true hxl] at hRk ⊢
    with_reducible refine Ks.n ?_
    simp only [zD]
    with_reducible refine Ks.n ?_
    simp only [zD]
    with_reducible refine Ks.n ?_
    simp only [zD]
    with_reducible refine Ks.n ?_
    simp only [zD]
    refine Ks.v (.bool true) ?_
    simp only [zD]
    refine Ks.v (.bool true) ?_
    simp only [zD]
    with_reducible refine Ks.n ?_
    simp only [zD]
    with_reducible refine Ks.n ?_
    simp only [zD]
    with_reducible refine Ks.n ?_
    simp only [zD]
    refine Ks.v (.bool true) ?_
    simp only [zD]
    refine Ks.done ?_
    refine wp_cond_true rfl ?_
    refine wp_seq ?_
    refine Ks.reg ?_
    refine Ks.v (.bool false) ?_
    simp only [zD]
    refine Ks.done ?_
    obtain rfl : R = false := by rw [hRk]; simp
    refine wp_ret ?_
    repeat (refine Ks.ret ?_)
    refine Ks.y2y ?_
    repeat (refine Ks.ret ?_)
    refine Ks.y2y ?_
    repeat (refine Ks.ret ?_)
    exact bodyPost_ret (v := .bool false) (by simp [results, Tryz.results73]) rfl ⟨rfl, hB2⟩
   ·rw [decide_eq_false hxl] at hRk ⊢
    refine Ks.g (.pointer (some ⟨b5, 0, none⟩)) ?_
    simp only [zD]
    refine Ks.z4k (by kernel_rfl) _ _ rfl Tryz.underlying3 rfl b5 0 (.int .i64 s.gate) rfl (z0c HA.out 0 rfl) ?_
    simp only [zD]
    refine Ks.same (by kernel_rfl) 84 #[.int .i64 s.gate] (by kernel_rfl) (q5p s.gate wa) ?_
    simp only [zD]
    refine Ks.g (.bool (!bet 0 s.gate 15)) ?_
    simp only [zD]
    refine Ks.v (.bool (!bet 0 s.gate 15)) ?_
    simp only [zD]
    refine Ks.v (.bool (!bet 0 s.gate 15)) ?_
    simp only [zD]
    cases hb : bet 0 s.gate 15 with
    | false =>
     with_reducible refine Ks.n ?_
     simp only [zD]
     with_reducible refine Ks.n ?_
     simp only [zD]
     with_reducible refine Ks.n ?_
     simp only [zD]
     refine Ks.v (.bool true) ?_
     simp only [zD]
     refine Ks.done ?_
     refine wp_cond_true rfl ?_
     refine wp_seq ?_
     refine Ks.reg ?_
     refine Ks.v (.bool false) ?_
     simp only [zD]
     refine Ks.done ?_
     obtain rfl : R = false := by rw [hRk, hb]; simp
     refine wp_ret ?_
     repeat (refine Ks.ret ?_)
     refine Ks.y2y ?_
     repeat (refine Ks.ret ?_)
     refine Ks.y2y ?_
     repeat (refine Ks.ret ?_)
     exact bodyPost_ret (v := .bool false) (by simp [results, Tryz.results73]) rfl ⟨rfl, hB2⟩
    | true =>
     have hbx := y3p hb
     rw [hb] at hRk
     refine Ks.j3c (by kernel_rfl) _ _ rfl b5 rfl HA.out Tryz.underlying213 rfl (by kernel_rfl) ?_
     simp only [zD]
     refine Ks.pure (by kernel_rfl) 145 #[.agg #[.int .i64 s.gate, .int .i64 s.upto, mv]] (by kernel_rfl) (q2m wa s mv hmo2 (hm (s, mv) hin)) ?_
     intro wb hbb
     have hB3 : Below w.heap.size w wb := hB2.trans (hbb.mono hB2.size)
     have HA3 : wb.heap[b5]? = some (.cells #[.int .i64 s.gate, .int .i64 s.upto, mv] 213 (0, 0)) := (hbb.block b5 (aL HA.out)).trans HA.out
     simp only [zD]
     refine Ks.g (.bool (!x1s s)) ?_
     simp only [zD]
     refine Ks.v (.bool (!x1s s)) ?_
     simp only [zD]
     refine Ks.done ?_
     cases hs : x1s s with
     | false =>
      rw [hs] at hRk
      refine wp_cond_true rfl ?_
      refine wp_seq ?_
      refine Ks.reg ?_
      refine Ks.v (.bool false) ?_
      simp only [zD]
      refine Ks.done ?_
      obtain rfl : R = false := by rw [hRk]; simp
      refine wp_ret ?_
      repeat (refine Ks.ret ?_)
      refine Ks.y2y ?_
      repeat (refine Ks.ret ?_)
      refine Ks.y2y ?_
      repeat (refine Ks.ret ?_)
      exact bodyPost_ret (v := .bool false) (by simp [results, Tryz.results73]) rfl ⟨rfl, hB3⟩
     | true =>
      rw [hs] at hRk
      refine wp_cond_false rfl ?_
      refine wp_skip ?_
      refine Ks.norm ?_
      refine Ks.reg ?_
      refine Ks.v (.pointer (some ⟨b5, 0, none⟩)) ?_
      simp only [zD]
      refine Ks.cell rfl _ _ rfl Tryz.underlying3 rfl b5 0 (.int .i64 s.gate) rfl (z0c HA3 0 rfl) ?_
      simp only [zD]
      refine Ks.val rfl (.int .i64 (s.gate + 1)) (by
       simp [execOp, go_sem]
       rw [IntWalk.i64_in _ ⟨by omega, by omega⟩]) ?_
      simp only [zD]
      refine Ks.v (.int .i64 (s.gate + 1)) ?_
      simp only [zD]
      refine Ks.fin ?_
      refine Ks.inb ?_
      refine Ks.reg ?_
      refine Ks.val rfl (.int .i64 ((k + 1 : Nat) : Int)) (by
       simp [execOp, go_sem]
       rw [IntWalk.i64_in _ ⟨by omega, by omega⟩]) ?_
      simp only [zD]
      refine Ks.v (.int .i64 ((k + 1 : Nat) : Int)) ?_
      simp only [zD]
      refine Ks.done ?_
      exact fin _ wb (k + 1) (s.gate + 1) (by omega) hlt ⟨by omega, by omega⟩ (by rw [hRk]; rfl) hB3 rfl
  ·intro hlt
   obtain rfl : k = l.length := by have := of_decide_eq_false hlt; omega
   rw [List.drop_of_length_le (by simp)] at hRk
   obtain rfl : R = true := hRk
   refine wp_exit ?_
   refine Ks.z3r ?_
   refine Ks.norm ?_
   refine wp_seq ?_
   refine Ks.reg ?_
   refine Ks.v (.bool true) ?_
   simp only [zD]
   refine Ks.done ?_
   refine wp_ret ?_
   repeat (refine Ks.ret ?_)
   refine bodyPost_ret (v := .bool true) (by simp [results, Tryz.results73]) rfl ?_
   exact ⟨rfl, hB⟩
end Gt
open Go Go.RowKit
namespace Gt
open Mp Bk Tk
theorem x1i (x y : Int) (w : World) : Calls Tryz.prog 255 #[.int .i64 x, .int .i64 y] w fun e w' => e = .returned (.bool (decide (x < y))) ∧ w' = w := by
 have H : Hid _ := x6z
 generalize hb : decide (x < y) = b
 go_enter Tryz.func255, Tryz.ntmps255
 go_wp2_with (go_at_call 267; refine (H.out _ _).mono ?_; rintro _ _ ⟨rfl, rfl⟩)
 exact bodyPost_ret (v := .bool b) (by simp [results, Tryz.results255, go_sem, ← hb]) rfl ⟨rfl, rfl⟩
theorem q2l (x : Int) (w : World) : Calls Tryz.prog 256 #[.int .i64 x] w fun e w' => e = .returned (.bool false) ∧ w' = w := by
 go_enter Tryz.func256, Tryz.ntmps256
 go_wp2_with fail
 exact bodyPost_ret (v := .bool false) (by simp [results, Tryz.results256, go_sem]) rfl ⟨rfl, rfl⟩
def x0m (p : Option Addr) (n cap : Nat) (x : Int) (i j : Nat) (f : Nat → Value) : Act := { tmps := #[.slice p n cap, .int .i64 x, f 2, f 3, .int .i64 0, .bool false, .int .i64 (n : Int), .int .i64 (i : Int), .int .i64 (j : Int), f 9, f 10, f 11, f 12, f 13, f 14, f 15, f 16, f 17, f 18, f 19, f 20, f 21, f 22, f 23, f 24, f 25, f 26, f 27, f 28, f 29, f 30, f 31, f 32, f 33, f 34, f 35, f 36, f 37, f 38, f 39, f 40, f 41, f 42, f 43, f 44, f 45, f 46, f 47, f 48, f 49, f 50, f 51, f 52, f 53], defers := [] }
theorem q4g {S : Nat → Prop} (w : World) (m : Value) (xs : List Int) (x : Int) (hm : Row S w 3 1 m xs.length (xs.map inC)) (hl : xs.length ≤ 1000000000) (hr : xs.Pairwise (· < ·)) : Calls Tryz.prog 218 #[m, .int .i64 x] w fun e w' => ∃ v, e = .returned v ∧ (∃ i : Nat, v = .tuple #[.int .i64 (i : Int), .bool (decide (x ∈ xs))]) ∧ w' = w := by
 obtain ⟨p, cap, rfl, z3s⟩ := Row.form hm
 have hord : ∀ a b (ha : a < xs.length) (hb : b < xs.length), a < b → xs[a] < xs[b] := fun a b ha hb hab => List.pairwise_iff_getElem.1 hr a b ha hb hab
 have hc : ∀ k (hk : k < xs.length), ∃ g, p = some ⟨g, 0, none⟩ ∧ w.cell? ⟨g, k * 1, none⟩ = some (.int .i64 xs[k]) := fun k hk => by
  obtain ⟨g, cur, e, hg, htk⟩ := z3s k hk
  exact ⟨g, e, Row.cell hg htk (by rw [Nat.mul_one, List.getElem?_map, List.getElem?_eq_getElem hk]; rfl)⟩
 go_enter Tryz.func218, Tryz.ntmps218
 refine wp_seq ?_
 refine Ks.reg ?_
 refine Ks.v (.int .i64 0) ?_
 simp only [zD]
 refine Ks.v (.bool false) ?_
 simp only [zD]
 refine Ks.done ?_
 refine wp_seq ?_
 refine Ks.reg ?_
 refine Ks.v (.slice p xs.length cap) ?_
 simp only [zD]
 refine Ks.v (.int .i64 (xs.length : Int)) ?_
 simp only [zD]
 refine Ks.v (.int .i64 (xs.length : Int)) ?_
 simp only [zD]
 refine Ks.done ?_
 refine wp_seq ?_
 refine Ks.reg ?_
 refine Ks.v (.int .i64 (xs.length : Int)) ?_
 simp only [zD]
 refine Ks.v (.int .i64 0) ?_
 simp only [zD]
 refine Ks.v (.int .i64 (xs.length : Int)) ?_
 simp only [zD]
 refine Ks.done ?_
 refine wp_seq ?_
 refine wp_block ?_
 refine Ks.loop (fun m a wr => wr = w ∧ ∃ (i j : Nat) (f : Nat → Value), i ≤ j ∧ j ≤ xs.length ∧ m = j - i ∧ (∀ k (hk : k < xs.length), k < i → xs[k] < x) ∧ (∀ k (hk : k < xs.length), j ≤ k → x ≤ xs[k]) ∧ a = x0m p xs.length cap x i j f) xs.length ⟨rfl, 0, xs.length, fun j => Array.getD #[undef, undef, undef, undef, undef, undef, undef, undef, undef, undef, .slice p xs.length cap, .int .i64 (xs.length : Int), .int .i64 (xs.length : Int)] j undef, Nat.zero_le _, Nat.le_refl _, rfl, fun k hk h => absurd h (by omega), fun k hk h => absurd h (by omega), rfl⟩ ?_
 rintro m a wr ⟨rfl, i, j, f, hij, hjn, rfl, hlo, hhi, rfl⟩
 have fin : ∀ (a' : Act) (i' j' : Nat), i' ≤ j' → j' ≤ xs.length → j' - i' < j - i → (∀ k (hk : k < xs.length), k < i' → xs[k] < x) → (∀ k (hk : k < xs.length), j' ≤ k → x ≤ xs[k]) → a' = x0m p xs.length cap x i' j' (fun j => a'.tmps.getD j undef) → ∃ m, m < j - i ∧ wr = wr ∧ ∃ (i j : Nat) (f : Nat → Value), i ≤ j ∧ j ≤ xs.length ∧ m = j - i ∧ (∀ k (hk : k < xs.length), k < i → xs[k] < x) ∧ (∀ k (hk : k < xs.length), j ≤ k → x ≤ xs[k]) ∧ a' = x0m p xs.length cap x i j f := fun a' i' j' q1 q2 q3 q4 q5 q6 => ⟨j' - i', q3, rfl, i', j', _, q1, q2, rfl, q4, q5, q6⟩
 unfold x0m
 refine wp_seq ?_
 refine wp_seq ?_
 refine Ks.reg ?_
 refine Ks.v (.int .i64 (i : Int)) ?_
 simp only [zD]
 refine Ks.v (.int .i64 (j : Int)) ?_
 simp only [zD]
 refine Ks.v (.bool (decide ((i : Int) < (j : Int)))) ?_
 simp only [zD]
 refine Ks.done ?_
 refine wp_cond_split rfl ?_ ?_
 ·intro hlt
  have hlt : i < j := by have := of_decide_eq_true hlt; omega
  obtain ⟨h, hh⟩ : ∃ h, h = (i + j) / 2 := ⟨_, rfl⟩
  have hhb : i ≤ h ∧ h < j := by omega
  obtain ⟨g, rfl, hgc⟩ := hc h (by omega)
  refine wp_skip ?_
  refine Ks.norm ?_
  refine wp_block ?_
  refine wp_seq ?_
  refine Ks.reg ?_
  refine Ks.v (.int .i64 (i : Int)) ?_
  simp only [zD]
  refine Ks.v (.int .i64 (j : Int)) ?_
  simp only [zD]
  refine Ks.val rfl (.int .i64 ((i + j : Nat) : Int)) (by
   simp [execOp, go_sem]
   rw [IntWalk.i64_in _ ⟨by omega, by omega⟩]) ?_
  simp only [zD]
  refine Ks.val rfl (.int .u64 ((i + j : Nat) : Int)) (by
   simp [execOp, go_sem]
   simp [IntKind.wrap, IntKind.bits, IntKind.signed]
   omega) ?_
  simp only [zD]
  refine Ks.val rfl (.int .u64 ((h : Nat) : Int)) (by
   simp [execOp, go_sem]
   omega) ?_
  simp only [zD]
  refine Ks.val rfl (.int .i64 ((h : Nat) : Int)) (by
   simp [execOp, go_sem]
   exact IntWalk.i64_in _ ⟨by omega, by omega⟩) ?_
  simp only [zD]
  refine Ks.v (.int .i64 (h : Int)) ?_
  simp only [zD]
  refine Ks.done ?_
  refine wp_seq ?_
  refine Ks.reg ?_
  refine Ks.v (.slice (some ⟨g, 0, none⟩) xs.length cap) ?_
  simp only [zD]
  refine Ks.v (.int .i64 (h : Int)) ?_
  simp only [zD]
  refine Ks.idx (by kernel_rfl) _ _ _ rfl 3 1 Tryz.underlying25 (by kernel_rfl) (by kernel_rfl) g xs.length cap h rfl rfl (by omega) ?_
  simp only [zD]
  refine Ks.cell rfl _ _ rfl Tryz.underlying3 rfl g (h * 1) (.int .i64 (xs[h]'(by omega))) rfl hgc ?_
  simp only [zD]
  refine Ks.v (.int .i64 x) ?_
  simp only [zD]
  refine Ks.same (by kernel_rfl) 255 #[.int .i64 (xs[h]'(by omega)), .int .i64 x] (by kernel_rfl) (x1i _ x wr) ?_
  simp only [zD]
  refine Ks.done ?_
  refine wp_cond_split rfl ?_ ?_
  ·intro hc2
   have hc2 : xs[h]'(by omega) < x := of_decide_eq_true hc2
   refine Ks.reg ?_
   refine Ks.v (.int .i64 (h : Int)) ?_
   simp only [zD]
   refine Ks.val rfl (.int .i64 ((h + 1 : Nat) : Int)) (by
    simp [execOp, go_sem]
    rw [IntWalk.i64_in _ ⟨by omega, by omega⟩]) ?_
   simp only [zD]
   refine Ks.v (.int .i64 ((h + 1 : Nat) : Int)) ?_
   simp only [zD]
   refine Ks.fin ?_
   refine Ks.inb ?_
   refine fin _ (h + 1) j (by omega) hjn (by omega) (fun k hk hkh => ?_) hhi rfl
   by_cases e : k = h
   ·subst e; exact hc2
   ·exact Int.lt_trans (hord k h hk (by omega) (by omega)) hc2
  ·intro hc2
   have hc2 : ¬ xs[h]'(by omega) < x := of_decide_eq_false hc2
   refine Ks.reg ?_
   refine Ks.v (.int .i64 (h : Int)) ?_
   simp only [zD]
   refine Ks.v (.int .i64 (h : Int)) ?_
   simp only [zD]
   refine Ks.fin ?_
   refine Ks.inb ?_
   refine fin _ i h (by omega) (by omega) (by omega) hlo (fun k hk hkh => ?_) rfl
   by_cases e : k = h
   ·subst e; omega
   ·have := hord h k (by omega) hk (by omega)
    omega
 ·intro hlt
  obtain rfl : i = j := by have := of_decide_eq_false hlt; omega
  refine wp_exit ?_
  refine Ks.z3r ?_
  refine wp_seq ?_
  refine Ks.reg ?_
  refine Ks.v (.int .i64 (i : Int)) ?_
  simp only [zD]
  refine Ks.v (.int .i64 (i : Int)) ?_
  simp only [zD]
  refine Ks.v (.int .i64 (xs.length : Int)) ?_
  simp only [zD]
  refine Ks.v (.bool (decide ((i : Int) < (xs.length : Int)))) ?_
  simp only [zD]
  refine Ks.v (.bool (decide ((i : Int) < (xs.length : Int)))) ?_
  simp only [zD]
  by_cases hin : i < xs.length
  ·obtain ⟨g, rfl, hgc⟩ := hc i hin
   rw [decide_eq_true (by omega : (i : Int) < (xs.length : Int))]
   refine Ks.g (.slice (some ⟨g, 0, none⟩) xs.length cap) ?_
   simp only [zD]
   refine Ks.g (.int .i64 (i : Int)) ?_
   simp only [zD]
   refine Ks.idx (by kernel_rfl) _ _ _ rfl 3 1 Tryz.underlying25 (by kernel_rfl) (by kernel_rfl) g xs.length cap i rfl rfl hin ?_
   simp only [zD]
   refine Ks.z4k (by kernel_rfl) _ _ rfl Tryz.underlying3 rfl g (i * 1) (.int .i64 xs[i]) rfl hgc ?_
   simp only [zD]
   refine Ks.g (.int .i64 x) ?_
   simp only [zD]
   refine Ks.g (.bool (decide (xs[i] = x))) ?_
   simp only [zD]
   refine Ks.g (.bool (decide (xs[i] = x))) ?_
   simp only [zD]
   have hmem : decide (x ∈ xs) = decide (xs[i] = x) := by
    rw [decide_eq_decide]
    constructor
    ·intro hx
     obtain ⟨k, hk, e⟩ := List.getElem_of_mem hx
     by_cases h1 : k < i
     ·have := hlo k hk h1; omega
     ·by_cases h2 : k = i
      ·subst h2; exact e
      ·have := hord i k hin hk (by omega)
       have := hhi i hin (Nat.le_refl _)
       omega
    ·intro e
     rw [← e]
     exact List.getElem_mem hin
   rw [hmem]
   by_cases he : xs[i] = x
   ·rw [decide_eq_true he]
    with_reducible refine Ks.n ?_
    simp only [zD]
    with_reducible refine Ks.n ?_
    simp only [zD]
    with_reducible refine Ks.n ?_
    simp only [zD]
    with_reducible refine Ks.n ?_
    simp only [zD]
    with_reducible refine Ks.n ?_
    simp only [zD]
    with_reducible refine Ks.n ?_
    simp only [zD]
    with_reducible refine Ks.n ?_
    simp only [zD]
    with_reducible refine Ks.n ?_
    simp only [zD]
    with_reducible refine Ks.n ?_
    simp only [zD]
    refine Ks.g (.bool true) ?_
    simp only [zD]
    refine Ks.v (.bool true) ?_
    simp only [zD]
    refine Ks.v (.int .i64 (i : Int)) ?_
    simp only [zD]
    refine Ks.v (.bool true) ?_
    simp only [zD]
    refine Ks.done ?_
    refine wp_ret ?_
    repeat (refine Ks.ret ?_)
    refine bodyPost_ret (v := .tuple #[.int .i64 (i : Int), .bool true]) (by simp [results, Tryz.results218]) rfl ?_
    exact ⟨_, rfl, ⟨i, rfl⟩, rfl⟩
   ·rw [decide_eq_false he]
    refine Ks.g (.slice (some ⟨g, 0, none⟩) xs.length cap) ?_
    simp only [zD]
    refine Ks.g (.int .i64 (i : Int)) ?_
    simp only [zD]
    refine Ks.idx (by kernel_rfl) _ _ _ rfl 3 1 Tryz.underlying25 (by kernel_rfl) (by kernel_rfl) g xs.length cap i rfl rfl hin ?_
    simp only [zD]
    refine Ks.z4k (by kernel_rfl) _ _ rfl Tryz.underlying3 rfl g (i * 1) (.int .i64 xs[i]) rfl hgc ?_
    simp only [zD]
    refine Ks.same (by kernel_rfl) 256 #[.int .i64 xs[i]] (by kernel_rfl) (q2l _ wr) ?_
    simp only [zD]
    refine Ks.g (.bool false) ?_
    simp only [zD]
    with_reducible refine Ks.n ?_
    simp only [zD]
    with_reducible refine Ks.n ?_
    simp only [zD]
    refine Ks.g (.bool false) ?_
    simp only [zD]
    refine Ks.g (.bool false) ?_
    simp only [zD]
    refine Ks.v (.bool false) ?_
    simp only [zD]
    refine Ks.v (.int .i64 (i : Int)) ?_
    simp only [zD]
    refine Ks.v (.bool false) ?_
    simp only [zD]
    refine Ks.done ?_
    refine wp_ret ?_
    repeat (refine Ks.ret ?_)
    refine bodyPost_ret (v := .tuple #[.int .i64 (i : Int), .bool false]) (by simp [results, Tryz.results218]) rfl ?_
    exact ⟨_, rfl, ⟨i, rfl⟩, rfl⟩
  ·rw [decide_eq_false (by omega : ¬ (i : Int) < (xs.length : Int))]
   have hmem : decide (x ∈ xs) = false := by
    rw [decide_eq_false_iff_not]
    intro hx
    obtain ⟨k, hk, e⟩ := List.getElem_of_mem hx
    have := hlo k hk (by omega)
    omega
   rw [hmem]
   with_reducible refine Ks.n ?_
   simp only [zD]
   with_reducible refine Ks.n ?_
   simp only [zD]
   with_reducible refine Ks.n ?_
   simp only [zD]
   with_reducible refine Ks.n ?_
   simp only [zD]
   with_reducible refine Ks.n ?_
   simp only [zD]
   with_reducible refine Ks.n ?_
   simp only [zD]
   with_reducible refine Ks.n ?_
   simp only [zD]
   with_reducible refine Ks.n ?_
   simp only [zD]
   with_reducible refine Ks.n ?_
   simp only [zD]
   with_reducible refine Ks.n ?_
   simp only [zD]
   with_reducible refine Ks.n ?_
   simp only [zD]
   with_reducible refine Ks.n ?_
   simp only [zD]
   with_reducible refine Ks.n ?_
   simp only [zD]
   with_reducible refine Ks.n ?_
   simp only [zD]
   with_reducible refine Ks.n ?_
   simp only [zD]
   with_reducible refine Ks.n ?_
   simp only [zD]
   with_reducible refine Ks.n ?_
   simp only [zD]
   refine Ks.v (.bool false) ?_
   simp only [zD]
   refine Ks.v (.int .i64 (i : Int)) ?_
   simp only [zD]
   refine Ks.v (.bool false) ?_
   simp only [zD]
   refine Ks.done ?_
   refine wp_ret ?_
   repeat (refine Ks.ret ?_)
   refine bodyPost_ret (v := .tuple #[.int .i64 (i : Int), .bool false]) (by simp [results, Tryz.results218]) rfl ?_
   exact ⟨_, rfl, ⟨i, rfl⟩, rfl⟩
def y3y (v0 v1 : Value) (b2 b3 : Nat) (p : Option Addr) (n cap k : Nat) (f : Nat → Value) : Act := { tmps := #[v0, v1, .pointer (some ⟨b2, 0, none⟩), .pointer (some ⟨b3, 0, none⟩), .bool false, f 5, f 6, f 7, f 8, f 9, .slice p n cap, .int .i64 (n : Int), .int .i64 (k : Int), f 13, f 14, f 15, f 16, f 17, f 18, f 19, f 20, f 21, f 22, f 23, f 24, f 25, f 26, f 27, f 28, f 29, f 30, f 31, f 32, f 33, f 34, f 35, f 36, f 37], defers := [] }
theorem q2h {l : List (Sn × Value)} {k : Nat} {s : Sn} {m : Value} {x : Int × Int} (h0 : ∀ q ∈ l.take k, q.1.gate ≠ x.1) (h : l[k]? = some (s, m)) (e : s.gate = x.1) : has (l.map Prod.fst) x = s.has x.2 := by
 unfold has
 have hl : l = l.take k ++ (s, m) :: l.drop (k + 1) := by
  obtain ⟨hk, e⟩ := List.getElem?_eq_some_iff.1 h
  conv => lhs; rw [← List.take_append_drop k l, List.drop_eq_getElem_cons hk, e]
 rw [hl, List.map_append, List.find?_append, List.find?_eq_none.2 (by
  intro t ht
  obtain ⟨q, hq, rfl⟩ := List.mem_map.1 ht
  simp [h0 q hq])]
 simp [e]
theorem q2g {l : List (Sn × Value)} {x : Int × Int} (h0 : ∀ q ∈ l, q.1.gate ≠ x.1) : has (l.map Prod.fst) x = false := by
 unfold has
 rw [List.find?_eq_none.2 (by
  intro t ht
  obtain ⟨q, hq, rfl⟩ := List.mem_map.1 ht
  simp [h0 q hq])]
theorem k9a {S : Nat → Prop} (w : World) (F : Int) (sv : Value) (l : List (Sn × Value)) (x1 x2 : Int) (h : z1e S w sv l) (hl : l.length ≤ 1000000000) (hm : ∀ p ∈ l, p.1.more.length ≤ 1000000000 ∧ p.1.more.Pairwise (· < ·)) : Calls Tryz.prog 146 #[.agg #[.int .i64 F, sv], .agg #[.int .i64 x1, .int .i64 x2]] w fun e w' => e = .returned (.bool (has (l.map Prod.fst) (x1, x2))) ∧ Below w.heap.size w w' := by
 obtain ⟨p, cap, rfl, z3s⟩ := Row.form h.row
 obtain ⟨R, hR⟩ : ∃ R, R = has (l.map Prod.fst) (x1, x2) := ⟨_, rfl⟩
 rw [← hR]
 go_enter Tryz.func146, Tryz.ntmps146
 refine wp_seq ?_
 refine Ks.reg ?_
 refine Ks.box rfl _ _ rfl #[.int .i64 F, .slice p l.length cap] rfl ?_
 intro w1 b2 Hb2 HX1 HB1 HS1
 simp only [zD]
 refine Ks.box rfl _ _ rfl #[.int .i64 x1, .int .i64 x2] rfl ?_
 intro w2 b3 Hb3 HY2 HB2 HS2
 have HX2 : Hid (w2.heap[b2]? = _) := (HB2.out.block _ (aL HX1.out)).trans HX1.out
 have HB : Hid (Below w.heap.size w w2) := HB1.out.trans (HB2.out.mono HB1.out.size)
 clear HX1 HB1 HB2 HS1 HS2 Hb2 Hb3
 simp only [zD]
 refine Ks.v (.bool false) ?_
 simp only [zD]
 refine Ks.done ?_
 refine wp_seq ?_
 refine wp_seq ?_
 refine Ks.reg ?_
 refine Ks.v (.pointer (some ⟨b2, 1, none⟩)) ?_
 simp only [zD]
 refine Ks.cell rfl _ _ rfl Tryz.underlying69 rfl b2 1 (.slice p l.length cap) rfl (z0c HX2.out 1 rfl) ?_
 simp only [zD]
 refine Ks.v (.int .i64 (l.length : Int)) ?_
 simp only [zD]
 refine Ks.v (.int .i64 0) ?_
 simp only [zD]
 refine Ks.done ?_
 refine wp_block ?_
 refine Ks.loop (fun m a wr => ∃ (k : Nat) (f : Nat → Value), k ≤ l.length ∧ m = l.length - k ∧ (∀ q ∈ l.take k, q.1.gate ≠ x1) ∧ wr.heap[b3]? = some (.cells #[.int .i64 x1, .int .i64 x2] 154 (0, 0)) ∧ Below w.heap.size w wr ∧ a = y3y (.agg #[.int .i64 F, .slice p l.length cap]) (.agg #[.int .i64 x1, .int .i64 x2]) b2 b3 p l.length cap k f) l.length ⟨0, fun j => Array.getD #[undef, undef, undef, undef, undef, undef, undef, undef, undef, .pointer (some ⟨b2, 1, none⟩)] j undef, Nat.zero_le _, rfl, by simp, HY2.out, HB.out, rfl⟩ ?_
 clear HX2 HY2 HB
 rintro m a wr ⟨k, f, hk, rfl, h0, hY, hB, rfl⟩
 have fin : ∀ (a' : Act) (w' : World) (k' : Nat), k < k' → k' ≤ l.length → (∀ q ∈ l.take k', q.1.gate ≠ x1) → w'.heap[b3]? = some (.cells #[.int .i64 x1, .int .i64 x2] 154 (0, 0)) → Below w.heap.size w w' → a' = y3y (.agg #[.int .i64 F, .slice p l.length cap]) (.agg #[.int .i64 x1, .int .i64 x2]) b2 b3 p l.length cap k' (fun j => a'.tmps.getD j undef) → ∃ m, m < l.length - k ∧ ∃ (k : Nat) (f : Nat → Value), k ≤ l.length ∧ m = l.length - k ∧ (∀ q ∈ l.take k, q.1.gate ≠ x1) ∧ w'.heap[b3]? = some (.cells #[.int .i64 x1, .int .i64 x2] 154 (0, 0)) ∧ Below w.heap.size w w' ∧ a' = y3y (.agg #[.int .i64 F, .slice p l.length cap]) (.agg #[.int .i64 x1, .int .i64 x2]) b2 b3 p l.length cap k f := fun a' w' k' q1 q2 q3 q4 q5 q6 => ⟨l.length - k', by omega, k', _, q2, rfl, q3, q4, q5, q6⟩
 unfold y3y
 refine wp_seq ?_
 refine Ks.reg ?_
 refine Ks.v (.bool (decide ((k : Int) < l.length))) ?_
 simp only [zD]
 refine Ks.done ?_
 refine wp_seq ?_
 refine wp_cond_split rfl ?_ ?_
 ·intro hlt
  have hlt : k < l.length := by have := of_decide_eq_true hlt; omega
  obtain ⟨g, cur, rfl, hg, htk⟩ := z3s k hlt
  have hgl := (aL hg)
  obtain ⟨s, mv, hx⟩ : ∃ s mv, l[k] = (s, mv) := ⟨_, _, rfl⟩
  have hxk : l[k]? = some (s, mv) := by rw [List.getElem?_eq_getElem hlt, hx]
  have hin : (s, mv) ∈ l := List.mem_of_getElem? hxk
  have hmo := (h.more (s, mv) hin).below hB (Nat.le_refl _)
  have hrg : wr.rangeAt g (k * 3) (snC s mv) := z1v (Row.range (f := fun p : Sn × Value => snC p.1 p.2) y4t hg htk hxk) hB hgl
  refine wp_skip ?_
  refine Ks.norm ?_
  refine wp_seq ?_
  refine wp_block ?_
  refine wp_seq ?_
  refine Ks.reg ?_
  refine Ks.idx (by kernel_rfl) _ _ _ rfl 213 3 Tryz.underlying69 (by kernel_rfl) (by kernel_rfl) g l.length cap k rfl rfl hlt ?_
  simp only [zD]
  refine Ks.mid rfl _ _ rfl g (k * 3) rfl (snC s mv) hrg Tryz.underlying213 rfl (by kernel_rfl) ?_
  simp only [zD]
  refine Ks.decl rfl _ rfl (.agg #[.int .i64 0, .int .i64 0, .slice none 0 0]) (by kernel_rfl) rfl _ _ rfl #[.int .i64 s.gate, .int .i64 s.upto, mv] (fun _ => rfl) (fun _ => rfl) (by kernel_rfl) rfl (by
   have := Row.one hmo
   simp [Value.oneCell'] at this ⊢
   exact this) ?_
  intro wa b6 Hb6 HA HBa
  have hB2 : Below w.heap.size w wa := hB.trans (HBa.out.mono hB.size)
  have hmo2 := (h.more (s, mv) hin).below hB2 (Nat.le_refl _)
  have hY2 := (HBa.out.block b3 (aL hY)).trans hY
  simp only [zD]
  refine Ks.done ?_
  refine wp_seq ?_
  refine Ks.reg ?_
  refine Ks.v (.pointer (some ⟨b6, 0, none⟩)) ?_
  simp only [zD]
  refine Ks.cell rfl _ _ rfl Tryz.underlying3 rfl b6 0 (.int .i64 s.gate) rfl (z0c HA.out 0 rfl) ?_
  simp only [zD]
  refine Ks.v (.pointer (some ⟨b3, 0, none⟩)) ?_
  simp only [zD]
  refine Ks.cell rfl _ _ rfl Tryz.underlying3 rfl b3 0 (.int .i64 x1) rfl (z0c hY2 0 rfl) ?_
  simp only [zD]
  refine Ks.v (.bool (decide (s.gate = x1))) ?_
  simp only [zD]
  refine Ks.done ?_
  refine wp_cond_split rfl ?_ ?_
  ·intro he
   have he : s.gate = x1 := of_decide_eq_true he
   have hval := q2h (x := (x1, x2)) h0 hxk he
   rw [← hR] at hval
   refine wp_seq ?_
   refine Ks.reg ?_
   refine Ks.v (.pointer (some ⟨b6, 2, none⟩)) ?_
   simp only [zD]
   refine Ks.cell rfl _ _ rfl Tryz.underlying25 rfl b6 2 mv rfl (z0c HA.out 2 rfl) ?_
   simp only [zD]
   refine Ks.v (.pointer (some ⟨b3, 1, none⟩)) ?_
   simp only [zD]
   refine Ks.cell rfl _ _ rfl Tryz.underlying3 rfl b3 1 (.int .i64 x2) rfl (z0c hY2 1 rfl) ?_
   simp only [zD]
   refine Ks.call rfl 218 #[mv, .int .i64 x2] (by kernel_rfl) (q4g wa mv s.more x2 hmo2 (hm (s, mv) hin).1 (hm (s, mv) hin).2) ?_
   rintro _ _ ⟨⟨i, rfl⟩, rfl⟩
   simp only [zD]
   obtain ⟨fo, hfo⟩ : ∃ fo, fo = decide (x2 ∈ s.more) := ⟨_, rfl⟩
   rw [← hfo]
   refine Ks.v (.tuple #[.int .i64 (i : Int), .bool fo]) ?_
   simp only [zD]
   refine Ks.v (.int .i64 (i : Int)) ?_
   simp only [zD]
   refine Ks.v (.bool fo) ?_
   simp only [zD]
   refine Ks.v (.int .i64 (i : Int)) ?_
   simp only [zD]
   refine Ks.v (.bool fo) ?_
   simp only [zD]
   refine Ks.done ?_
   refine wp_seq ?_
   refine Ks.reg ?_
   refine Ks.v (.bool fo) ?_
   simp only [zD]
   refine Ks.v (.bool fo) ?_
   simp only [zD]
   cases fo with
   | true =>
    with_reducible refine Ks.n ?_
    simp only [zD]
    with_reducible refine Ks.n ?_
    simp only [zD]
    with_reducible refine Ks.n ?_
    simp only [zD]
    with_reducible refine Ks.n ?_
    simp only [zD]
    with_reducible refine Ks.n ?_
    simp only [zD]
    refine Ks.v (.bool true) ?_
    simp only [zD]
    refine Ks.v (.bool true) ?_
    simp only [zD]
    refine Ks.done ?_
    obtain rfl : R = true := by rw [hval, Sn.has, ← hfo]; rfl
    refine wp_ret ?_
    repeat (refine Ks.ret ?_)
    refine Ks.y2y ?_
    repeat (refine Ks.ret ?_)
    refine Ks.y2y ?_
    repeat (refine Ks.ret ?_)
    exact bodyPost_ret (v := .bool true) (by simp [results, Tryz.results146]) rfl ⟨rfl, hB2⟩
   | false =>
    refine Ks.g (.pointer (some ⟨b3, 1, none⟩)) ?_
    simp only [zD]
    refine Ks.z4k (by kernel_rfl) _ _ rfl Tryz.underlying3 rfl b3 1 (.int .i64 x2) rfl (z0c hY2 1 rfl) ?_
    simp only [zD]
    refine Ks.g (.pointer (some ⟨b6, 1, none⟩)) ?_
    simp only [zD]
    refine Ks.z4k (by kernel_rfl) _ _ rfl Tryz.underlying3 rfl b6 1 (.int .i64 s.upto) rfl (z0c HA.out 1 rfl) ?_
    simp only [zD]
    refine Ks.g (.bool (decide (x2 ≤ s.upto))) ?_
    simp only [zD]
    refine Ks.v (.bool (decide (x2 ≤ s.upto))) ?_
    simp only [zD]
    refine Ks.v (.bool (decide (x2 ≤ s.upto))) ?_
    simp only [zD]
    refine Ks.done ?_
    obtain rfl : R = decide (x2 ≤ s.upto) := by rw [hval, Sn.has, ← hfo]; rfl
    refine wp_ret ?_
    repeat (refine Ks.ret ?_)
    refine Ks.y2y ?_
    repeat (refine Ks.ret ?_)
    refine Ks.y2y ?_
    repeat (refine Ks.ret ?_)
    exact bodyPost_ret (v := .bool (decide (x2 ≤ s.upto))) (by simp [results, Tryz.results146]) rfl ⟨rfl, hB2⟩
  ·intro he
   have he : ¬ s.gate = x1 := of_decide_eq_false he
   refine wp_skip ?_
   refine Ks.inb ?_
   refine Ks.reg ?_
   refine Ks.val rfl (.int .i64 ((k + 1 : Nat) : Int)) (by
    simp [execOp, go_sem]
    rw [IntWalk.i64_in _ ⟨by omega, by omega⟩]) ?_
   simp only [zD]
   refine Ks.v (.int .i64 ((k + 1 : Nat) : Int)) ?_
   simp only [zD]
   refine Ks.done ?_
   refine fin _ wa (k + 1) (by omega) hlt ?_ hY2 hB2 rfl
   rw [z3a hxk]
   intro q hq
   rcases List.mem_append.1 hq with hq | hq
   ·exact h0 q hq
   ·obtain rfl : q = (s, mv) := List.mem_singleton.1 hq
    exact he
 ·intro hlt
  obtain rfl : k = l.length := by have := of_decide_eq_false hlt; omega
  rw [List.take_of_length_le (Nat.le_refl _)] at h0
  obtain rfl : R = false := by rw [hR, q2g (x := (x1, x2)) h0]
  refine wp_exit ?_
  refine Ks.z3r ?_
  refine Ks.norm ?_
  refine wp_seq ?_
  refine Ks.reg ?_
  refine Ks.v (.bool false) ?_
  simp only [zD]
  refine Ks.done ?_
  refine wp_ret ?_
  repeat (refine Ks.ret ?_)
  refine bodyPost_ret (v := .bool false) (by simp [results, Tryz.results146]) rfl ?_
  exact ⟨rfl, hB⟩
end Gt
open Go Go.RowKit
namespace Gt
open Mp Bk Tk
def z5s (x : It) : Int × Int := if x.gone then (0, 0) else x.pass
theorem x6v {l : List It} (hr : y0k l) {lh ld lu} (H : Has l lh ld lu) {x : It} (hx : x ∈ l) : at? x.key ld = if x.gone then none else some x.pass := by
 have hn : (ld.map Prod.fst).Nodup := by
  have h1 : ((held l).map It.key).Nodup := List.Nodup.sublist (List.Sublist.map _ List.filter_sublist) hr.keys
  have h2 : (ld.map Prod.fst).Perm ((held l).map It.key) := by
   have := H.held.map Prod.fst
   rwa [List.map_map] at this
  exact h2.nodup_iff.2 h1
 cases hg : x.gone
 ·rw [if_neg (by simp)]
  refine x3f hn (H.held.mem_iff.2 (List.mem_map.2 ⟨x, List.mem_filter.2 ⟨hx, by simp [hg]⟩, rfl⟩))
 ·rw [if_pos rfl, y3m]
  intro p hp e
  obtain ⟨y, hy, rfl⟩ := List.mem_map.1 (H.held.mem_iff.1 hp)
  have hyl := (List.mem_filter.1 hy)
  have e2 : y.key = x.key := e
  obtain ⟨i, hi, ei⟩ := List.getElem_of_mem hyl.1
  obtain ⟨j, hj, ej⟩ := List.getElem_of_mem hx
  have : i = j := z4o hr.keys (l := l) (List.getElem?_eq_getElem hi) (List.getElem?_eq_getElem hj) (by rw [ei, ej, e2])
  subst this
  rw [ei] at ej
  subst ej
  simp [hg] at hyl
theorem k5z {S : Nat → Prop} {w : World} {g : Nat} {s : St} (h : z0h S w g s) (hr : y0k s.l) (x : It) (hx : x ∈ s.l) : Calls Tryz.prog 147 #[.pointer (some ⟨g, 3, none⟩), two x.key] w fun e w' => e = .returned (.tuple #[two (z5s x), .bool (!x.gone)]) ∧ Below w.heap.size w w' := by
 obtain ⟨_, vh, vd, vu, hg, hm⟩ := h
 have HC0 : Hid (w.cell? ⟨g, 5, none⟩ = some vd) := z0c hg 5 rfl
 have hgl := (aL hg)
 clear hg
 obtain ⟨lh, ld, lu, V1, V2, V3, H⟩ := hm.ask
 have e1 : Hid (((at? x.key ld).map two).getD (two (0, 0)) = two (z5s x)) := by
  show _ = _
  rw [x6v hr H hx]
  unfold z5s
  cases x.gone <;> rfl
 have e2 : Hid ((at? x.key ld).isSome = !x.gone) := by
  show _ = _
  rw [x6v hr H hx]
  cases x.gone <;> rfl
 clear H V1 V3 hm
 generalize z5s x = q at *
 generalize (!x.gone) = b at *
 generalize hkk : x.key = c at *
 clear hkk hx
 go_enter Tryz.func147, Tryz.ntmps147
 refine wp_seq ?_
 refine Ks.reg ?_
 refine Ks.box rfl _ _ rfl #[.int .i64 c.1, .int .i64 c.2] rfl ?_
 intro w1 b1 Hb1 HX1 HB1 HS1
 simp only [zD]
 refine Ks.alloc rfl _ rfl (.agg #[.int .i64 0, .int .i64 0]) (by kernel_rfl) #[.int .i64 0, .int .i64 0] rfl ?_
 intro w2 b4 Hb4 HR2 HB2 HS2
 have HX2 : Hid (w2.heap[b1]? = some (.cells #[.int .i64 c.1, .int .i64 c.2] 154 (0, 0))) := (HB2.out.block _ (aL HX1.out)).trans HX1.out
 have HB : Hid (Below w.heap.size w w2) := HB1.out.trans (HB2.out.mono HB1.out.size)
 have HV : Hid (V w2 vd two two ld) := by
  rcases V2 with h1 | ⟨b, e1, h1⟩
  ·exact Or.inl h1
  ·exact Or.inr ⟨b, e1, h1.congr (HB.out.block b h1.lt)⟩
 have HC : Hid (w2.cell? ⟨g, 5, none⟩ = some vd) := by
  show _ = _
  rw [HB.out.cell (by exact hgl)]
  exact HC0.out
 have hG : g < w2.heap.size := Nat.lt_of_lt_of_le hgl HB.out.size
 have hb4w : w.heap.size ≤ b4 := by rw [Hb4.out]; exact HB1.out.size
 clear HX1 HB1 HB2 HS1 HS2 Hb1 Hb4 HC0 V2
 simp only [zD]
 refine Ks.v (.bool false) ?_
 simp only [zD]
 refine Ks.done ?_
 refine wp_seq ?_
 refine Qt.z9a 9 (by kernel_rfl) (by kernel_rfl) _ _ rfl rfl 150 rfl #[.int .i64 0, .int .i64 0] (by kernel_rfl) _ _ rfl #[.int .i64 q.1, .int .i64 q.2] (by kernel_rfl) rfl (by kernel_rfl) ?_
 simp only [List.take_succ_cons, List.take_zero]
 refine Qt.z0b rfl (.pointer (some ⟨g, 3, none⟩)) (fun _ _ => by kernel_rfl) ?_
 refine Qt.z0b rfl (.pointer (some ⟨g, 3, none⟩)) (fun _ _ => by kernel_rfl) ?_
 refine Qt.z0b rfl (.pointer (some ⟨g, 5, none⟩)) (fun _ _ => by kernel_rfl) ?_
 simp only [zD]
 refine z5f rfl _ _ rfl z7e rfl g 5 vd rfl hG HC.out ?_
 simp only [zD]
 refine Qt.z7g rfl _ _ rfl _ rfl _ _ _ _ HX2.out Tryz.underlying154 rfl (by kernel_rfl) ?_
 simp only [zD]
 refine q0c rfl _ _ _ rfl k2h z7e q0d rfl HV.out c rfl ?_
 rw [e1.out, e2.out]
 simp only [zD]
 refine Qt.z0b rfl (.tuple #[two q, .bool b]) (fun _ _ => by kernel_rfl) ?_
 refine Qt.z0b rfl (two q) (fun _ _ => by kernel_rfl) ?_
 refine Qt.z0b rfl (.bool b) (fun _ _ => by kernel_rfl) ?_
 simp only [zD]
 refine Qt.z1a ⟨fun _ => rfl, fun _ => rfl, ?_⟩
 intro b6 w3 hb6 HQ3 hb3
 have HR3 : Hid (w3.heap[b4]? = some (.cells #[.int .i64 0, .int .i64 0] 150 (0, 0))) := (hb3.block _ (aL HR2.out)).trans HR2.out
 have HB3 : Hid (Below w.heap.size w w3) := HB.out.trans (hb3.mono HB.out.size)
 simp only [List.setIfInBounds_toArray, List.set_cons_zero, List.set_cons_succ]
 refine Ks.v (.bool b) ?_
 simp only [zD]
 refine Ks.done ?_
 refine wp_seq ?_
 refine Ks.reg ?_
 refine Ks.row rfl _ _ rfl b6 rfl HQ3 Tryz.underlying150 rfl (by kernel_rfl) ?_
 simp only [zD]
 refine Ks.v (.bool b) ?_
 simp only [zD]
 refine Ks.whole rfl _ _ _ rfl b4 #[.int .i64 q.1, .int .i64 q.2] rfl rfl HR3.out (by kernel_rfl) rfl (by kernel_rfl) ?_
 intro w4 HR4 H2 H3 H4
 simp only [Act.put]
 refine Ks.v (.bool b) ?_
 simp only [zD]
 refine Ks.done ?_
 refine wp_ret ?_
 repeat (refine Ks.ret ?_)
 exact Ww.z8h Tryz.results147 rfl b4 _ #[.int .i64 q.1, .int .i64 q.2] _ _ (.bool b) rfl rfl HR4.out Tryz.underlying150 rfl (by kernel_rfl) ⟨rfl, HB3.out.trans ((H2.out (fun _ => False) w.heap.size (Or.inr hb4w)).below (Nat.le_refl _) (fun _ _ h => h))⟩
def itB (a p : Int × Int) (k : Bool) : It := if k then ⟨a.1, a.2, p.1, p.2, false⟩ else ⟨a.1, a.2, 0, 0, true⟩
theorem k4x (a p : Int × Int) (k : Bool) (w : World) : Calls Tryz.prog 148 #[two a, two p, .bool k] w fun e w' => e = .returned (itV (itB a p k)) ∧ Below w.heap.size w w' := by
 go_enter Tryz.func148, Tryz.ntmps148
 refine wp_seq ?_
 refine Ks.reg ?_
 refine Ks.box rfl _ _ rfl #[.int .i64 a.1, .int .i64 a.2] rfl ?_
 intro w1 b3 Hb3 HX1 HB1 HS1
 simp only [zD]
 refine Ks.box rfl _ _ rfl #[.int .i64 p.1, .int .i64 p.2] rfl ?_
 intro w2 b4 Hb4 HY2 HB2 HS2
 have HX2 : Hid (w2.heap[b3]? = some (.cells #[.int .i64 a.1, .int .i64 a.2] 154 (0, 0))) := (HB2.out.block _ (aL HX1.out)).trans HX1.out
 have HB12 : Hid (Below w.heap.size w w2) := HB1.out.trans (HB2.out.mono HB1.out.size)
 clear HX1 HB1 HB2 HS1 HS2 Hb3 Hb4
 simp only [zD]
 refine Ks.alloc rfl _ rfl (.agg #[.int .i64 0, .int .i64 0, .int .i64 0, .int .i64 0, .bool false]) (by kernel_rfl) #[.int .i64 0, .int .i64 0, .int .i64 0, .int .i64 0, .bool false] rfl ?_
 intro w3 b6 Hb6 HR3 HB3 HS3
 have HX3 : Hid (w3.heap[b3]? = some (.cells #[.int .i64 a.1, .int .i64 a.2] 154 (0, 0))) := (HB3.out.block _ (aL HX2.out)).trans HX2.out
 have HY3 : Hid (w3.heap[b4]? = some (.cells #[.int .i64 p.1, .int .i64 p.2] 150 (0, 0))) := (HB3.out.block _ (aL HY2.out)).trans HY2.out
 have HB : Hid (Below w.heap.size w w3) := HB12.out.trans (HB3.out.mono HB12.out.size)
 have hb6 : w.heap.size ≤ b6 := by rw [Hb6.out]; exact HB12.out.size
 clear HX2 HY2 HB12 HB3 HS3 Hb6
 simp only [zD]
 refine Ks.done ?_
 refine wp_seq ?_
 refine wp_seq ?_
 refine Ks.reg ?_
 refine Ks.v (.bool k) ?_
 simp only [zD]
 refine Ks.v (.bool (!k)) ?_
 simp only [zD]
 refine Ks.done ?_
 cases k with
 | false =>
  refine wp_cond_true rfl ?_
  refine wp_seq ?_
  refine Ks.reg ?_
  refine Ks.v (.pointer (some ⟨b3, 0, none⟩)) ?_
  simp only [zD]
  refine Ks.cell rfl _ _ rfl Tryz.underlying3 rfl b3 0 (.int .i64 a.1) rfl (z0c HX3.out 0 rfl) ?_
  simp only [zD]
  refine Ks.v (.pointer (some ⟨b3, 1, none⟩)) ?_
  simp only [zD]
  refine Ks.cell rfl _ _ rfl Tryz.underlying3 rfl b3 1 (.int .i64 a.2) rfl (z0c HX3.out 1 rfl) ?_
  simp only [zD]
  refine Ks.v (.agg #[.int .i64 a.1, .int .i64 a.2, .int .i64 0, .int .i64 0, .bool true]) ?_
  simp only [zD]
  refine Ks.whole rfl _ _ _ rfl b6 #[.int .i64 a.1, .int .i64 a.2, .int .i64 0, .int .i64 0, .bool true] rfl rfl HR3.out (by kernel_rfl) rfl (by kernel_rfl) ?_
  intro w4 HR4 H2 H3 H4
  simp only [Act.put]
  refine Ks.done ?_
  refine wp_ret ?_
  repeat (refine Ks.ret ?_)
  exact Own.z1g Tryz.results148 rfl b6 _ #[.int .i64 a.1, .int .i64 a.2, .int .i64 0, .int .i64 0, .bool true] _ _ rfl HR4.out Tryz.underlying73 rfl (by kernel_rfl) ⟨rfl, HB.out.trans ((H2.out (fun _ => False) w.heap.size (Or.inr hb6)).below (Nat.le_refl _) (fun _ _ h => h))⟩
 | true =>
  refine wp_cond_false rfl ?_
  refine wp_skip ?_
  refine Ks.norm ?_
  refine wp_seq ?_
  refine Ks.reg ?_
  refine Ks.v (.pointer (some ⟨b3, 0, none⟩)) ?_
  simp only [zD]
  refine Ks.cell rfl _ _ rfl Tryz.underlying3 rfl b3 0 (.int .i64 a.1) rfl (z0c HX3.out 0 rfl) ?_
  simp only [zD]
  refine Ks.v (.pointer (some ⟨b3, 1, none⟩)) ?_
  simp only [zD]
  refine Ks.cell rfl _ _ rfl Tryz.underlying3 rfl b3 1 (.int .i64 a.2) rfl (z0c HX3.out 1 rfl) ?_
  simp only [zD]
  refine Ks.v (.pointer (some ⟨b4, 0, none⟩)) ?_
  simp only [zD]
  refine Ks.cell rfl _ _ rfl Tryz.underlying3 rfl b4 0 (.int .i64 p.1) rfl (z0c HY3.out 0 rfl) ?_
  simp only [zD]
  refine Ks.v (.pointer (some ⟨b4, 1, none⟩)) ?_
  simp only [zD]
  refine Ks.cell rfl _ _ rfl Tryz.underlying3 rfl b4 1 (.int .i64 p.2) rfl (z0c HY3.out 1 rfl) ?_
  simp only [zD]
  refine Ks.v (.agg #[.int .i64 a.1, .int .i64 a.2, .int .i64 p.1, .int .i64 p.2, .bool false]) ?_
  simp only [zD]
  refine Ks.whole rfl _ _ _ rfl b6 #[.int .i64 a.1, .int .i64 a.2, .int .i64 p.1, .int .i64 p.2, .bool false] rfl rfl HR3.out (by kernel_rfl) rfl (by kernel_rfl) ?_
  intro w4 HR4 H2 H3 H4
  simp only [Act.put]
  refine Ks.done ?_
  refine wp_ret ?_
  repeat (refine Ks.ret ?_)
  exact Own.z1g Tryz.results148 rfl b6 _ #[.int .i64 a.1, .int .i64 a.2, .int .i64 p.1, .int .i64 p.2, .bool false] _ _ rfl HR4.out Tryz.underlying73 rfl (by kernel_rfl) ⟨rfl, HB.out.trans ((H2.out (fun _ => False) w.heap.size (Or.inr hb6)).below (Nat.le_refl _) (fun _ _ h => h))⟩
theorem k4w {s : St} (hI : Inv s) {x : It} (hx : x ∈ s.l) : itB x.key (z5s x) (!x.gone) = x := by
 have f := hI.fair x hx
 obtain ⟨g, a, e, sr, go⟩ := x
 cases go
 ·rfl
 ·have := f.gone rfl
  simp only at this
  obtain ⟨rfl, rfl⟩ := this
  rfl
end Gt
end Go.Proofs.YtbojijefenfbgaaGreatDoor

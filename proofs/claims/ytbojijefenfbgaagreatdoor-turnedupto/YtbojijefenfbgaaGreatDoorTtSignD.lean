/- Walks of the program's signing: Sign. A region that draws its order, whose first n operations may make new blocks: of each one's value and the world something is said that lasts (R); what an operation looks at has come up before it. Then it holds of all of them behind the head, whatever the order. Walks of the program's signing: Right. A region that draws its order: its first n operations only read; the others stand in a row behind them. -/
import Derived.Test.YtbojijefenfbgaaGreatDoorTtTakeMath
set_option maxRecDepth 100000
namespace Go.Proofs.YtbojijefenfbgaaGreatDoor
open Go.RowKit
namespace Gw
open Fw Bt Ww Sw Cw Ed
theorem y2s (ss : List (List UInt8)) : Hs.z2u (ss.map fun l => ⟨l.toArray⟩) = ss.flatten := by
 induction ss with
 | nil => rfl
 | cons a ss ih =>
  have : Hs.z2u (List.map (fun l : List UInt8 => (⟨l.toArray⟩ : ByteArray)) (a :: ss)) = a ++ Hs.z2u (ss.map fun l => ⟨l.toArray⟩) := by simp [Hs.z2u]
  rw [this, ih]; rfl
theorem j2y (ss : List (List UInt8)) (b : Nat) (w : World) (hb : w.heap[b]? = some (.cells (ss.map fun l => Value.string ⟨l.toArray⟩).toArray 9 (0, 0))) (ht : Hs.z0j w) (hlen : ss.flatten.length ≤ 1000000000) (hn : ss.length ≤ 1000000000) :
  Calls Tryz.prog 109 #[.slice (some ⟨b, 0, none⟩) ss.length ss.length] w fun e w' => e = .returned (.string ⟨(Sha.sha ss.flatten).toArray⟩) ∧ Below w.heap.size w w' := by
 have h := Hs.q6h w (some ⟨b, 0, none⟩) ss.length (ss.map fun l => ⟨l.toArray⟩) (.inr ⟨b, 0, rfl, fun j hj => by
  rw [cell_of_row w b _ _ _ _ hb]
  simp at hj
  simp [hj]⟩) ht (by rw [y2s]; exact hlen) (by simpa using hn)
 rw [y2s, List.length_map] at h
 exact h
theorem x7u (ss : List (List UInt8)) (w : World) (ht : Hs.z0j w) (hlen : ss.flatten.length ≤ 1000000000) (hn : ss.length ≤ 1000000000) :
  Calls Tryz.prog 109 #[.slice (some ⟨w.heap.size, 0, none⟩) ss.length ss.length] (w.alloc (.cells (ss.map fun l => Value.string ⟨l.toArray⟩).toArray 9)) fun e w' => e = .returned (.string ⟨(Sha.sha ss.flatten).toArray⟩) ∧ Below w.heap.size w w' :=
 (j2y ss w.heap.size _ (heap_alloc_new _ _) (ht.below ((Below.refl w.heap.size w).alloc (Nat.le_refl _) _) ht.lt) hlen hn).mono fun e w' ⟨he, hb⟩ => ⟨he, ((Below.refl w.heap.size w).alloc (Nat.le_refl _) _).trans (hb.mono (by simp))⟩
theorem y3l (a b : List UInt8) : (⟨a.toArray⟩ : ByteArray) ++ ⟨b.toArray⟩ = ⟨(a ++ b).toArray⟩ := by
 apply ByteArray.ext
 simp
def rN (l t : List UInt8) : Nat := le (Sha.sha ((Sha.sha l).drop 32 ++ t)) % LL
def rB (l t : List UInt8) : List UInt8 := y3v (z1x bP (rN l t))
def kN (R A t : List UInt8) : Nat := le (Sha.sha (R ++ A ++ t)) % LL
def sN (l t : List UInt8) : Nat := (rN l t + kN (rB l t) (z6v l) t * sec l) % LL
def z6l (l t : List UInt8) : List UInt8 := rB l t ++ leB (sN l t) 32
theorem z3f (p : Pt) : (y3v p).length = 32 := z6w _ _
theorem z8v (n : Nat) : n % LL < LL := Nat.mod_lt _ (by decide)
theorem y5m {n : Nat} (h : n < LL) : n < 115792089237316195423570985008687907853269984665640564039457584007913129639936 := Nat.lt_trans h (by decide)
set_option maxHeartbeats 1000000 in
theorem q6l (l t : List UInt8) (hl : l.length ≤ 1000000000) (htl : t.length ≤ 900000000) (w : World) (ht : Hs.z0j w) : Calls Tryz.prog 54 #[.string ⟨l.toArray⟩, .string ⟨t.toArray⟩] w fun e w' => e = .returned (.string ⟨(z6l l t).toArray⟩) ∧ Below w.heap.size w w' := by
 obtain ⟨o, ho⟩ : ∃ o, o = (Sha.sha l).drop 32 := ⟨_, rfl⟩
 have hol : o.length = 32 := by rw [ho, List.length_drop, y1q]
 obtain ⟨r, hr⟩ : ∃ r, r = rN l t := ⟨_, rfl⟩
 obtain ⟨R, hR⟩ : ∃ R, R = rB l t := ⟨_, rfl⟩
 obtain ⟨A, hA⟩ : ∃ A, A = z6v l := ⟨_, rfl⟩
 obtain ⟨k, hk⟩ : ∃ k, k = kN R A t := ⟨_, rfl⟩
 obtain ⟨n, hn⟩ : ∃ n, n = sec l := ⟨_, rfl⟩
 have Hr : Hid (le (Sha.sha (o ++ t)) % LL = r) := by rw [hr, ho]; rfl
 have Hk : Hid (le (Sha.sha (R ++ (A ++ t))) % LL = k) := by
  show _ = _
  rw [hk, ← List.append_assoc]; rfl
 have hrL : r < LL := by rw [hr]; exact z8v _
 have hRl : R.length = 32 := by rw [hR]; exact z3f _
 have hAl : A.length = 32 := by rw [hA]; exact z3f _
 have Hsig : Hid (z6l l t = R ++ leB ((r + k * n) % LL) 32) := by
  show _ = _
  rw [hk, hR, hr, hA, hn]; rfl
 have Hh : Hid (∀ w, Hs.z0j w → Calls Tryz.prog 119 #[.string ⟨l.toArray⟩] w fun e w' => e = .returned (.tuple #[.agg (nq n).cells, .string ⟨o.toArray⟩]) ∧ Below w.heap.size w w') := by
  intro w ht
  rw [hn, ho]; exact x0z l hl w ht
 have HtbR : Hid (∀ w, Calls Tryz.prog 120 #[.agg (nq r).cells] w fun e w' => e = .returned (.string ⟨R.toArray⟩) ∧ Below w.heap.size w w') := by
  rw [hR, hr]; exact z7r _ (y5m (z8v _))
 have HtbA : Hid (∀ w, Calls Tryz.prog 120 #[.agg (nq n).cells] w fun e w' => e = .returned (.string ⟨A.toArray⟩) ∧ Below w.heap.size w w') := by
  rw [hA, hn]; exact z7r _ (x9a l)
 have Hadd : Hid (∀ w, Calls Tryz.prog 121 #[.agg (nq r).cells, .agg (nq k).cells, .agg (nq n).cells] w fun e w' => e = .returned (.agg (nq ((r + k * n) % LL)).cells) ∧ Below w.heap.size w w') := by
  intro w
  have hkL : k < LL := by rw [hk]; exact z8v _
  have hnl : n < 115792089237316195423570985008687907853269984665640564039457584007913129639936 := by rw [hn]; exact x9a l
  have h := q0m (nq r) (nq k) (nq n) (by rw [z3c (y5m hrL)]; exact hrL) w
  rw [z3c (y5m hrL), z3c (y5m hkL), z3c hnl] at h
  exact h
 have Hby : Hid (∀ w, Calls Tryz.prog 122 #[.agg (nq ((r + k * n) % LL)).cells] w fun e w' => e = .returned (.string ⟨(leB ((r + k * n) % LL) 32).toArray⟩) ∧ Below w.heap.size w w') := by
  intro w
  have h := y8g (nq ((r + k * n) % LL)) w
  rw [z3c (y5m (z8v _))] at h
  exact h
 obtain ⟨h1, hh1⟩ : ∃ h1, h1 = Sha.sha (o ++ t) := ⟨_, rfl⟩
 obtain ⟨h2, hh2⟩ : ∃ h2, h2 = Sha.sha (R ++ (A ++ t)) := ⟨_, rfl⟩
 have Hof1 : Hid (∀ w, Hs.z0j w → Calls Tryz.prog 109 #[.slice (some ⟨w.heap.size, 0, none⟩) 2 2] (w.alloc (.cells #[.string ⟨o.toArray⟩, .string ⟨t.toArray⟩] 9)) fun e w' => e = .returned (.string ⟨h1.toArray⟩) ∧ Below w.heap.size w w') := by
  intro w ht
  have h := x7u [o, t] w ht (by simp; omega) (by simp)
  rw [show [o, t].flatten = o ++ t by simp, ← hh1] at h
  exact h
 have Hof2 : Hid (∀ w, Hs.z0j w → Calls Tryz.prog 109 #[.slice (some ⟨w.heap.size, 0, none⟩) 3 3] (w.alloc (.cells #[.string ⟨R.toArray⟩, .string ⟨A.toArray⟩, .string ⟨t.toArray⟩] 9)) fun e w' => e = .returned (.string ⟨h2.toArray⟩) ∧ Below w.heap.size w w') := by
  intro w ht
  have h := x7u [R, A, t] w ht (by simp; omega) (by simp)
  rw [show [R, A, t].flatten = R ++ (A ++ t) by simp, ← hh2] at h
  exact h
 have Hfh1 : Hid (∀ w, Calls Tryz.prog 108 #[.string ⟨h1.toArray⟩] w fun e w' => e = .returned (.agg (nq r).cells) ∧ Below w.heap.size w w') := by
  intro w
  have h := z8q h1 (by rw [hh1]; exact y1q _) w
  rw [hh1, Hr.out, ← hh1] at h
  exact h
 have Hfh2 : Hid (∀ w, Calls Tryz.prog 108 #[.string ⟨h2.toArray⟩] w fun e w' => e = .returned (.agg (nq k).cells) ∧ Below w.heap.size w w') := by
  intro w
  have h := z8q h2 (by rw [hh2]; exact y1q _) w
  rw [hh2, Hk.out, ← hh2] at h
  exact h
 obtain ⟨sb, hsb⟩ : ∃ sb, sb = leB ((r + k * n) % LL) 32 := ⟨_, rfl⟩
 rw [← hsb] at Hby Hsig
 obtain ⟨sq, hsq⟩ : ∃ sq, sq = nq ((r + k * n) % LL) := ⟨_, rfl⟩
 rw [← hsq] at Hby Hadd
 obtain ⟨qr, hqr⟩ : ∃ q, q = nq r := ⟨_, rfl⟩
 obtain ⟨qk, hqk⟩ : ∃ q, q = nq k := ⟨_, rfl⟩
 obtain ⟨qn, hqn⟩ : ∃ q, q = nq n := ⟨_, rfl⟩
 rw [← hqr] at HtbR Hadd Hfh1
 rw [← hqk] at Hadd Hfh2
 rw [← hqn] at Hh HtbA Hadd
 rw [Hsig.out]
 have hln : Hid (R.length + sb.length < 9223372036854775807) := by
  have h := z6w 32 ((r + k * n) % LL)
  rw [← hsb] at h
  show R.length + sb.length < 9223372036854775807
  omega
 clear hh1 hh2 hsb hsq hqr hqk hqn Hr Hk
 have Ht : Hid (Hs.z0j w) := ht
 clear Hsig hr hR hA hk hn ho hl ht htl hol hRl hAl hrL
 go_enter Tryz.func54, Tryz.ntmps54
 go_wp2_with fail
 refine (Hh.out _ Ht.out).mono ?_
 rintro e w1 ⟨rfl, hb1⟩
 have HB1 : Hid (Below w.heap.size w w1) := hb1
 clear hb1
 go_wp2_with (refine z5m rfl rfl rfl rfl qn (fun _ => rfl) (fun _ => rfl) ?_)
 intro w2 bn hle hW hb2
 have HN2 : Hid (NAt w2 bn qn) := hW
 have HB2 : Hid (Below w.heap.size w w2) := HB1.out.trans (hb2.mono HB1.out.size)
 clear hle hW hb2 HB1
 have Ht2 : Hid (Hs.z0j w2) := Ht.out.below HB2.out Ht.out.lt
 go_wp2_with fail
 refine (Hof1.out w2 Ht2.out).mono ?_
 rintro e w3 ⟨rfl, hb3⟩
 have HX3 : Hid (Below w2.heap.size w2 w3) := hb3
 have HN3 : Hid (NAt w3 bn qn) := HN2.out.below HX3.out HN2.out.lt
 have HB3 : Hid (Below w.heap.size w w3) := HB2.out.trans (HX3.out.mono HB2.out.size)
 clear hb3 HX3 HN2 HB2 Ht2
 go_wp2_with fail
 refine (Hfh1.out _).mono ?_
 rintro e w4 ⟨rfl, hb4⟩
 have HX4 : Hid (Below w3.heap.size w3 w4) := hb4
 have HN4 : Hid (NAt w4 bn qn) := HN3.out.below HX4.out HN3.out.lt
 have HB4 : Hid (Below w.heap.size w w4) := HB3.out.trans (HX4.out.mono HB3.out.size)
 clear hb4 HX4 HN3 HB3
 go_wp2_with (refine z5m rfl rfl rfl rfl qr (fun _ => rfl) (fun _ => rfl) ?_)
 intro w5 br hle hW hb5
 have HX5 : Hid (Below w4.heap.size w4 w5) := hb5
 have HR5 : Hid (NAt w5 br qr) := hW
 have HN5 : Hid (NAt w5 bn qn) := HN4.out.below HX5.out HN4.out.lt
 have HB5 : Hid (Below w.heap.size w w5) := HB4.out.trans (HX5.out.mono HB4.out.size)
 clear hle hW hb5 HX5 HN4 HB4
 go_wp2_with (refine z2d rfl _ rfl br qr rfl HR5.out ?_)
 refine (HtbR.out _).mono ?_
 rintro e w6 ⟨rfl, hb6⟩
 have HX6 : Hid (Below w5.heap.size w5 w6) := hb6
 have HR6 : Hid (NAt w6 br qr) := HR5.out.below HX6.out HR5.out.lt
 have HN6 : Hid (NAt w6 bn qn) := HN5.out.below HX6.out HN5.out.lt
 have HB6 : Hid (Below w.heap.size w w6) := HB5.out.trans (HX6.out.mono HB5.out.size)
 clear hb6 HX6 HR5 HN5 HB5
 go_wp2_with (refine z2d rfl _ rfl bn qn rfl HN6.out ?_)
 refine (HtbA.out _).mono ?_
 rintro e w7 ⟨rfl, hb7⟩
 have HX7 : Hid (Below w6.heap.size w6 w7) := hb7
 have HR7 : Hid (NAt w7 br qr) := HR6.out.below HX7.out HR6.out.lt
 have HN7 : Hid (NAt w7 bn qn) := HN6.out.below HX7.out HN6.out.lt
 have HB7 : Hid (Below w.heap.size w w7) := HB6.out.trans (HX7.out.mono HB6.out.size)
 have Ht7 : Hid (Hs.z0j w7) := Ht.out.below HB7.out Ht.out.lt
 clear hb7 HX7 HR6 HN6 HB6
 go_wp2_with fail
 refine (Hof2.out w7 Ht7.out).mono ?_
 rintro e w8 ⟨rfl, hb8⟩
 have HX8 : Hid (Below w7.heap.size w7 w8) := hb8
 have HR8 : Hid (NAt w8 br qr) := HR7.out.below HX8.out HR7.out.lt
 have HN8 : Hid (NAt w8 bn qn) := HN7.out.below HX8.out HN7.out.lt
 have HB8 : Hid (Below w.heap.size w w8) := HB7.out.trans (HX8.out.mono HB7.out.size)
 clear hb8 HX8 HR7 HN7 HB7 Ht7
 go_wp2_with fail
 refine (Hfh2.out _).mono ?_
 rintro e w9 ⟨rfl, hb9⟩
 have HX9 : Hid (Below w8.heap.size w8 w9) := hb9
 have HR9 : Hid (NAt w9 br qr) := HR8.out.below HX9.out HR8.out.lt
 have HN9 : Hid (NAt w9 bn qn) := HN8.out.below HX9.out HN8.out.lt
 have HB9 : Hid (Below w.heap.size w w9) := HB8.out.trans (HX9.out.mono HB8.out.size)
 clear hb9 HX9 HR8 HN8 HB8
 go_wp2_with (refine z5m rfl rfl rfl rfl qk (fun _ => rfl) (fun _ => rfl) ?_)
 intro wa bk hle hW hba
 have HXa : Hid (Below w9.heap.size w9 wa) := hba
 have HKa : Hid (NAt wa bk qk) := hW
 have HRa : Hid (NAt wa br qr) := HR9.out.below HXa.out HR9.out.lt
 have HNa : Hid (NAt wa bn qn) := HN9.out.below HXa.out HN9.out.lt
 have HBa : Hid (Below w.heap.size w wa) := HB9.out.trans (HXa.out.mono HB9.out.size)
 clear hle hW hba HXa HR9 HN9 HB9
 go_wp2_with (first | refine z2d rfl _ rfl br qr rfl HRa.out ?_ | refine z2d rfl _ rfl bk qk rfl HKa.out ?_ | refine z2d rfl _ rfl bn qn rfl HNa.out ?_)
 refine (Hadd.out _).mono ?_
 rintro e wb ⟨rfl, hbb⟩
 have HBb : Hid (Below w.heap.size w wb) := HBa.out.trans (hbb.mono HBa.out.size)
 clear hbb
 go_wp2_with fail
 refine (Hby.out _).mono ?_
 rintro e wc ⟨rfl, hbc⟩
 have HBc : Hid (Below w.heap.size w wc) := HBb.out.trans (hbc.mono HBb.out.size)
 clear hbc
 have happ := y3l R sb
 go_wp2_with fail
 ·rename_i hc
  exact absurd hc (by have := hln.out; omega)
 ·exact bodyPost_ret (v := .string ⟨(R ++ sb).toArray⟩) (by simp [results, Tryz.results54, go_sem]) rfl ⟨rfl, HBc.out⟩
end Gw
open Go Go.RowKit
namespace Qt
def z5g (P : Program) (w : World) (R : Value → World → Prop) : Result Next → Prop
 | .ok (.value u) w1 => R u w1 ∧ Below w.heap.size w w1
 | .ok (.enter f args) w1 => Calls P f args w1 (fun e w'' => ∃ u, e = .returned u ∧ R u w'' ∧ Below w.heap.size w w'')
 | _ => False
theorem z5g.wp {P : Program} {w : World} {o : Oper} {R : Value → World → Prop} {a : Act} {Q : Exit → Act → World → Prop} {K : Act → World → Prop} (h : z5g P w R ((execOp a.eval o).run P w)) (hK : ∀ u w', R u w' → Below w.heap.size w w' → K (a.put o.dst u) w') : o.wp P a w K Q := by
 unfold Oper.wp
 generalize (execOp a.eval o).run P w = r at h
 cases r with
 | halt x w' => cases h
 | ok x w' =>
  cases x with
  | value u => exact hK _ _ h.1 h.2
  | enter f args => exact Calls.mono h fun e w'' ⟨u, he, hr, hb⟩ => by subst he; exact hK _ _ hr hb
  | _ => cases h
def laid (U : Nat → Value) (listed : Array Bool) : List Oper → Nat → Act → Act
 | [], _, a => a
 | o :: l, k, a => laid U listed l (k + 1) (if listed.getD k false = true then a.put o.dst (U k) else a)
def z1l (U : Nat → Value) : List Oper → Nat → Act → Act
 | [], _, a => a
 | o :: l, k, a => z1l U l (k + 1) (a.put o.dst (U k))
theorem q2r (U : Nat → Value) (listed : Array Bool) (x : Option Tmp) (v : Value) (l : List Oper) : ∀ k a, (∀ o ∈ l, ∀ d, x = some d → o.dst ≠ some d) → laid U listed l k (a.put x v) = (laid U listed l k a).put x v := by
 induction l with
 | nil => intros; rfl
 | cons o l ih =>
  intro k a h
  unfold laid
  by_cases hk : listed.getD k false = true
  ·rw [if_pos hk, if_pos hk, ← ih _ _ fun o' ho' => h o' (List.mem_cons_of_mem _ ho'), Act.put_comm a v (U k) (h o (List.mem_cons_self ..))]
  ·rw [if_neg hk, if_neg hk]
   exact ih _ _ fun o' ho' => h o' (List.mem_cons_of_mem _ ho')
theorem x3x (U V : Nat → Value) (l1 l2 : Array Bool) (l : List Oper) : ∀ k a, (∀ j, k ≤ j → l1.getD j false = l2.getD j false ∧ U j = V j) → laid U l1 l k a = laid V l2 l k a := by
 induction l with
 | nil => intros; rfl
 | cons o l ih =>
  intro k a h
  unfold laid
  rw [(h k (Nat.le_refl _)).1, (h k (Nat.le_refl _)).2]
  exact ih _ _ fun j hj => h j (by omega)
theorem y4a (U : Nat → Value) (listed : Array Bool) (i : Nat) (u : Value) (oi : Oper) (hi : listed.getD i true = false) (l : List Oper) : ∀ k a, k ≤ i → l[i - k]? = some oi → (∀ j o, l[j]? = some o → k + j ≠ i → ∀ d, oi.dst = some d → o.dst ≠ some d) →
  laid (fun j => if j = i then u else U j) (listed.setIfInBounds i true) l k a = (laid U listed l k a).put oi.dst u := by
 have hsz : i < listed.size := by
  rcases Nat.lt_or_ge i listed.size with h | h
  ·exact h
  ·simp [Array.getD_eq_getD_getElem?, Array.getElem?_eq_none h] at hi
 induction l with
 | nil => intro k a _ h; simp at h
 | cons o l ih =>
  intro k a hk ho hd
  unfold laid
  by_cases e : k = i
  ·subst e
   have h1 : (listed.setIfInBounds k true).getD k false = true := by simp [Array.getD_eq_getD_getElem?, hsz]
   have h2 : ¬ listed.getD k false = true := by rw [getD_both hi]; decide
   rw [if_pos h1, if_neg h2, if_pos rfl]
   have ho' : o = oi := by simpa using ho
   subst ho'
   rw [← q2r _ _ _ _ _ _ _ (fun o' ho' => by
    obtain ⟨j, hj⟩ := List.mem_iff_getElem?.1 ho'
    exact hd (j + 1) o' (by simpa using hj) (by omega))]
   exact x3x _ _ _ _ _ _ _ fun j hj => ⟨getD_set_ne false (by omega), if_neg (by omega)⟩
  ·have h1 : (listed.setIfInBounds i true).getD k false = listed.getD k false := getD_set_ne false (Ne.symm e)
   rw [h1, if_neg e]
   exact ih _ _ (by omega) (by rw [show i - k = (i - (k + 1)) + 1 by omega] at ho; simpa using ho) fun j o' hj hne => hd (j + 1) o' (by simpa using hj) (by omega)
theorem x1g (U : Nat → Value) (listed : Array Bool) (l : List Oper) : ∀ k a, (∀ j, k ≤ j → j < k + l.length → listed.getD j false = true) → laid U listed l k a = z1l U l k a := by
 induction l with
 | nil => intros; rfl
 | cons o l ih =>
  intro k a h
  unfold laid z1l
  rw [if_pos (h k (Nat.le_refl _) (by simp))]
  exact ih _ _ fun j h1 h2 => h j (by omega) (by simp at h2 ⊢; omega)
theorem y0z (U : Nat → Value) (listed : Array Bool) (x : Operand) (l : List Oper) : ∀ k (a a' : Act), a.tmps.size = a'.tmps.size → a.eval x = a'.eval x → (∀ j o, l[j]? = some o → ∀ d, o.dst = some d → x = .tmp d → listed.getD (k + j) false = true) → (laid U listed l k a).eval x = (z1l U l k a').eval x := by
 induction l with
 | nil => intro k a a' _ h _; exact h
 | cons o l ih =>
  intro k a a' hs he h
  unfold laid z1l
  have hput : ∀ (b : Act) d v, (b.put d v).tmps.size = b.tmps.size := fun b d v => by cases d <;> simp [Act.put]
  refine ih _ _ _ ?_ ?_ fun j o' hj d hd hx => by
   have := h (j + 1) o' (by simpa using hj) d hd hx
   rwa [show k + (j + 1) = k + 1 + j by omega] at this
  ·split <;> simp [hput, hs]
  ·by_cases hk : listed.getD k false = true
   ·rw [if_pos hk]
    cases hd : o.dst with
    | none => exact he
    | some d =>
     cases x with
     | tmp t =>
      simp only [Act.eval, Act.put, Array.getD_eq_getD_getElem?, Array.getElem?_setIfInBounds, hs] at he ⊢
      split
      ·rfl
      ·exact he
     | _ => exact he
   ·rw [if_neg hk, Act.eval_put (fun d hd hx => hk (h 0 o rfl d hd hx))]
    exact he
def left (listed : Array Bool) : Nat → Nat
 | 0 => 0
 | n + 1 => left listed n + (if listed.getD n true = true then 0 else 1)
theorem y1b (listed : Array Bool) (n : Nat) (h : left listed n = 0) : ∀ j, j < n → listed.getD j true = true := by
 induction n with
 | zero => intro j hj; omega
 | succ n ih =>
  intro j hj
  unfold left at h
  by_cases e : j = n
  ·subst e
   by_cases hl : listed.getD j true = true
   ·exact hl
   ·rw [if_neg hl] at h; omega
  ·exact ih (by omega) j (by omega)
theorem y4b (listed : Array Bool) (i n : Nat) (hi : listed.getD i true = false) : left (listed.setIfInBounds i true) n + (if i < n then 1 else 0) = left listed n := by
 have hsz : i < listed.size := by
  rcases Nat.lt_or_ge i listed.size with h | h
  ·exact h
  ·simp [Array.getD_eq_getD_getElem?, Array.getElem?_eq_none h] at hi
 induction n with
 | zero => simp [left]
 | succ n ih =>
  unfold left
  by_cases e : i = n
  ·subst e
   have h1 : (listed.setIfInBounds i true).getD i true = true := by simp [Array.getD_eq_getD_getElem?, hsz]
   rw [h1, hi]
   simp at ih ⊢
   exact ih
  ·rw [getD_set_ne true e]
   by_cases h : i < n
   ·rw [if_pos h] at ih; rw [if_pos (show i < n + 1 by omega)]; omega
   ·rw [if_neg h] at ih; rw [if_neg (show ¬ i < n + 1 by omega)]; omega
theorem x1h (listed : Array Bool) (n : Nat) (h : 0 < left listed n) : ∃ j, j < n ∧ listed.getD j true = false ∧ ∀ k, k < j → listed.getD k true = true := by
 induction n with
 | zero => simp [left] at h
 | succ n ih =>
  by_cases h0 : 0 < left listed n
  ·obtain ⟨j, h1, h2⟩ := ih h0
   exact ⟨j, by omega, h2⟩
  ·refine ⟨n, by omega, ?_, y1b _ _ (by omega)⟩
   unfold left at h
   by_cases hl : listed.getD n true = true
   ·rw [if_pos hl] at h; omega
   ·simpa using hl
def relB (ops : Array Oper) (n : Nat) : Bool :=
 Region.noSelect ops && decide (n < ops.size) && ops.all (fun o => o.guard.isNone) && Region.sinkB .any ops n && Region.chainB .any ops n &&
 (List.range n).all (fun i => match ops[i]? with
  | some oi => oi.after.all (fun e => decide (e.on < i)) && (List.range n).all (fun j => match ops[j]? with
   | some oj => (match oj.dst with
    | some d => (Region.waitsFor .any ops i j || !(oi.looksAt ops).contains d) && (i == j || oi.dst != some d)
    | none => true)
   | none => true)
  | none => false) &&
 Region.seqB .any ops (ops.size - n) n (Array.ofFn (n := ops.size) fun i => decide (i.val < n))
section
variable {P : Program} {W : World} {l : List Oper} {n : Nat} {R : Nat → Value → World → Prop} {a0 : Act} {Q : Exit → Act → World → Prop}
theorem z8b {listed : Array Bool} {j : Nat} (hj : j < listed.size) (h : listed.getD j true = true) : listed.getD j false = true := by
 simp [Array.getD_eq_getD_getElem?, hj] at h ⊢; exact h
theorem k1a (hB : relB l.toArray n = true) (hR : ∀ j u w w', R j u w → Below w.heap.size w w' → R j u w')
  (hstep : ∀ i o, i < n → l[i]? = some o → ∀ U w, Below W.heap.size W w → (∀ j, j < n → Region.waitsFor .any l.toArray i j = true → R j (U j) w) → z5g P w (R i) ((execOp (z1l U (l.take n) 0 a0).eval o).run P w))
  (hend : ∀ U w, Below W.heap.size W w → (∀ j, j < n → R j (U j) w) → wpList P l.toArray Q (l.drop n) (z1l U (l.take n) 0 a0) w) (f : Nat) :
  ∀ listed U w, left listed n = f → HeadInv .any l.toArray n listed → Below W.heap.size W w → (∀ j, j < n → listed.getD j false = true → R j (U j) w) → wpAny P .any l.toArray Q (l.toArray.size - n + f) listed (laid U listed (l.take n) 0 a0) w := by
 simp only [relB, Bool.and_eq_true, decide_eq_true_eq] at hB
 obtain ⟨⟨⟨⟨⟨⟨hsel, hn⟩, hgd⟩, hs⟩, hc⟩, hdep⟩, hseq⟩ := hB
 have hn' : n < l.length := by simpa using hn
 have htl : (l.take n).length = n := by simp; omega
 have hdl : (l.drop n).length = l.toArray.size - n := by simp
 induction f with
 | zero =>
  intro listed U w hf inv hw hr
  have hall : ∀ j, j < n → listed.getD j false = true := fun j hj => z8b (by rw [inv.size]; omega) (y1b _ _ hf j hj)
  have hl : listed = Array.ofFn (n := l.toArray.size) fun i => decide (i.val < n) := by
   apply Array.ext
   ·simp [inv.size]
   ·intro i h1 h2
    simp only [Array.getElem_ofFn]
    by_cases hin : i < n
    ·have := hall i hin
     simp [Array.getD_eq_getD_getElem?, h1] at this
     rw [this]; simp [hin]
    ·have := inv.tail i (by omega) (by rw [← inv.size]; exact h1)
     simp [Array.getD_eq_getD_getElem?, h1] at this
     rw [this]; simp [hin]
  rw [x1g _ _ _ _ _ (fun j _ hj => hall j (by rw [htl] at hj; omega))]
  have := wpAny_of_seq (md := .any) (Q' := Q) (l.drop n) n listed (z1l U (l.take n) 0 a0) w (fun j => by simp [List.getElem?_drop]) (by rw [hdl, hl]; exact hseq) (hend U w hw fun j hj => hr j hj (hall j hj))
  rw [hdl] at this
  exact this
 | succ f ih =>
  intro listed U w hf inv hw hr
  have hinfo : ∀ i, i < n → ∃ oi, l[i]? = some oi ∧ l.toArray[i]? = some oi ∧ (∀ e ∈ oi.after, e.on < i) ∧ ∀ j oj, j < n → l.toArray[j]? = some oj → ∀ d, oj.dst = some d → (Region.waitsFor .any l.toArray i j = true ∨ d ∉ oi.looksAt l.toArray) ∧ (i = j ∨ oi.dst ≠ some d) := by
   intro i hi
   have h1 := List.all_eq_true.1 hdep i (List.mem_range.2 hi)
   obtain ⟨oi, hoi⟩ : ∃ oi, l[i]? = some oi := ⟨l[i], by simp [show i < l.length by omega]⟩
   have hoi' : l.toArray[i]? = some oi := by simpa using hoi
   rw [hoi'] at h1
   simp only [Bool.and_eq_true] at h1
   refine ⟨oi, hoi, hoi', fun e he => ?_, fun j oj hj hoj d hd => ?_⟩
   ·have := Array.all_eq_true_iff_forall_mem.1 h1.1 e he
    simpa using this
   ·have h2 := List.all_eq_true.1 h1.2 j (List.mem_range.2 hj)
    rw [hoj] at h2
    simp only [hd, Bool.and_eq_true, Bool.or_eq_true, beq_iff_eq, bne_iff_ne, Bool.not_eq_true'] at h2
    refine ⟨h2.1.imp id fun h => ?_, h2.2⟩
    intro hm
    rw [List.contains_iff_mem.2 hm] at h
    cases h
  obtain ⟨j0, hj0, hun0, hbelow⟩ := x1h listed n (by omega)
  have hready : j0 ∈ Region.ready .any l.toArray listed := by
   obtain ⟨o0, _, ho0, hback, _⟩ := hinfo j0 hj0
   refine mem_ready.2 ⟨hun0, o0, ho0, fun e he _ => ?_⟩
   have := hback e he
   exact z8b (by rw [inv.size]; omega) (hbelow _ this)
  refine ⟨fun h0 => (by rw [h0] at hready; cases hready), fun i hi => ?_⟩
  have hin : i < n := by
   rcases Nat.lt_or_ge i n with h | h
   ·exact h
   ·exact absurd hi (tail_waits hs hc hn inv _ j0 rfl hj0 hun0 i h)
  obtain ⟨hun, oi0, hoi0, hall⟩ := mem_ready.1 hi
  obtain ⟨oi, hoi, hoi', hback, hlook⟩ := hinfo i hin
  obtain rfl : oi0 = oi := Option.some.inj (hoi0.symm.trans hoi')
  have hg : oi0.guard = none := by
   have h1 := Array.all_eq_true_iff_forall_mem.1 hgd oi0 (Array.mem_of_getElem? hoi')
   simpa using h1
  have hwl : ∀ j, Region.waitsFor .any l.toArray i j = true → listed.getD j false = true := fun j hj => by
   obtain ⟨oj, hoj, e, he, hb, hon⟩ := Region.waitsFor_spec hj
   obtain rfl : oj = oi0 := Option.some.inj (hoj.symm.trans hoi')
   rw [← hon]
   exact hall e he hb
  have hexec : execOp (laid U listed (l.take n) 0 a0).eval oi0 = execOp (z1l U (l.take n) 0 a0).eval oi0 := execOp_congr oi0 (fun cs b => Region.noSelect_spec hsel i oi0 cs b hoi') fun x hx => y0z U listed x (l.take n) 0 a0 a0 rfl rfl fun j oj hj d hd hxd => by
   have hjn : j < n := by
    have := (lL hj)
    omega
   have hj' : l.toArray[j]? = some oj := by
    rw [List.getElem?_take_of_lt hjn] at hj
    simpa using hj
   rcases (hlook j oj hjn hj' d hd).1 with h | h
   ·rw [Nat.zero_add]; exact hwl j h
   ·exact absurd (by
     subst hxd
     exact List.mem_append_left _ (List.mem_filterMap.2 ⟨.tmp d, by simpa using hx, rfl⟩)) h
  have hst := hstep i oi0 hin hoi U w hw fun j hj hwt => hr j hj (hwl j hwt)
  rw [← hexec] at hst
  unfold wpOp
  simp only [hoi']
  rw [if_pos (by simp [Region.wanted, hg])]
  refine .inl (hst.wp fun u w' hu hb => ?_)
  have hset := y4a U listed i u oi0 hun (l.take n) 0 a0 (by omega) (by rw [Nat.sub_zero, List.getElem?_take_of_lt hin]; exact hoi) (fun j o hj hne d hd hd' => by
   have hjn : j < n := by
    have := (lL hj)
    omega
   have hj' : l.toArray[j]? = some o := by
    rw [List.getElem?_take_of_lt hjn] at hj
    simpa using hj
   rcases (hlook j o hjn hj' d hd').2 with h | h
   ·omega
   ·exact h hd)
  rw [← hset]
  refine ih _ _ _ ?_ (inv.set hi hin) (hw.trans (hb.mono hw.size)) fun j hj hl => ?_
  ·have := y4b listed i n hun
   rw [if_pos hin] at this
   omega
  ·by_cases e : j = i
   ·simp only [e, if_true]; exact hu
   ·simp only [if_neg e]
    rw [getD_set_ne false (Ne.symm e)] at hl
    exact hR _ _ _ _ (hr j hj hl) hb
end
theorem k7j {P : Program} {id : Nat} {Q : Exit → Act → World → Prop} {a : Act} {w : World} {l : List Oper} (n : Nat) (R : Nat → Value → World → Prop) (hm : P.follows .mixedOrders = true) (hB : relB l.toArray n = true) (hR : ∀ j u w w', R j u w → Below w.heap.size w w' → R j u w')
  (hstep : ∀ i o, i < n → l[i]? = some o → ∀ U w', Below w.heap.size w w' → (∀ j, j < n → Region.waitsFor .any l.toArray i j = true → R j (U j) w') → z5g P w' (R i) ((execOp (z1l U (l.take n) 0 a).eval o).run P w'))
  (hend : ∀ U w', Below w.heap.size w w' → (∀ j, j < n → R j (U j) w') → wpList P l.toArray Q (l.drop n) (z1l U (l.take n) 0 a) w') : (Code.region id l.toArray true).wp P Q a w := by
 refine wp_region_any hm ?_
 have hn : n < l.toArray.size := by
  simp only [relB, Bool.and_eq_true, decide_eq_true_eq] at hB
  exact hB.1.1.1.1.1.2
 have inv0 : HeadInv .any l.toArray n (Array.replicate l.toArray.size false) :=
  ⟨by simp, fun j oj _ hl => (by rw [getD_replicate_false] at hl; cases hl), fun t _ ht => getD_in (by simpa using ht) (getD_replicate_false _ _)⟩
 have hleft : ∀ m, m ≤ l.toArray.size → left (Array.replicate l.toArray.size false) m = m := by
  intro m
  induction m with
  | zero => intro _; rfl
  | succ m ih =>
   intro h
   unfold left
   rw [ih (by omega), getD_in (by simp at h ⊢; omega) (getD_replicate_false _ _)]
   rfl
 have hlaid : ∀ (l' : List Oper) k, laid (fun _ => undef) (Array.replicate l.toArray.size false) l' k a = a := by
  intro l'
  induction l' with
  | nil => intro k; rfl
  | cons o l' ih =>
   intro k
   unfold laid
   rw [if_neg (by rw [getD_replicate_false]; decide)]
   exact ih _
 have := k1a (P := P) (W := w) (Q := Q) (a0 := a) hB hR hstep hend n (Array.replicate l.toArray.size false) (fun _ => undef) { w with drawn := w.drawn + 1 } (hleft n (by omega)) inv0 ⟨rfl, rfl, rfl, Nat.le_refl _, fun _ _ => rfl⟩ (fun j _ hl => (by rw [getD_replicate_false] at hl; cases hl))
 rw [hlaid, show l.toArray.size - n + n = l.toArray.size by omega] at this
 exact this
end Qt
end Go.Proofs.YtbojijefenfbgaaGreatDoor
namespace Go.Proofs.YtbojijefenfbgaaGreatDoor
open Go.RowKit
namespace Gw
open Fw Bt Ww Sw Cw Ed
def TU (s k : Q) (B A : E) (j : Nat) : Q × E := if j = 0 then (s, B) else (k, A)
def TT (s k : Q) (A : E) : Nat → Q × E := TU s k (aff bX bY) (q5m A)
def k6s (s k : Q) (A : E) : E := y8q (TT s k A) 2 64
noncomputable def k7w (s k : Q) (A : E) : List UInt8 := leB (enc ((k6s s k A).x * inv (k6s s k A).z) ((k6s s k A).y * inv (k6s s k A).z)) 32
noncomputable def z0n (k t g : List UInt8) : Bool :=
 if k.length = 32 ∧ g.length = 64 then
  if le (g.drop 32) < LL then
   if (z9s k).2 = true then decide (k7w (bq (g.drop 32)) (nq (kN (g.take 32) k t)) (z9s k).1 = g.take 32) else false
  else false
 else false
theorem z6i {P : Program} {w : World} {o : Oper} {a : Act} {v0 : Value} (d : Tmp) (hd : o.dst = some d) (hsz : d < a.tmps.size) (h : Qt.Lex P w (fun a' => a'.eval (.tmp d) = v0) [o] a) : Qt.z5g P w (fun v _ => v = v0) ((execOp a.eval o).run P w) := by
 obtain ⟨v, hy, hk⟩ := h
 have hk' : (a.put o.dst v).eval (.tmp d) = v0 := hk
 have hv : v = v0 := by
  rw [hd] at hk'
  simpa [Act.put, Act.eval, hsz] using hk'
 have h1 := hy.2 w (Below.refl _ _)
 subst hv
 generalize (execOp a.eval o).run P w = r at h1
 cases r with
 | halt x w' => cases h1
 | ok x w' =>
  cases x with
  | value u =>
   obtain ⟨e1, e2⟩ := h1
   subst e1 e2
   exact ⟨rfl, Below.refl _ _⟩
  | enter f args =>
   obtain ⟨e1, hc⟩ := h1
   subst e1
   exact Calls.mono hc fun e w'' ⟨he, hb⟩ => ⟨v, he, rfl, hb⟩
  | _ => cases h1
theorem y7j {P : Program} {w : World} {o : Oper} {a : Act} {R : Value → World → Prop} (t : TypeId) (hop : o.op = Op.alloc t) (zs : Array Value) (h2 : (P.info? t).map (fun i => i.zero) = some (some (.agg zs)))
  (h : R (.pointer (some ⟨w.heap.size, 0, none⟩)) (w.alloc (.cells zs t))) : Qt.z5g P w R ((execOp a.eval o).run P w) := by
 obtain ⟨i, hi, hz⟩ := Option.map_eq_some_iff.1 h2
 have hz' : i.zero = some (.agg zs) := hz
 have hr : (execOp a.eval o).run P w = .ok (.value (.pointer (some ⟨w.heap.size, 0, none⟩))) (w.alloc (.cells zs t)) := by
  simp [execOp, hop, Instr.alloc, zeroValue, typeInfo, hi, hz', newVar, newRow, Value.cells, Result.andThen]
 rw [hr]
 exact ⟨h, (Below.refl _ _).alloc (Nat.le_refl _) _⟩
theorem x8r {P : Program} {w : World} {o : Oper} {a : Act} {R : Value → World → Prop} (t e : TypeId) (len : Nat) (parts : Array (Nat × Operand)) (ho : o.op = .buildSlice t len parts) (cells : Array Value) (z : Value) (sz by1 : Nat)
  (hu : P.underlying t = some (.slice e)) (h2 : (P.info? e).map (fun i => (i.zero, i.size, i.bytes)) = some (some z, sz, by1)) (hsmall : ¬ len * sz > 2 ^ 24) (hpos : ¬ len * sz = 0)
  (vs : List (Nat × Value)) (hv : (parts.map fun (i, x) => (i, a.eval x)).toList = vs) (hf : Instr.fill (fun i => some (i * sz, sz)) ((Array.range (len * sz)).map (z.cells[· % z.cells.size]!)) vs = some cells)
  (h : R (.slice (some ⟨w.heap.size, 0, none⟩) len len) (w.alloc (.cells cells e))) : Qt.z5g P w R ((execOp a.eval o).run P w) := by
 obtain ⟨i, hi, hz0, hz1, hz2⟩ := info_parts h2
 subst hz1
 have hr := run_buildSlice (P := P) w t e len (parts.map fun (i, x) => (i, a.eval x)) cells i z hu hi hz0 hsmall hpos (by rw [hv]; exact hf)
 unfold execOp
 simp only [ho, Sem.run_bind, Sem.run_pure, Result.andThen_ok, hr]
 exact ⟨h, (Below.refl _ _).alloc (Nat.le_refl _) _⟩
def RR (B : Nat) (q kq : Q) (Bp A A' e : E) : Nat → Value → World → Prop
 | 0, v, _ => v = .agg q.cells
 | 1, v, _ => v = .agg (pw Bp)
 | 2, v, _ => v = .agg (tw (q, Bp))
 | 3, v, _ => v = .agg kq.cells
 | 4, v, _ => v = .agg (pw A)
 | 5, v, _ => v = .agg (pw A')
 | 6, v, _ => v = .agg (tw (kq, A'))
 | 7, v, w => ∃ b, v = .slice (some ⟨b, 0, none⟩) 2 2 ∧ b < w.heap.size ∧ ∀ j, j < 2 → w.rangeAt b (j * 20) (tw (TU q kq Bp A' j)).toList
 | 8, v, _ => v = .agg (pw e)
 | 9, v, w => ∃ b, v = .pointer (some ⟨b, 0, none⟩) ∧ B ≤ b ∧ PAt w b e0
 | _, _, _ => True
theorem q0j (B : Nat) (q kq : Q) (Bp A A' e : E) (j : Nat) (u : Value) (w w' : World) (h : RR B q kq Bp A A' e j u w) (hb : Below w.heap.size w w') : RR B q kq Bp A A' e j u w' := by
 rcases j with _ | _ | _ | _ | _ | _ | _ | _ | _ | _ | j
 case succ.succ.succ.succ.succ.succ.succ.zero =>
  obtain ⟨b, h1, h2, h3⟩ := h
  exact ⟨b, h1, Nat.lt_of_lt_of_le h2 hb.size, fun j hj n v hv => by rw [hb.cell (by exact h2)]; exact h3 j hj n v hv⟩
 case succ.succ.succ.succ.succ.succ.succ.succ.succ.zero =>
  obtain ⟨b, h1, h2, h3⟩ := h
  exact ⟨b, h1, h2, h3.below hb h3.lt⟩
 all_goals exact h
theorem x8p {w : World} {b : Nat} {X Y : Array Value} {T : TypeId} (hX : X.size = 20) (_hY : Y.size = 20) (h : w.heap[b]? = some (.cells (X ++ Y) T (0, 0))) : w.rangeAt b 0 X.toList ∧ w.rangeAt b 20 Y.toList := by
 refine ⟨fun n v hv => ?_, fun n v hv => ?_⟩
 ·rw [cell_of_row w b _ _ _ _ h]
  have hn : n < X.size := by simpa using (lL hv)
  rw [Array.getElem?_append_left (by omega)]
  simpa using hv
 ·rw [cell_of_row w b _ _ _ _ h]
  rw [Array.getElem?_append_right (by omega), hX, show 20 + n - 20 = n by omega]
  simpa using hv
theorem x8q {w : World} {b : Nat} {q kq : Q} {Bp A' : E} (h : w.heap[b]? = some (.cells (tw (q, Bp) ++ tw (kq, A')) 192 (0, 0))) : ∀ j, j < 2 → w.rangeAt b (j * 20) (tw (TU q kq Bp A' j)).toList := fun j hj => by
 have h1 := x8p (y1u _) (y1u _) h
 obtain rfl | rfl : j = 0 ∨ j = 1 := by omega
 ·exact h1.1
 ·exact h1.2
set_option maxHeartbeats 1000000 in
theorem x8t (k t g : List UInt8) (htl : t.length ≤ 900000000) (w : World) (ht : Hs.z0j w) : Calls Tryz.prog 52 #[.string ⟨k.toArray⟩, .string ⟨t.toArray⟩, .string ⟨g.toArray⟩] w fun e w' => e = .returned (.bool (z0n k t g)) ∧ Below w.heap.size w w' := by
 by_cases hl : k.length = 32 ∧ g.length = 64
 ·have hk : (k.length : Int) = 32 := by omega
  have hg : (g.length : Int) = 64 := by omega
  have hg' : g.length = 64 := hl.2
  have Hk : Hid (k.length = 32) := hl.1
  have HV : Hid (z0n k t g = if le (g.drop 32) < LL then if (z9s k).2 = true then decide (k7w (bq (g.drop 32)) (nq (kN (g.take 32) k t)) (z9s k).1 = g.take 32) else false else false) := if_pos hl
  have Ht : Hid (Hs.z0j w) := ht
  have hx1 := z7l g 0 32
  have hx2 := z7l g 32 64
  clear ht hl
  go_enter Tryz.func52, Tryz.ntmps52
  obtain ⟨R, hRd⟩ : ∃ R, R = g.take 32 := ⟨_, rfl⟩
  obtain ⟨gs, hgs⟩ : ∃ s, s = g.drop 32 := ⟨_, rfl⟩
  have hgl : gs.length = 32 := by rw [hgs]; simp; omega
  have hRl : R.length = 32 := by rw [hRd]; simp; omega
  have hx1' : (⟨g.toArray⟩ : ByteArray).extract 0 32 = ⟨R.toArray⟩ := by rw [hx1, hRd]; rfl
  have hx2' : (⟨g.toArray⟩ : ByteArray).extract 32 64 = ⟨gs.toArray⟩ := by rw [hx2, ← hgs, List.take_of_length_le (by omega)]
  clear hx1 hx2
  rw [← hRd, ← hgs] at HV
  clear hRd hgs
  obtain ⟨q, hq⟩ : ∃ q, q = bq gs := ⟨_, rfl⟩
  have Hqn : Hid (q.num = le gs) := by rw [hq]; exact z9d _ (by omega)
  have Hfb : Hid (∀ w, Calls Tryz.prog 105 #[.string ⟨gs.toArray⟩] w fun e w' => e = .returned (.agg q.cells) ∧ Below w.heap.size w w') := by
   intro w
   have h := z4e gs (by omega) w
   rw [List.take_of_length_le (by omega), ← hq] at h
   exact h
  rw [← hq] at HV
  clear hq
  obtain ⟨qL, hqL⟩ : ∃ q, q = nq LL := ⟨_, rfl⟩
  obtain ⟨lt, hlt⟩ : ∃ b, b = decide (le gs < LL) := ⟨_, rfl⟩
  have Hor : Hid (∀ w, Calls Tryz.prog 107 #[] w fun e w' => e = .returned (.agg qL.cells) ∧ Below w.heap.size w w') := by rw [hqL]; exact y1c
  have Hbl : Hid (∀ w, Calls Tryz.prog 106 #[.agg q.cells, .agg qL.cells] w fun e w' => e = .returned (.bool lt) ∧ Below w.heap.size w w') := by
   intro w
   have h := x5o q qL w
   rw [Hqn.out, hqL, z3c (by decide), ← hlt, ← hqL] at h
   exact h
  obtain ⟨A, hA⟩ : ∃ A, A = (z9s k).1 := ⟨_, rfl⟩
  obtain ⟨ok, hok⟩ : ∃ b, b = (z9s k).2 := ⟨_, rfl⟩
  have Hpf : Hid (∀ w, Calls Tryz.prog 85 #[.string ⟨k.toArray⟩] w fun e w' => e = .returned (.tuple #[.agg (pw A), .bool ok]) ∧ Below w.heap.size w w') := by
   intro w
   have h := x1x k w
   rw [← hA, ← hok] at h
   exact h
  obtain ⟨h2, hh2⟩ : ∃ h, h = Sha.sha (R ++ (k ++ t)) := ⟨_, rfl⟩
  have Hof2 : Hid (∀ w, Hs.z0j w → Calls Tryz.prog 109 #[.slice (some ⟨w.heap.size, 0, none⟩) 3 3] (w.alloc (.cells #[.string ⟨R.toArray⟩, .string ⟨k.toArray⟩, .string ⟨t.toArray⟩] 9)) fun e w' => e = .returned (.string ⟨h2.toArray⟩) ∧ Below w.heap.size w w') := by
   intro w ht
   have h := x7u [R, k, t] w ht (by have := Hk.out; simp; omega) (by simp)
   rw [show [R, k, t].flatten = R ++ (k ++ t) by simp, ← hh2] at h
   exact h
  obtain ⟨kq, hkq⟩ : ∃ q, q = nq (kN R k t) := ⟨_, rfl⟩
  have Hfh2 : Hid (∀ w, Calls Tryz.prog 108 #[.string ⟨h2.toArray⟩] w fun e w' => e = .returned (.agg kq.cells) ∧ Below w.heap.size w w') := by
   intro w
   have h := z8q h2 (by rw [hh2]; exact y1q _) w
   rw [show le h2 % LL = kN R k t by rw [hh2, ← List.append_assoc]; rfl, ← hkq] at h
   exact h
  rw [← hkq, ← hA, ← hok] at HV
  obtain ⟨e, he⟩ : ∃ e, e = k6s q kq A := ⟨_, rfl⟩
  obtain ⟨sb, hsb⟩ : ∃ s, s = k7w q kq A := ⟨_, rfl⟩
  have Hby : Hid (∀ w, Calls Tryz.prog 113 #[.agg (pw e)] w fun e' w' => e' = .returned (.string ⟨sb.toArray⟩) ∧ Below w.heap.size w w') := by
   intro w
   have h := y7c e w
   rw [show leB (enc (e.x * inv e.z) (e.y * inv e.z)) 32 = sb by rw [hsb, he]; rfl] at h
   exact h
  obtain ⟨Bp, hBp⟩ : ∃ B, B = aff bX bY := ⟨_, rfl⟩
  obtain ⟨A', hA'⟩ : ∃ B, B = q5m A := ⟨_, rfl⟩
  have Hbase : Hid (∀ w, Calls Tryz.prog 111 #[] w fun e w' => e = .returned (.agg (pw Bp)) ∧ Below w.heap.size w w') := by rw [hBp]; exact q5j
  have Hneg : Hid (∀ w, Calls Tryz.prog 112 #[.agg (pw A)] w fun e w' => e = .returned (.agg (pw A')) ∧ Below w.heap.size w w') := by rw [hA']; exact k9p A
  have Hsum : Hid (∀ tb w, tb < w.heap.size → (∀ j, j < 2 → w.rangeAt tb (j * 20) (tw (TU q kq Bp A' j)).toList) → Calls Tryz.prog 110 #[.slice (some ⟨tb, 0, none⟩) 2 2] w fun e' w' => e' = .returned (.agg (pw e)) ∧ Below w.heap.size w w') := by
   intro tb w h1 h2
   rw [he]
   rw [hBp, hA'] at h2
   exact k6t tb 2 (by decide) (TT q kq A) w h1 h2
  rw [← hsb] at HV
  have HV2 : Hid (z0n k t g = if lt = true then if ok = true then decide (sb = R) else false else false) := by
   show _ = _
   rw [HV.out, hlt]
   simp only [decide_eq_true_eq]
  rw [HV2.out]
  clear HV HV2 hqL hlt hA hok hh2 hkq he hsb Hqn hBp hA'
  go_wp2_with fail
  refine (Hfb.out _).mono ?_
  rintro e' w1 ⟨rfl, hb1⟩
  have HB1 : Hid (Below w.heap.size w w1) := hb1
  clear hb1
  go_wp2_with (refine z5m rfl rfl rfl rfl q (fun _ => rfl) (fun _ => rfl) ?_)
  intro w2 bq2 hle hW hb2
  have HQ2 : Hid (NAt w2 bq2 q) := hW
  have HB2 : Hid (Below w.heap.size w w2) := HB1.out.trans (hb2.mono HB1.out.size)
  clear hle hW hb2 HB1
  go_wp2_with fail
  refine Qt.y2a (by kernel_rfl) (by kernel_rfl) ?_
  refine y_n rfl _ rfl bq2 q rfl HQ2.out ?_
  refine Qt.z0e rfl 107 #[] (.agg qL.cells) (fun _ => by kernel_rfl) (fun w' _ => Hor.out w') ?_
  simp only [zD]
  refine Qt.z0e rfl 106 #[.agg q.cells, .agg qL.cells] (.bool lt) (fun _ => by kernel_rfl) (fun w' _ => Hbl.out w') ?_
  simp only [zD]
  refine Qt.z0b rfl ((.bool (!lt))) (fun _ _ => by kernel_rfl) ?_
  simp only [zD]
  refine Qt.z1a ?_
  intro w3 hb3
  have HX3 : Hid (Below w2.heap.size w2 w3) := hb3
  have HQ3 : Hid (NAt w3 bq2 q) := HQ2.out.below HX3.out HQ2.out.lt
  have HB3 : Hid (Below w.heap.size w w3) := HB2.out.trans (HX3.out.mono HB2.out.size)
  clear hb3 HX3 HQ2 HB2
  cases lt with
  | false =>
   go_wp2_with fail
   exact bodyPost_ret (v := .bool false) (by simp [results, Tryz.results52, go_sem]) rfl ⟨rfl, HB3.out⟩
  | true =>
   go_wp2_with fail
   refine (Hpf.out _).mono ?_
   rintro e' w4 ⟨rfl, hb4⟩
   have HX4 : Hid (Below w3.heap.size w3 w4) := hb4
   have HQ4 : Hid (NAt w4 bq2 q) := HQ3.out.below HX4.out HQ3.out.lt
   have HB4 : Hid (Below w.heap.size w w4) := HB3.out.trans (HX4.out.mono HB3.out.size)
   clear hb4 HX4 HQ3 HB3
   go_wp2_with (refine x7e rfl rfl rfl rfl A (fun _ => rfl) (fun _ => rfl) ?_)
   intro w5 ba hle hW hb5
   have HX5 : Hid (Below w4.heap.size w4 w5) := hb5
   have HA5 : Hid (PAt w5 ba A) := hW
   have HQ5 : Hid (NAt w5 bq2 q) := HQ4.out.below HX5.out HQ4.out.lt
   have HB5 : Hid (Below w.heap.size w w5) := HB4.out.trans (HX5.out.mono HB4.out.size)
   clear hle hW hb5 HX5 HQ4 HB4
   cases ok with
   | false =>
    go_wp2_with fail
    exact bodyPost_ret (v := .bool false) (by simp [results, Tryz.results52, go_sem]) rfl ⟨rfl, HB5.out⟩
   | true =>
    have Ht5 : Hid (Hs.z0j w5) := Ht.out.below HB5.out Ht.out.lt
    go_wp2_with fail
    refine (Hof2.out w5 Ht5.out).mono ?_
    rintro e' w6 ⟨rfl, hb6⟩
    have HX6 : Hid (Below w5.heap.size w5 w6) := hb6
    have HA6 : Hid (PAt w6 ba A) := HA5.out.below HX6.out HA5.out.lt
    have HQ6 : Hid (NAt w6 bq2 q) := HQ5.out.below HX6.out HQ5.out.lt
    have HB6 : Hid (Below w.heap.size w w6) := HB5.out.trans (HX6.out.mono HB5.out.size)
    clear hb6 HX6 HQ5 HA5 HB5 Ht5
    go_wp2_with fail
    refine (Hfh2.out _).mono ?_
    rintro e' w7 ⟨rfl, hb7⟩
    have HX7 : Hid (Below w6.heap.size w6 w7) := hb7
    have HA7 : Hid (PAt w7 ba A) := HA6.out.below HX7.out HA6.out.lt
    have HQ7 : Hid (NAt w7 bq2 q) := HQ6.out.below HX7.out HQ6.out.lt
    have HB7 : Hid (Below w.heap.size w w7) := HB6.out.trans (HX7.out.mono HB6.out.size)
    clear hb7 HX7 HQ6 HA6 HB6
    go_wp2_with (refine z5m rfl rfl rfl rfl kq (fun _ => rfl) (fun _ => rfl) ?_)
    intro w8 bk hle hW hb8
    have HX8 : Hid (Below w7.heap.size w7 w8) := hb8
    have HK8 : Hid (NAt w8 bk kq) := hW
    have HA8 : Hid (PAt w8 ba A) := HA7.out.below HX8.out HA7.out.lt
    have HQ8 : Hid (NAt w8 bq2 q) := HQ7.out.below HX8.out HQ7.out.lt
    have HB8 : Hid (Below w.heap.size w w8) := HB7.out.trans (HX8.out.mono HB7.out.size)
    clear hle hW hb8 HX8 HQ7 HA7 HB7
    go_wp2_with fail
    refine Qt.k7j 10 (RR w8.heap.size q kq Bp A A' e) (by kernel_rfl) (by kernel_rfl) (q0j _ _ _ _ _ _ _) ?_ ?_
    ·intro i o hi ho U w' hb hd
     have HQ : Hid (NAt w' bq2 q) := HQ8.out.below hb HQ8.out.lt
     have HA : Hid (PAt w' ba A) := HA8.out.below hb HA8.out.lt
     have HK : Hid (NAt w' bk kq) := HK8.out.below hb HK8.out.lt
     have HS : Hid (w8.heap.size ≤ w'.heap.size) := hb.size
     clear HQ8 HA8 HK8 HB8 hb
     simp only [Qt.z1l, List.take_succ_cons, List.take_zero, Act.put, List.setIfInBounds_toArray, List.set_cons_zero, List.set_cons_succ]
     rcases i with _ | _ | _ | _ | _ | _ | _ | _ | _ | _ | i
     ·obtain rfl := Option.some.inj ho
      refine z6i 43 rfl (Nat.le_of_ble_eq_true (by kernel_rfl)) ?_
      refine y_n rfl _ rfl bq2 q rfl HQ.out ?_
      exact rfl
     ·obtain rfl := Option.some.inj ho
      refine z6i 44 rfl (Nat.le_of_ble_eq_true (by kernel_rfl)) ?_
      refine Qt.z0e rfl 111 #[] (.agg (pw Bp)) (fun _ => by kernel_rfl) (fun w' _ => Hbase.out w') ?_
      exact rfl
     ·obtain rfl := Option.some.inj ho
      have h0 : U 0 = .agg q.cells := hd 0 (by decide) (by kernel_rfl)
      have h1 : U 1 = .agg (pw Bp) := hd 1 (by decide) (by kernel_rfl)
      rw [h0, h1]
      refine z6i 45 rfl (Nat.le_of_ble_eq_true (by kernel_rfl)) ?_
      refine j0h rfl _ rfl q Bp (by kernel_rfl) ?_
      exact rfl
     ·obtain rfl := Option.some.inj ho
      refine z6i 46 rfl (Nat.le_of_ble_eq_true (by kernel_rfl)) ?_
      refine y_n rfl _ rfl bk kq rfl HK.out ?_
      exact rfl
     ·obtain rfl := Option.some.inj ho
      refine z6i 47 rfl (Nat.le_of_ble_eq_true (by kernel_rfl)) ?_
      refine k7x rfl _ rfl ba A rfl HA.out ?_
      exact rfl
     ·obtain rfl := Option.some.inj ho
      have h4 : U 4 = .agg (pw A) := hd 4 (by decide) (by kernel_rfl)
      rw [h4]
      refine z6i 48 rfl (Nat.le_of_ble_eq_true (by kernel_rfl)) ?_
      refine Qt.z0e rfl 112 #[.agg (pw A)] (.agg (pw A')) (fun _ => by kernel_rfl) (fun w' _ => Hneg.out w') ?_
      exact rfl
     ·obtain rfl := Option.some.inj ho
      have h3 : U 3 = .agg kq.cells := hd 3 (by decide) (by kernel_rfl)
      have h5 : U 5 = .agg (pw A') := hd 5 (by decide) (by kernel_rfl)
      rw [h3, h5]
      refine z6i 49 rfl (Nat.le_of_ble_eq_true (by kernel_rfl)) ?_
      refine j0h rfl _ rfl kq A' (by kernel_rfl) ?_
      exact rfl
     ·obtain rfl := Option.some.inj ho
      have h2 : U 2 = .agg (tw (q, Bp)) := hd 2 (by decide) (by kernel_rfl)
      have h6 : U 6 = .agg (tw (kq, A')) := hd 6 (by decide) (by kernel_rfl)
      rw [h2, h6]
      refine x8r 274 192 2 _ rfl (tw (q, Bp) ++ tw (kq, A')) (.agg z3b) 20 160 Tryz.underlying274 (by kernel_rfl) (by decide) (by decide) [(0, .agg (tw (q, Bp))), (1, .agg (tw (kq, A')))] (by kernel_rfl) (q1t _ _) ?_
      exact ⟨w'.heap.size, rfl, by simp, x8q (heap_alloc_new _ _)⟩
     ·obtain rfl := Option.some.inj ho
      obtain ⟨b, h7, h71, h72⟩ : ∃ b, U 7 = .slice (some ⟨b, 0, none⟩) 2 2 ∧ b < w'.heap.size ∧ ∀ j, j < 2 → w'.rangeAt b (j * 20) (tw (TU q kq Bp A' j)).toList := hd 7 (by decide) (by kernel_rfl)
      rw [h7]
      refine z6i 51 rfl (Nat.le_of_ble_eq_true (by kernel_rfl)) ?_
      refine Qt.z0e rfl 110 #[.slice (some ⟨b, 0, none⟩) 2 2] (.agg (pw e)) (fun _ => by kernel_rfl) (fun w'' hb => Hsum.out b w'' (Nat.lt_of_lt_of_le h71 hb.size) (fun j hj n v hv => by rw [hb.cell (by exact h71)]; exact h72 j hj n v hv)) ?_
      exact rfl
     ·obtain rfl := Option.some.inj ho
      refine y7j 163 rfl z4q (by kernel_rfl) ?_
      exact ⟨w'.heap.size, rfl, HS.out, by rw [← y4n]; exact heap_alloc_new _ _⟩
     ·omega
    ·intro U w9 hb9 hd
     have h0 : U 0 = .agg q.cells := hd 0 (by decide)
     have h1 : U 1 = .agg (pw Bp) := hd 1 (by decide)
     have h2 : U 2 = .agg (tw (q, Bp)) := hd 2 (by decide)
     have h3 : U 3 = .agg kq.cells := hd 3 (by decide)
     have h4 : U 4 = .agg (pw A) := hd 4 (by decide)
     have h5 : U 5 = .agg (pw A') := hd 5 (by decide)
     have h6 : U 6 = .agg (tw (kq, A')) := hd 6 (by decide)
     obtain ⟨b7, h7, -, -⟩ : ∃ b, U 7 = .slice (some ⟨b, 0, none⟩) 2 2 ∧ b < w9.heap.size ∧ ∀ j, j < 2 → w9.rangeAt b (j * 20) (tw (TU q kq Bp A' j)).toList := hd 7 (by decide)
     have h8 : U 8 = .agg (pw e) := hd 8 (by decide)
     obtain ⟨b9, h9, hle, hP⟩ : ∃ b, U 9 = .pointer (some ⟨b, 0, none⟩) ∧ w8.heap.size ≤ b ∧ PAt w9 b e0 := hd 9 (by decide)
     simp only [Qt.z1l, List.take_succ_cons, List.take_zero, List.drop_succ_cons, List.drop_zero, Act.put, List.setIfInBounds_toArray, List.set_cons_zero, List.set_cons_succ, h0, h1, h2, h3, h4, h5, h6, h7, h8, h9]
     clear h0 h1 h2 h3 h4 h5 h6 h7 h8 h9 hd
     refine z2z rfl _ _ rfl b9 e e0 rfl rfl hP ?_
     have HP : Hid (PAt (w9.setRow b9 (pw e)) b9 e) := hP.setRow e
     have HB : Hid (Below w.heap.size w (w9.setRow b9 (pw e))) := (HB8.out.trans (hb9.mono HB8.out.size)).trans ((z0a _ _ _).mono (Nat.le_trans HB8.out.size hle))
     clear hP hle hb9
     obtain ⟨wx, hwx⟩ : ∃ wx, wx = w9.setRow b9 (pw e) := ⟨_, rfl⟩
     rw [← hwx] at HP HB ⊢
     clear hwx
     refine Qt.done ?_
     simp only [Act.put]
     go_wp2_with (refine q5y rfl _ rfl b9 e rfl HP.out ?_)
     refine (Hby.out _).mono ?_
     rintro e' wy ⟨rfl, hby⟩
     have HBy : Hid (Below w.heap.size w wy) := HB.out.trans (hby.mono HB.out.size)
     clear hby
     go_wp2_with fail
     have hbeq : (sb == R) = decide (sb = R) := by by_cases h : sb = R <;> simp [h]
     exact bodyPost_ret (v := .bool (sb == R)) (by simp [results, Tryz.results52, go_sem]) rfl ⟨by rw [hbeq], HBy.out⟩
 ·have hln : ¬ ((k.length : Int) = 32 ∧ (g.length : Int) = 64) := by omega
  have HV : Hid (z0n k t g = false) := if_neg hl
  rw [HV.out]
  by_cases hk : (k.length : Int) = 32
  ·have hg : ¬ (g.length : Int) = 64 := fun h => hln ⟨hk, h⟩
   clear hl hln
   go_enter Tryz.func52, Tryz.ntmps52
   go_wp2_with fail
   exact bodyPost_ret (v := .bool false) (by simp [results, Tryz.results52, go_sem]) rfl ⟨rfl, Below.refl _ _⟩
  ·clear hl hln
   go_enter Tryz.func52, Tryz.ntmps52
   go_wp2_with fail
   exact bodyPost_ret (v := .bool false) (by simp [results, Tryz.results52, go_sem]) rfl ⟨rfl, Below.refl _ _⟩
end Gw
open Go Go.RowKit Go.Sort Region
namespace Qt
end Qt
end Go.Proofs.YtbojijefenfbgaaGreatDoor

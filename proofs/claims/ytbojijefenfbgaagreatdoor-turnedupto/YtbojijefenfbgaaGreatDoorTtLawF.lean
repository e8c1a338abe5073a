/- Walk of posternlaw: the script is played. The texts that a town's tickets and orders are. A town: gates of one key that let in, tell, hear and close. Walks of the package posternkeep: pick, ticket, order, meet. A town in memory; the walk of the package posternkeep's town. -/
import Derived.Test.YtbojijefenfbgaaGreatDoorTtLawB
import Derived.Test.YtbojijefenfbgaaGreatDoorTtTwiceC
set_option maxRecDepth 100000
namespace Go.Proofs.YtbojijefenfbgaaGreatDoor
open Go Go.RowKit
namespace Ks
section
variable {P : Program} {ops : Array Oper} {rest : List Oper} {o : Oper} {a : Act} {w : World} {Q : Exit → Act → World → Prop}
end
end Ks
namespace Gt
open Mp Bk Tk
end Gt
end Go.Proofs.YtbojijefenfbgaaGreatDoor
namespace Go.Proofs.YtbojijefenfbgaaGreatDoor
open Go.RowKit
namespace Tn
open Bt Gw Bk Tk
theorem x1d (l : List UInt8) : (Cw.z9s (z6v l)).2 = true := by
 cases h : (Cw.z9s (z6v l)).2 with
 | true => rfl
 | false => exact absurd (Gw.y2u l).symm (Gw.y5v h _ (Ed.z1i Ed.z7b _))
noncomputable def tick (l : List UInt8) (e s c : Nat) : List UInt8 := z6n e s c ++ z6l l (z6n e s c)
noncomputable def k2l (l : List UInt8) (e : Nat) : List UInt8 := z6g e ++ z6l l (z6g e)
theorem q4w {l : List UInt8} (hl : l.length = 32) {e s c : Nat} (he : e ≤ 65535) (hs : s ≤ 4294967295) (hc : c ≤ 255) : k2o l e s c = (⟨(tick l e s c).toArray⟩, 0) := by
 unfold k2o
 rw [if_pos hl, if_pos (by simp [bet]; omega)]
 rfl
theorem q3j {l : List UInt8} (hl : l.length = 32) {e : Nat} (he : e ≤ 65535) : k2k l e = (⟨(k2l l e).toArray⟩, 0) := by
 unfold k2k
 rw [if_pos hl, if_pos (by simp [bet]; omega)]
 rfl
theorem q4x (l : List UInt8) (e s c : Nat) : (tick l e s c).length = 72 := by unfold tick; rw [List.length_append, q4t, y9q]
theorem x9u (l : List UInt8) (e s c : Nat) : (tick l e s c).head? = some 84 := rfl
theorem x4w (l : List UInt8) (e s c : Nat) : z0n (z6v l) ((tick l e s c).take 8) ((tick l e s c).drop 8) = true := by
 unfold tick
 rw [List.take_left' (q4t e s c), List.drop_left' (q4t e s c)]
 exact y1k z4b l _
end Tn
end Go.Proofs.YtbojijefenfbgaaGreatDoor
namespace Go.Proofs.YtbojijefenfbgaaGreatDoor
namespace Bk
section
variable {R : List UInt8 → List UInt8 → List UInt8 → Bool}
structure Orders (R : List UInt8 → List UInt8 → List UInt8 → Bool) (k : List UInt8) (ok : Int → Prop) (ord : Int → List UInt8) : Prop where
 good : ∀ f, ok f → Good R k (ord f)
 epoch : ∀ f, ok f → z0g (ord f) = f
 pos : ∀ f, ok f → 0 < f
structure Gt1 (k : List UInt8) (ok : Int → Prop) (ord : Int → List UInt8) (P : Int × Int → Int × Int) (ow : Int → Int) (s : St) : Prop where
 town : z7t P ow s
 key : s.key = k
 floor : s.floor = 0 ∨ (ok s.floor ∧ s.order = ord s.floor)
variable {k : List UInt8} {ok : Int → Prop} {ord : Int → List UInt8} {P : Int × Int → Int × Int} {ow : Int → Int}
theorem Gt1.by_ {s : St} (h : Gt1 k ok ord P ow s) (hO : Orders R k ok ord) : z4d R s := by
 rcases h.floor with e | ⟨e, e2⟩
 ·exact Or.inl e
 ·refine Or.inr ⟨?_, ?_⟩
  ·rw [h.key, e2]; exact hO.good _ e
  ·rw [e2]; exact hO.epoch _ e
theorem Gt1.new {n : Int} (h : 0 ≤ n ∧ n ≤ 15) (ho : ow n = 0) : Gt1 k ok ord P ow (St.new n k) := ⟨z7t.new h ho, rfl, Or.inl rfl⟩
theorem x3u {s t : St} {n : List It} : (z7d R t (z1j s t) n).1 = 0 → Good R t.key s.order ∧ z0g s.order = s.floor ∨ ¬ t.floor < s.floor → (z7d R t (z1j s t) n).2.order = if t.floor < s.floor then s.order else t.order := by
 unfold z7d
 split
 ·intro h; simp at h
 ·intro h hg
  unfold z1j at *
  by_cases hf : t.floor < s.floor
  ·rw [if_pos hf] at *
   rcases hg with hg | hg
   ·have hne : s.order ≠ [] := by
     intro e
     have := hg.1.len
     rw [e] at this
     cases this
    have hc : clo R t s.order = (0, t.raised s.order) := by rw [y3s R hg.1, if_neg (by rw [hg.2]; omega)]
    rw [if_neg hne, hc, if_neg (by simp), if_pos hf]
    exact (z4c n _).2.2.2.2
   ·exact absurd hf hg
  ·rw [if_neg hf] at *
   rw [if_pos rfl, if_neg hf]
   exact (z4c n _).2.2.2.2
theorem Gt1.meets {s t : St} (hO : Orders R k ok ord) (hs : Gt1 k ok ord P ow s) (ht : Gt1 k ok ord P ow t) (most : Nat) :
  (z7d R t (z1j s t) (z1m s t most)).1 = 0 ∧ Gt1 k ok ord P ow (z7d R t (z1j s t) (z1m s t most)).2 ∧ (z7d R t (z1j s t) (z1m s t most)).2.floor = max s.floor t.floor ∧ (z7d R t (z1j s t) (z1m s t most)).2.number = t.number ∧
  ∀ x, x ∈ (z7d R t (z1j s t) (z1m s t most)).2.keys ↔ x ∈ t.keys ∨ x ∈ (z1m s t most).map It.key := by
 obtain ⟨h1, h2, h3, h4, h5, h6, h7, h8⟩ := Bk.meets hs.town ht.town (hs.by_ hO) (ht.by_ hO) (hs.key.trans ht.key.symm) most
 refine ⟨h1, ⟨h2, h5.trans ht.key, ?_⟩, h4, h6, h8⟩
 have hg : Good R t.key s.order ∧ z0g s.order = s.floor ∨ ¬ t.floor < s.floor := by
  by_cases hf : t.floor < s.floor
  ·left
   rcases hs.by_ hO with e | e
   ·have := ht.town.inv.floor; omega
   ·rw [ht.key, ← hs.key]; exact e
  ·exact Or.inr hf
 have ho := x3u h1 hg
 rw [ho, h4]
 by_cases hf : t.floor < s.floor
 ·rw [if_pos hf, Int.max_eq_left (by omega)]
  exact hs.floor
 ·rw [if_neg hf, Int.max_eq_right (by omega)]
  exact ht.floor
theorem Gt1.x0o {s : St} (hO : Orders R k ok ord) (hs : Gt1 k ok ord P ow s) {f : Int} (hf : ok f) : ((clo R s (ord f)).1 = 0 ∨ (clo R s (ord f)).1 = 6) ∧ Gt1 k ok ord P ow (clo R s (ord f)).2 ∧ (clo R s (ord f)).2.number = s.number := by
 have hg : Good R s.key (ord f) := by rw [hs.key]; exact hO.good f hf
 rw [y3s R hg, hO.epoch f hf]
 split
 ·exact ⟨Or.inr rfl, hs, rfl⟩
 ·refine ⟨Or.inl rfl, ⟨hs.town.raised (by rw [hO.epoch f hf]; omega), hs.key, Or.inr ?_⟩, rfl⟩
  show ok (z0g (ord f)) ∧ ord f = ord (z0g (ord f))
  rw [hO.epoch f hf]
  exact ⟨hf, rfl⟩
structure k2s (R : List UInt8 → List UInt8 → List UInt8 → Bool) (k t : List UInt8) : Prop where
 len : t.length = 72
 head : t.head? = some 84
 right : R k (t.take 8) (t.drop 8) = true
theorem q0p {s : St} {t : List UInt8} (h : k2s R s.key t) : adm R s t = if z0g t < s.floor then (6, s) else if ∃ x ∈ held s.l, x.pass = (z0g t, z0s t) then (7, s) else if 1000 ≤ s.own then (8, s) else (0, { s with own := s.own + 1, l := ins (s.fresh t) s.l }) := by
 unfold adm
 rw [if_neg (by rw [h.len, h.head]; simp), if_neg (by rw [h.right]; simp)]
structure y8c (P P' : Int × Int → Int × Int) (ow ow' : Int → Int) : Prop where
 news : ∀ f l, z5a P ow f l → z5a P' ow' f l
theorem y8c.refl (P : Int × Int → Int × Int) (ow : Int → Int) : y8c P P ow ow := ⟨fun _ _ h => h⟩
theorem y8c.trans {P P' P'' : Int × Int → Int × Int} {ow ow' ow'' : Int → Int} (h : y8c P P' ow ow') (h' : y8c P' P'' ow' ow'') : y8c P P'' ow ow'' := ⟨fun f l n => h'.news f l (h.news f l n)⟩
structure Gts (k : List UInt8) (ok : Int → Prop) (ord : Int → List UInt8) (z1n : List Int) (P : Int × Int → Int × Int) (ow : Int → Int) (m : Nat) (ss : List St) : Prop where
 z1n : ss.map St.number = z1n
 all : ∀ s ∈ ss, Gt1 k ok ord P ow s
 few : ∀ n, ow n ≤ m
variable {z1n : List Int} {m : Nat} {ss : List St}
theorem Gts.set {j : Nat} {t t' : St} (h : Gts k ok ord z1n P ow m ss) (hj : ss[j]? = some t) (ht : Gt1 k ok ord P ow t') (hn : t'.number = t.number) : Gts k ok ord z1n P ow m (ss.set j t') := by
 refine ⟨?_, fun s hs => ?_, h.few⟩
 ·rw [← h.z1n]
  apply List.ext_getElem?
  intro i
  rw [List.getElem?_map, List.getElem?_map, List.getElem?_set]
  split
  ·rename_i e
   subst e
   split
   ·rw [hj]; simp [hn]
   ·rename_i hlt
    exact absurd (lL hj) hlt
  ·rfl
 ·rcases List.mem_or_eq_of_mem_set hs with hs | rfl
  ·exact h.all s hs
  ·exact ht
theorem Gts.more {m' : Nat} (h : Gts k ok ord z1n P ow m ss) (hm : m ≤ m') : Gts k ok ord z1n P ow m' ss := ⟨h.z1n, h.all, fun n => by have := h.few n; omega⟩
theorem Gts.x0l {i : Nat} {s : St} {t : List UInt8} (h : Gts k ok ord z1n P ow m ss) (hi : ss[i]? = some s) (hd : ∀ j n, j ≠ i → z1n[j]? = some n → n ≠ s.number) (hm : m < 1000) (ht : k2s R k t) :
  ((adm R s t).1 = 0 ∨ (adm R s t).1 = 6 ∨ (adm R s t).1 = 7) ∧ ∃ P' ow', y8c P P' ow ow' ∧ Gts k ok ord z1n P' ow' (m + 1) (ss.set i (adm R s t).2) := by
 have hs := h.all s (List.mem_of_getElem? hi)
 have hset : ss.set i s = ss := by
  apply List.ext_getElem?
  intro j
  rw [List.getElem?_set]
  split
  ·rename_i e
   subst e
   split
   ·exact hi.symm
   ·rename_i hlt; exact absurd (lL hi) hlt
  ·rfl
 rw [q0p (R := R) (by rw [hs.key]; exact ht)]
 split
 ·exact ⟨Or.inr (Or.inl rfl), P, ow, y8c.refl _ _, by rw [hset]; exact h.more (Nat.le_succ _)⟩
 ·rename_i hf
  split
  ·exact ⟨Or.inr (Or.inr rfl), P, ow, y8c.refl _ _, by rw [hset]; exact h.more (Nat.le_succ _)⟩
  ·have ho : ¬ 1000 ≤ s.own := by
    have := h.few s.number
    rw [← hs.town.own] at this
    omega
   rw [if_neg ho]
   have ha := hs.town.y3i hf ho
   refine ⟨Or.inl rfl, _, _, ⟨fun f l hn => hn.other s.number (z0g t, z0s t)⟩, ⟨?_, ?_, ?_⟩⟩
   ·rw [← h.z1n]
    apply List.ext_getElem?
    intro j
    rw [List.getElem?_map, List.getElem?_map, List.getElem?_set]
    split
    ·rename_i e
     subst e
     split
     ·rw [hi]; rfl
     ·rename_i hlt; exact absurd (lL hi) hlt
    ·rfl
   ·intro u hu
    obtain ⟨j, hj, rfl⟩ := List.getElem_of_mem hu
    have hj2 : (ss.set i { s with own := s.own + 1, l := ins (s.fresh t) s.l })[j]? = some ((ss.set i { s with own := s.own + 1, l := ins (s.fresh t) s.l })[j]) := List.getElem?_eq_getElem hj
    generalize (ss.set i { s with own := s.own + 1, l := ins (s.fresh t) s.l })[j] = u at hj2
    rw [List.getElem?_set] at hj2
    split at hj2
    ·split at hj2
     ·cases hj2
      exact ⟨ha, hs.key, hs.floor⟩
     ·cases hj2
    ·rename_i hne
     have hu := h.all u (List.mem_of_getElem? hj2)
     have hn : u.number ≠ s.number := hd j u.number (Ne.symm hne) (by rw [← h.z1n, List.getElem?_map, hj2]; rfl)
     exact ⟨hu.town.other hn _, hu.key, hu.floor⟩
   ·intro n
    unfold upd
    split
    ·have := h.few s.number
     omega
    ·have := h.few n
     omega
structure j0m (K : List St) (D : Nat → Nat → Prop) (ss : List St) : Prop where
 keys : ∀ s ∈ ss, ∀ x ∈ s.keys, ∃ t ∈ K, x ∈ t.keys
 floor : ∀ s ∈ ss, ∃ t ∈ K, s.floor = t.floor
 done : ∀ i g t s, D i g → K[i]? = some t → ss[g]? = some s → (∀ x ∈ t.keys, x ∈ s.keys) ∧ t.floor ≤ s.floor
end
end Bk
open Go Go.RowKit
namespace Tn
open Mp Bk Tk Gw Gt
def pk (c : Int) (n : Nat) : Nat := ((if c < 0 then -(c + 1) else c) % (n : Int)).toNat
theorem y4l (c : Int) {n : Nat} (h : 0 < n) : pk c n < n := by
 unfold pk
 have h1 := Int.emod_lt_of_pos (if c < 0 then -(c + 1) else c) (b := (n : Int)) (by omega)
 have h2 := Int.emod_nonneg (if c < 0 then -(c + 1) else c) (b := (n : Int)) (by omega)
 omega
def I64 (c : Int) : Prop := -9223372036854775808 ≤ c ∧ c < 9223372036854775808
set_option maxHeartbeats 400000 in
theorem y7b (c : Int) (hc : I64 c) (n : Nat) (hn : 0 < n) (hn2 : n ≤ 1000000000) (w : World) : Calls Tryz.prog 30 #[.int .i64 c, .int .i64 (n : Int)] w fun e w' => e = .returned (.int .i64 (pk c n : Int)) ∧ w' = w := by
 have h0 : (n : Int) ≠ 0 := by omega
 have h1 := hc.1
 have h2 := hc.2
 by_cases hc : c < 0
 ·go_enter Tryz.func30, Tryz.ntmps30
  go_wp2_with fail
  have e : -((c + 1).tmod n) = (pk c n : Int) := by
   unfold pk
   rw [if_pos hc, ← Int.neg_tmod, Int.tmod_eq_emod_of_nonneg (by omega), Int.toNat_of_nonneg (Int.emod_nonneg _ h0)]
  exact bodyPost_ret (v := .int .i64 (-((c + 1).tmod n))) (by simp [results, Tryz.results30, go_sem]) rfl ⟨by rw [e], rfl⟩
 ·go_enter Tryz.func30, Tryz.ntmps30
  go_wp2_with fail
  have e : c % (n : Int) = (pk c n : Int) := by
   unfold pk
   rw [if_neg (by omega), Int.toNat_of_nonneg (Int.emod_nonneg _ h0)]
  exact bodyPost_ret (v := .int .i64 (c % n)) (by simp [results, Tryz.results30, go_sem]) rfl ⟨by rw [e], rfl⟩
theorem y1e (c : Int) (hc : I64 c) (n : Nat) (hn : 0 < n) (hn2 : n ≤ 1000000000) (w : World) : Calls Tryz.prog 30 #[.int .i64 c, .int .i64 (n : Int)] w fun e w' => ∃ v, e = .returned v ∧ v = .int .i64 (pk c n : Int) ∧ w' = w := Calls.mono (y7b c hc n hn hn2 w) fun _ _ h => ⟨_, h.1, rfl, h.2⟩
theorem q4z (sd : List UInt8) (raw : Int) (hr : I64 raw) (w : World) (ht : Hs.z0j w) : Calls Tryz.prog 32 #[str sd, .int .i64 raw] w fun e w' => ∃ v, e = .returned v ∧ v = str (tick (z1h sd) (pk raw 6 / 2 * 10) (pk raw 6) 1) ∧ Below w.heap.size w w' := by
 have hp := y4l raw (n := 6) (by decide)
 obtain ⟨n, hn⟩ : ∃ n, n = pk raw 6 := ⟨_, rfl⟩
 rw [← hn] at hp ⊢
 go_enter Tryz.func32, Tryz.ntmps32
 refine wp_seq ?_
 refine Ks.reg ?_
 refine Ks.v (.string ⟨#[]⟩) ?_
 simp only [zD]
 refine Ks.done ?_
 refine wp_seq ?_
 refine Ks.reg ?_
 refine Ks.v (.int .i64 raw) ?_
 simp only [zD]
 refine Ks.call rfl 30 #[.int .i64 raw, .int .i64 (6 : Nat)] (by kernel_rfl) (y1e raw hr 6 (by decide) (by decide) w) ?_
 rintro _ w ⟨rfl, rfl⟩
 rw [← hn]
 simp only [zD]
 refine Ks.v (.int .i64 (n : Int)) ?_
 simp only [zD]
 refine Ks.done ?_
 refine wp_seq ?_
 refine Ks.reg ?_
 refine Ks.v (str sd) ?_
 simp only [zD]
 refine Ks.call rfl 29 #[str sd] (by kernel_rfl) (R := fun v w' => v = str (z1h sd) ∧ Below w.heap.size w w') (Calls.mono (y7p sd w) fun e w' h => ⟨_, h.1, rfl, h.2⟩) ?_
 rintro _ w1 ⟨rfl, hb1⟩
 simp only [zD]
 refine Ks.v (.int .i64 (n : Int)) ?_
 simp only [zD]
 refine Ks.val rfl (.int .i64 ((n / 2 : Nat) : Int)) (by
  simp [execOp, go_sem]
  exact IntWalk.i64_in _ ⟨by omega, by omega⟩) ?_
 simp only [zD]
 refine Ks.val rfl (.int .i64 ((n / 2 * 10 : Nat) : Int)) (by
  simp [execOp, go_sem]
  exact IntWalk.i64_in _ ⟨by omega, by omega⟩) ?_
 simp only [zD]
 refine Ks.v (.int .i64 (n : Int)) ?_
 simp only [zD]
 refine Ks.v (.agg (tk ((n / 2 * 10 : Nat) : Int) (n : Int) ((1 : Nat) : Int))) ?_
 simp only [zD]
 have hT := q4y (z1h sd) ((n / 2 * 10 : Nat) : Int) (n : Int) ((1 : Nat) : Int) w1 (ht.below hb1 ht.lt)
 rw [q4w (z4i sd) (by omega) (by omega) (by omega)] at hT
 refine Ks.call rfl 18 #[str (z1h sd), .agg (tk ((n / 2 * 10 : Nat) : Int) (n : Int) ((1 : Nat) : Int))] (by kernel_rfl) (R := fun v w' => v = .tuple #[str (tick (z1h sd) (n / 2 * 10) n 1), .int .i64 0] ∧ Below w1.heap.size w1 w') (Calls.mono hT fun e w' h => ⟨_, h.1, rfl, h.2⟩) ?_
 rintro _ w2 ⟨rfl, hb2⟩
 generalize tick (z1h sd) (n / 2 * 10) n 1 = T
 simp only [zD]
 refine Ks.v (.tuple #[str T, .int .i64 0]) ?_
 simp only [zD]
 refine Ks.v (str T) ?_
 simp only [zD]
 refine Ks.v (.int .i64 0) ?_
 simp only [zD]
 refine Ks.v (str T) ?_
 simp only [zD]
 refine Ks.v (.int .i64 0) ?_
 simp only [zD]
 refine Ks.done ?_
 refine wp_seq ?_
 refine Ks.reg ?_
 refine Ks.v (str T) ?_
 simp only [zD]
 refine Ks.v (str T) ?_
 simp only [zD]
 refine Ks.done ?_
 refine wp_ret ?_
 repeat (refine Ks.ret ?_)
 refine bodyPost_ret (v := str T) (by simp [results, Tryz.results32]) rfl ?_
 exact ⟨_, rfl, rfl, hb1.trans (hb2.mono hb1.size)⟩
theorem k0c (sd : List UInt8) (raw : Int) (hr : I64 raw) (w : World) (ht : Hs.z0j w) : Calls Tryz.prog 72 #[str sd, .int .i64 raw] w fun e w' => ∃ v, e = .returned v ∧ v = str (k2l (z1h sd) (5 + 10 * pk raw 2)) ∧ Below w.heap.size w w' := by
 have hp := y4l raw (n := 2) (by decide)
 obtain ⟨n, hn⟩ : ∃ n, n = pk raw 2 := ⟨_, rfl⟩
 rw [← hn] at hp ⊢
 go_enter Tryz.func72, Tryz.ntmps72
 refine wp_seq ?_
 refine Ks.reg ?_
 refine Ks.v (.string ⟨#[]⟩) ?_
 simp only [zD]
 refine Ks.done ?_
 refine wp_seq ?_
 refine Ks.reg ?_
 refine Ks.v (str sd) ?_
 simp only [zD]
 refine Ks.call rfl 29 #[str sd] (by kernel_rfl) (R := fun v w' => v = str (z1h sd) ∧ Below w.heap.size w w') (Calls.mono (y7p sd w) fun e w' h => ⟨_, h.1, rfl, h.2⟩) ?_
 rintro _ w1 ⟨rfl, hb1⟩
 simp only [zD]
 refine Ks.v (.int .i64 raw) ?_
 simp only [zD]
 refine Ks.call rfl 30 #[.int .i64 raw, .int .i64 (2 : Nat)] (by kernel_rfl) (y1e raw hr 2 (by decide) (by decide) w1) ?_
 rintro _ w1 ⟨rfl, rfl⟩
 rw [← hn]
 simp only [zD]
 refine Ks.val rfl (.int .i64 ((10 * n : Nat) : Int)) (by
  simp [execOp, go_sem]
  exact IntWalk.i64_in _ ⟨by omega, by omega⟩) ?_
 simp only [zD]
 refine Ks.val rfl (.int .i64 ((5 + 10 * n : Nat) : Int)) (by
  simp [execOp, go_sem]
  exact IntWalk.i64_in _ ⟨by omega, by omega⟩) ?_
 simp only [zD]
 have hT := y1c (z1h sd) ((5 + 10 * n : Nat) : Int) w1 (ht.below hb1 ht.lt)
 rw [q3j (z4i sd) (by omega)] at hT
 refine Ks.call rfl 20 #[str (z1h sd), .int .i64 ((5 + 10 * n : Nat) : Int)] (by kernel_rfl) (R := fun v w' => v = .tuple #[str (k2l (z1h sd) (5 + 10 * n)), .int .i64 0] ∧ Below w1.heap.size w1 w') (Calls.mono hT fun e w' h => ⟨_, h.1, rfl, h.2⟩) ?_
 rintro _ w2 ⟨rfl, hb2⟩
 generalize k2l (z1h sd) (5 + 10 * n) = T
 simp only [zD]
 refine Ks.v (.tuple #[str T, .int .i64 0]) ?_
 simp only [zD]
 refine Ks.v (str T) ?_
 simp only [zD]
 refine Ks.v (.int .i64 0) ?_
 simp only [zD]
 refine Ks.v (str T) ?_
 simp only [zD]
 refine Ks.v (.int .i64 0) ?_
 simp only [zD]
 refine Ks.done ?_
 refine wp_seq ?_
 refine Ks.reg ?_
 refine Ks.v (str T) ?_
 simp only [zD]
 refine Ks.v (str T) ?_
 simp only [zD]
 refine Ks.done ?_
 refine wp_ret ?_
 repeat (refine Ks.ret ?_)
 refine bodyPost_ret (v := str T) (by simp [results, Tryz.results72]) rfl ?_
 exact ⟨_, rfl, rfl, hb1.trans (hb2.mono hb1.size)⟩
theorem k5l {S T : Nat → Prop} {w : World} {g g' : Nat} {s t : St} (h : z0h S w g s) (h' : z0h T w g' t) (hI : Inv s) (hJ : Inv t) (most : Nat) (ht : Hs.z0j w) (hok : (z7d z0n t (z1j s t) (z1m s t most)).1 = 0) :
  Calls Tryz.prog 26 #[.pointer (some ⟨g, 0, none⟩), .pointer (some ⟨g', 0, none⟩), .int .i64 (most : Int)] w fun e w' => ∃ v, e = .returned v ∧ v = .bool true ∧ z0h (fun k => T k ∨ w.heap.size ≤ k) w' g' (z7d z0n t (z1j s t) (z1m s t most)).2 ∧ Fr T w.heap.size w w' := by
 go_enter Tryz.func26, Tryz.ntmps26
 refine wp_seq ?_
 refine Ks.reg ?_
 refine Ks.v (.bool false) ?_
 simp only [zD]
 refine Ks.done ?_
 refine wp_seq ?_
 refine Ks.reg ?_
 refine Ks.v (.pointer (some ⟨g, 0, none⟩)) ?_
 simp only [zD]
 refine Ks.v (.pointer (some ⟨g', 0, none⟩)) ?_
 simp only [zD]
 refine Ks.call rfl 36 #[.pointer (some ⟨g', 0, none⟩)] (by kernel_rfl) (y6k h' hJ) ?_
 rintro _ w1 ⟨⟨sv, l, rfl, hl, hs⟩, hb1⟩
 have H1 : Hid (z0h S w1 g s) := h.below hb1
 simp only [zD]
 refine Ks.v (.int .i64 (most : Int)) ?_
 simp only [zD]
 have hlen : l.length ≤ 1000000000 := by
  have := congrArg List.length hl
  rw [List.length_map] at this
  have h2 := y3t t.keys
  have h3 := hJ.few
  unfold St.keys at *
  rw [List.length_map] at h2
  omega
 have hmore : ∀ p ∈ l, p.1.more.length ≤ 1000000000 := by
  intro p hp
  have h1 : p.1 ∈ z5w t.keys := by rw [← hl]; exact List.mem_map.2 ⟨p, hp, rfl⟩
  have h2 := (z8m (fun k hk => (hJ.x1e k hk).2) p.1 h1).2
  have h3 := hJ.few
  unfold St.keys at h2
  rw [List.length_map] at h2
  omega
 have hT := y4x H1.out hI t.floor sv l most hs hlen hmore (by rw [hl]; exact hJ.z8t)
 rw [hl] at hT
 refine Ks.call rfl 28 #[.pointer (some ⟨g, 0, none⟩), .agg #[.int .i64 t.floor, sv], .int .i64 (most : Int)] (by kernel_rfl) hT ?_
 rintro _ w2 ⟨⟨hv, rfl, hrow⟩, hb2⟩
 have H2 : Hid (z0h T w2 g' t) := (h'.below hb1).below hb2
 have e1 : z7f s.l (z5w t.keys) most = z1m s t most := rfl
 have e2 : (if t.floor < s.floor then s.order else []) = z1j s t := rfl
 rw [e1] at hrow
 rw [e2]
 have hnl : (z1m s t most).length ≤ 1000000000 := Nat.le_trans (z8x s t most).length_le (Nat.le_trans hI.few (by decide))
 clear e1 e2 hT hmore hlen hs hl H1
 generalize z1j s t = o at *
 generalize z1m s t most = n at *
 have hB2 : Below w.heap.size w w2 := hb1.trans (hb2.mono hb1.size)
 have hw1 := hb1.size
 have hrow' : Row (fun k => w.heap.size ≤ k) w2 73 5 hv n.length (itL n) := hrow.mono fun k hk => Nat.le_trans hw1 hk
 clear hrow hb2 hb1
 have hcells : hv.oneCell' = true := Row.one hrow'
 simp only [zD]
 refine Ks.v (.tuple #[.agg #[str o, hv], .int .i64 0]) ?_
 simp only [zD]
 refine Ks.v (.agg #[str o, hv]) ?_
 simp only [zD]
 refine Ks.v (.int .i64 0) ?_
 simp only [zD]
 refine Ks.alloc rfl _ rfl (.agg #[.string ⟨#[]⟩, .slice none 0 0]) (by kernel_rfl) #[.string ⟨#[]⟩, .slice none 0 0] rfl ?_
 intro w3 b Hb HX3 HB3 HS3
 simp only [zD]
 refine Ks.whole rfl _ _ _ rfl b #[str o, hv] rfl rfl HX3.out (by kernel_rfl) rfl (by
  simp [Value.oneCell'] at hcells ⊢
  exact ⟨rfl, hcells⟩) ?_
 intro w4 HR4 HF4 HO4 HS4
 have hb34 : Below w2.heap.size w2 w4 := HB3.out.trans ((HF4.out (fun _ => False) w2.heap.size (Or.inr (Nat.le_of_eq Hb.out.symm))).below (Nat.le_refl _) fun _ _ h => h)
 have hB4 : Below w.heap.size w w4 := hB2.trans (hb34.mono hB2.size)
 have H4 : Hid (z0h (fun k => T k ∧ k < w.heap.size) w4 g' t) := (h'.cut (Nat.le_refl _)).below hB4
 have hrow4 : Row (fun k => w.heap.size ≤ k) w4 73 5 hv n.length (itL n) := hrow'.below hb34 (Nat.le_refl _)
 clear hb34 HX3 HB3 HS3 HF4 HO4 HS4 H2 hrow'
 simp only [Act.put]
 refine Ks.v (.int .i64 0) ?_
 simp only [zD]
 refine Ks.done ?_
 refine wp_seq ?_
 refine Ks.reg ?_
 refine Ks.v (.pointer (some ⟨g', 0, none⟩)) ?_
 simp only [zD]
 refine Ks.row rfl _ _ rfl b rfl HR4.out Tryz.underlying66 rfl (by kernel_rfl) ?_
 simp only [zD]
 refine Ks.call rfl 37 #[.pointer (some ⟨g', 0, none⟩), .agg #[str o, hv]] (by kernel_rfl) (q5s H4.out o hv n hrow4 (fun k hk hs => by omega) hnl (ht.below hB4 ht.lt)) ?_
 rintro _ w5 ⟨rfl, hP5, hF5⟩
 rw [hok]
 simp only [zD]
 refine Ks.v (.int .i64 0) ?_
 simp only [zD]
 refine Ks.done ?_
 refine wp_seq ?_
 refine Ks.reg ?_
 refine Ks.v (.int .i64 0) ?_
 simp only [zD]
 refine Ks.v (.bool true) ?_
 simp only [zD]
 refine Ks.v (.bool true) ?_
 simp only [zD]
 refine Ks.g (.int .i64 0) ?_
 simp only [zD]
 refine Ks.g (.bool true) ?_
 simp only [zD]
 refine Ks.v (.bool true) ?_
 simp only [zD]
 refine Ks.v (.bool true) ?_
 simp only [zD]
 refine Ks.done ?_
 refine wp_ret ?_
 repeat (refine Ks.ret ?_)
 refine bodyPost_ret (v := .bool true) (by simp [results, Tryz.results26]) rfl ?_
 refine ⟨_, rfl, rfl, hP5.mono fun k hk => hk.imp (fun h => h.1) (fun h => Nat.le_trans hB4.size h), ?_⟩
 exact (Fr.z0z hB4 (Nat.le_refl _)).trans (hF5.mono hB4.size fun k _ h => h.1)
end Tn
open Go Go.RowKit
namespace Tn
open Mp Bk Tk Gw Gt
def z9b (O : Nat → Nat → Prop) (b : Nat) : Prop := ∀ i, ¬ O b i
structure Kept (O : Nat → Nat → Prop) (w : World) (O' : Nat → Nat → Prop) (w' : World) : Prop where
 os : w'.os = w.os
 tape : w'.tape = w.tape
 output : w'.output = w.output
 size : w.heap.size ≤ w'.heap.size
 free : ∀ b, b < w.heap.size → z9b O b → z9b O' b ∧ w'.heap[b]? = w.heap[b]?
theorem Kept.trans {O O' O'' : Nat → Nat → Prop} {w w' w'' : World} (h : Kept O w O' w') (k : Kept O' w' O'' w'') : Kept O w O'' w'' :=
 ⟨k.os.trans h.os, k.tape.trans h.tape, k.output.trans h.output, Nat.le_trans h.size k.size, fun b hb hf => by
  obtain ⟨h1, h2⟩ := h.free b hb hf
  obtain ⟨k1, k2⟩ := k.free b (Nat.lt_of_lt_of_le hb h.size) h1
  exact ⟨k1, k2.trans h2⟩⟩
theorem Kept.refl (O : Nat → Nat → Prop) (w : World) : Kept O w O w := ⟨rfl, rfl, rfl, Nat.le_refl _, fun _ _ h => ⟨h, rfl⟩⟩
theorem Kept.below {O : Nat → Nat → Prop} {w w' : World} (hb : Below w.heap.size w w') : Kept O w O w' := ⟨hb.os, hb.tape, hb.output, hb.size, fun b h hf => ⟨hf, hb.block b h⟩⟩
theorem Kept.row {O O' : Nat → Nat → Prop} {N : Nat} {w w' : World} (h : Kept O w O' w') {e : TypeId} {sz : Nat} {v : Value} {n : Nat} {xs : List Value} (hr : Row (fun b => N ≤ b ∧ z9b O b) w e sz v n xs) : Row (fun b => N ≤ b ∧ z9b O' b) w' e sz v n xs :=
 ⟨(hr.congr fun b hb => (h.free b (hr.lt b hb) (hr.2 b hb).2).2).1, fun b hb => ⟨(hr.2 b hb).1, (h.free b (hr.lt b hb) (hr.2 b hb).2).1⟩⟩
theorem Kept.rng {O O' : Nat → Nat → Prop} {w w' : World} (h : Kept O w O' w') {b o : Nat} {cs : List Value} (hb : b < w.heap.size) (hf : z9b O b) (hr : w.rangeAt b o cs) : w'.rangeAt b o cs := fun j v hv => by
 rw [World.cell?_of_block (w := w) (w' := w') ((h.free b hb hf).2)]
 exact hr j v hv
structure TIn (O : Nat → Nat → Prop) (N : Nat) (w : World) (ps : List (Nat × St)) : Prop where
 one : ∀ b i j, O b i → O b j → i = j
 lt : ∀ b i, O b i → N ≤ b ∧ b < w.heap.size
 pos : 0 < N
 wN : N ≤ w.heap.size
 tab : Hs.z0j w
 gates : ∀ i p, ps[i]? = some p → z0h (fun b => O b i) w p.1 p.2
namespace TIn
variable {O : Nat → Nat → Prop} {N : Nat} {w w' : World} {ps : List (Nat × St)}
theorem start (ht : Hs.z0j w) (N : Nat) (h0 : 0 < N) (hN : N ≤ w.heap.size) : TIn (fun _ _ => False) N w [] := ⟨fun _ _ _ h => h.elim, fun _ _ h => h.elim, h0, hN, ht, fun i p hp => by simp at hp⟩
theorem j1a (h : TIn O N w ps) {O' : Nat → Nat → Prop} (k : Kept O w O' w') : Hs.z0j w' := fun j hj => by
 have h0 : z9b O 0 := fun i hi => by have := (h.lt 0 i hi).1; have := h.pos; omega
 rw [World.cell?_of_block (w := w) (w' := w') (k.free 0 h.tab.lt h0).2]
 exact h.tab j hj
theorem x5n (h : TIn O N w ps) {O' : Nat → Nat → Prop} (k : Kept O w O' w') : Below N w w' := ⟨k.os, k.tape, k.output, k.size, fun b hb => (k.free b (Nat.lt_of_lt_of_le hb h.wN) fun i hi => by have := (h.lt b i hi).1; omega).2⟩
theorem below (h : TIn O N w ps) (hb : Below w.heap.size w w') : TIn O N w' ps :=
 ⟨h.one, fun b i hO => ⟨(h.lt b i hO).1, Nat.lt_of_lt_of_le (h.lt b i hO).2 hb.size⟩, h.pos, Nat.le_trans h.wN hb.size, h.tab.below hb h.tab.lt, fun i p hp => (h.gates i p hp).below hb⟩
theorem fr (h : TIn O N w ps) {S : Nat → Prop} (hf : Fr S w.heap.size w w') (hS : ∀ b, S b → N ≤ b ∧ z9b O b) : TIn O N w' ps :=
 ⟨h.one, fun b i hO => ⟨(h.lt b i hO).1, Nat.lt_of_lt_of_le (h.lt b i hO).2 hf.size⟩, h.pos, Nat.le_trans h.wN hf.size, fun j hj => by
  rw [World.cell?_of_block (w := w) (w' := w') (hf.block 0 h.tab.lt fun hs => by have := (hS 0 hs).1; have := h.pos; omega)]
  exact h.tab j hj, fun i p hp => (h.gates i p hp).congr (fun _ hb => hb) fun b hb hlt => hf.block b hlt fun hs => (hS b hs).2 i hb⟩
theorem turn (h : TIn O N w ps) {i : Nat} {p : Nat × St} (hp : ps[i]? = some p) {s' : St} (hf : Fr (fun b => O b i) w.heap.size w w') (hg : z0h (fun b => O b i ∨ w.heap.size ≤ b) w' p.1 s') :
  ∃ O', TIn O' N w' (ps.set i (p.1, s')) ∧ Kept O w O' w' := by
 have hs := hf.size
 have hwN := h.wN
 have hk : ∀ b j, O b j → j ≠ i → w'.heap[b]? = w.heap[b]? := fun b j hO hj => hf.block b (h.lt b j hO).2 fun hx => hj (h.one b j _ hO hx)
 have hK : Kept O w (fun b j => O b j ∨ (w.heap.size ≤ b ∧ b < w'.heap.size ∧ j = i)) w' := ⟨hf.os, hf.tape, hf.output, hs, fun b hb hf0 => ⟨fun j hj => hj.elim (hf0 j) fun hx => by omega, hf.block b hb (hf0 i)⟩⟩
 refine ⟨_, ⟨?_, ?_, h.pos, Nat.le_trans h.wN hs, h.j1a hK, ?_⟩, hK⟩
 ·rintro b j k (h1 | ⟨h1, h2, h3⟩) (h4 | ⟨h4, h5, h6⟩)
  ·exact h.one b j k h1 h4
  ·exact absurd (h.lt b j h1).2 (by omega)
  ·exact absurd (h.lt b k h4).2 (by omega)
  ·omega
 ·rintro b j (h1 | ⟨h1, h2, h3⟩)
  ·exact ⟨(h.lt b j h1).1, Nat.lt_of_lt_of_le (h.lt b j h1).2 hs⟩
  ·exact ⟨by omega, h2⟩
 ·intro j q hq
  by_cases hj : j = i
  ·subst hj
   have hlt : j < ps.length := (lL hp)
   rw [List.getElem?_set_self hlt] at hq
   injection hq with hq
   subst hq
   exact (hg.cut (Nat.le_refl _)).congr (fun b hb => hb.1.elim Or.inl fun hx => Or.inr ⟨hx, hb.2, rfl⟩) (fun _ _ _ => rfl)
  ·rw [List.getElem?_set_ne (fun e => hj e.symm)] at hq
   exact (h.gates j q hq).congr (fun b hb => Or.inl hb) (fun b hb _ => hk b _ hb hj)
theorem push (h : TIn O N w ps) {g : Nat} {s : St} (hb : Below w.heap.size w w') (hg : z0h (fun b => w.heap.size ≤ b) w' g s) : ∃ O', TIn O' N w' (ps ++ [(g, s)]) ∧ Kept O w O' w' := by
 have hs := hb.size
 have hwN := h.wN
 have hK : Kept O w (fun b j => O b j ∨ (w.heap.size ≤ b ∧ b < w'.heap.size ∧ j = ps.length)) w' := ⟨hb.os, hb.tape, hb.output, hs, fun b hlt hf0 => ⟨fun j hj => hj.elim (hf0 j) fun hx => by omega, hb.block b hlt⟩⟩
 refine ⟨_, ⟨?_, ?_, h.pos, Nat.le_trans h.wN hs, h.j1a hK, ?_⟩, hK⟩
 ·rintro b j k (h1 | ⟨h1, h2, h3⟩) (h4 | ⟨h4, h5, h6⟩)
  ·exact h.one b j k h1 h4
  ·exact absurd (h.lt b j h1).2 (by omega)
  ·exact absurd (h.lt b k h4).2 (by omega)
  ·omega
 ·rintro b j (h1 | ⟨h1, h2, h3⟩)
  ·exact ⟨(h.lt b j h1).1, Nat.lt_of_lt_of_le (h.lt b j h1).2 hs⟩
  ·exact ⟨by omega, h2⟩
 ·intro j q hq
  rw [List.getElem?_append] at hq
  split at hq
  ·exact ((h.gates j q hq).below hb).congr (fun b hb => Or.inl hb) (fun _ _ _ => rfl)
  ·rename_i hj
   have : j = ps.length := by
    have := (lL hq)
    simp at this
    omega
   subst this
   simp at hq
   subst hq
   exact (hg.cut (Nat.le_refl _)).congr (fun b hb => Or.inr ⟨hb.1, hb.2, rfl⟩) (fun _ _ _ => rfl)
end TIn
def ptr (p : Nat × St) : Value := .pointer (some ⟨p.1, 0, none⟩)
end Tn
end Go.Proofs.YtbojijefenfbgaaGreatDoor

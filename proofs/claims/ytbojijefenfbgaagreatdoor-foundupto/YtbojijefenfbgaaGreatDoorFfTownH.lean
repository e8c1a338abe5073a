/- Walk of the package posternkeep's alike. A town's gates meet: what each then knows. What was let in at gates apart, and by whom twice. -/
import Derived.Test.YtbojijefenfbgaaGreatDoorFfTownE
import Derived.Test.YtbojijefenfbgaaGreatDoorFfLawF
namespace Go.Proofs.YtbojijefenfbgaaGreatDoor
open Go Go.RowKit
namespace Tn
open Mp Bk Tk Gw Gt
end Tn
end Go.Proofs.YtbojijefenfbgaaGreatDoor
namespace Go.Proofs.YtbojijefenfbgaaGreatDoor
open Go Go.RowKit
namespace Tn
open Mp Bk Tk Gw Gt
def q2l : List Int := [0, 3, 6, 9]
def k9m : List Int := [0, 3, 6, 9, 15, 15]
theorem k1j : q6c k9m := by
 intro i j n m hi hj h1 h2
 have hjl : j < 6 := (List.getElem?_eq_some_iff.1 h2).1
 rcases (by omega : i = 0 ∨ i = 1 ∨ i = 2 ∨ i = 3) with rfl | rfl | rfl | rfl <;> rcases (by omega : j = 0 ∨ j = 1 ∨ j = 2 ∨ j = 3 ∨ j = 4 ∨ j = 5) with rfl | rfl | rfl | rfl | rfl | rfl <;> simp [k9m] at h1 h2 hj <;> omega
theorem x2e : q6c q2l := by
 intro i j n m hi hj h1 h2
 have hjl : j < 4 := (List.getElem?_eq_some_iff.1 h2).1
 rcases (by omega : i = 0 ∨ i = 1 ∨ i = 2 ∨ i = 3) with rfl | rfl | rfl | rfl <;> rcases (by omega : j = 0 ∨ j = 1 ∨ j = 2 ∨ j = 3) with rfl | rfl | rfl | rfl <;> simp [q2l] at h1 h2 hj <;> omega
theorem x6w (k : List UInt8) : news k 4 = [St.new 0 k, St.new 3 k, St.new 6 k, St.new 9 k] := rfl
theorem q1l {k : List UInt8} {ok : Int → Prop} {ord : Int → List UInt8} : Gts k ok ord q2l (fun _ => (0, 0)) (fun _ => 0) 0 (news k 4) := by
 refine ⟨rfl, fun s hs => ?_, fun n => Int.le_refl _⟩
 rw [x6w] at hs
 simp only [List.mem_cons, List.not_mem_nil, or_false] at hs
 rcases hs with rfl | rfl | rfl | rfl <;> exact Gt1.new (by omega) rfl
section
variable {k : List UInt8} {ok : Int → Prop} {ord : Int → List UInt8} {z2m : List Int} {N : Nat} {w w' : World} {lv : Value} {O : Nat → Nat → Prop} {ps : List (Nat × St)} {m : Nat} {P : Int × Int → Int × Int} {ow : Int → Int}
theorem z1k.start (hT : TIn O N w ps) (hp : ps.map Prod.snd = news k 4) (hr : Row (fun b => N ≤ b ∧ y7f O b) w 62 1 lv ps.length (ps.map ptr)) : z1k k ok ord q2l N w lv O ps 0 (fun _ => (0, 0)) (fun _ => 0) := by
 have hl : ps.length = 4 := by
  have := congrArg List.length hp
  simpa [news] using this
 refine ⟨hT, by rw [hp]; exact q1l, ?_, by omega⟩
 rw [← hl, List.take_of_length_le (Nat.le_refl _)]
 exact hr
theorem z1k.len (h : z1k k ok ord z2m N w lv O ps m P ow) : ps.length = z2m.length := by
 have := congrArg List.length h.gts.z2m
 simpa using this
theorem z1k.spread (h : z1k k ok ord z2m N w lv O ps m P ow) (hO : Orders z0q k ok ord) {K : List St} {D : Nat → Nat → Prop} (hS : z4v K D (ps.map Prod.snd)) (hr : ∀ i, D i i) {i j : Nat} {p q : Nat × St} (hp : ps[i]? = some p) (hq : ps[j]? = some q) (most : Nat) (hm : 16000 ≤ most) :
  z4v K (fun a b => D a b ∨ (a = i ∧ b = j)) ((ps.set j (q.1, (z7u z0q q.2 (z1e p.2 q.2) (z1l p.2 q.2 most)).2)).map Prod.snd) := by
 obtain ⟨h1, h2, h3⟩ := h.at_ hp
 obtain ⟨g1, g2, g3⟩ := h.at_ hq
 obtain ⟨m1, m2, m3, m4, m5⟩ := Gt1.meets hO h2 g2 most
 rw [List.map_set]
 refine hS.meets hr h3 g3 m3 fun x => ?_
 rw [m5 x, x3j h2.town.inv g2.town.inv hm]
 constructor
 ·rintro (h | h)
  ·exact Or.inl h
  ·exact Or.inr h.1
 ·rintro (h | h)
  ·exact Or.inl h
  ·by_cases hx : x ∈ q.2.keys
   ·exact Or.inl hx
   ·exact Or.inr ⟨h, hx⟩
end
end Tn
end Go.Proofs.YtbojijefenfbgaaGreatDoor
namespace Go.Proofs.YtbojijefenfbgaaGreatDoor
namespace Bk
def pas (t : Nat) : Int × Int := (((t / 2 * 10 : Nat) : Int), (t : Int))
theorem y8n {t u : Nat} (h : pas t = pas u) : t = u := by
 unfold pas at h
 injection h with _ h
 omega
structure Had (inn : Nat → Bool) (s : St) : Prop where
 floor : s.floor = 0
 own : ∀ x ∈ s.l, x.gate = s.number ∧ x.gone = false
 of_ : ∀ x ∈ s.l, ∃ t, t < 6 ∧ inn t = true ∧ x.pass = pas t
 has : ∀ t, t < 6 → inn t = true → ∃ x ∈ s.l, x.pass = pas t
 one : ∀ x ∈ s.l, ∀ y ∈ s.l, x.pass = y.pass → x = y
theorem Had.new (n : Int) (k : List UInt8) : Had (fun _ => false) (St.new n k) :=
 ⟨rfl, fun x hx => by simp [St.new] at hx, fun x hx => by simp [St.new] at hx, fun t _ h => absurd h (by simp), fun x hx => by simp [St.new] at hx⟩
theorem Had.y2a {R : List UInt8 → List UInt8 → List UInt8 → Bool} {inn : Nat → Bool} {s : St} (h : Had inn s) {t : Nat} (ht : t < 6) {T : List UInt8} (hT : k1f R s.key T) (he : (z0f T, z0n T) = pas t) (ho : s.own < 1000) :
  (adm R s T).1 = (if inn t = true then 7 else 0) ∧ Had (fun u => inn u || decide (u = t)) (adm R s T).2 := by
 have h0 := (y3f (t := T)).1
 rw [y9s hT, if_neg (by rw [h.floor]; omega)]
 by_cases hi : inn t = true
 ·obtain ⟨x, hx, e⟩ := h.has t ht hi
  rw [if_pos ⟨x, List.mem_filter.2 ⟨hx, by simp [(h.own x hx).2]⟩, by rw [e, he]⟩, if_pos hi]
  have e2 : (fun u => inn u || decide (u = t)) = inn := by
   funext u
   by_cases hu : u = t
   ·subst hu; simp [hi]
   ·simp [hu]
  rw [e2]
  exact ⟨rfl, h⟩
 ·have hno : ¬ ∃ x ∈ held s.l, x.pass = (z0f T, z0n T) := by
   rintro ⟨x, hx, e⟩
   obtain ⟨u, _, hu, e2⟩ := h.of_ x (List.mem_filter.1 hx).1
   rw [he, e2] at e
   exact hi (y8n e ▸ hu)
  rw [if_neg hno, if_neg (by omega), if_neg hi]
  have hp : (s.fresh T).pass = pas t := he
  have hnot : ∀ y ∈ s.l, y.pass ≠ pas t := fun y hy e => by
   obtain ⟨u, _, hu, e2⟩ := h.of_ y hy
   rw [e2] at e
   exact hi (y8n e ▸ hu)
  refine ⟨rfl, h.floor, fun x hx => ?_, fun x hx => ?_, fun u hu hn => ?_, fun x hx y hy e => ?_⟩
  ·rcases z2u.1 hx with rfl | hx
   ·exact ⟨rfl, rfl⟩
   ·exact h.own x hx
  ·rcases z2u.1 hx with rfl | hx
   ·exact ⟨t, ht, by simp, hp⟩
   ·obtain ⟨u, h1, h2, h3⟩ := h.of_ x hx
    exact ⟨u, h1, by simp [h2], h3⟩
  ·by_cases hut : u = t
   ·subst hut
    exact ⟨_, z2u.2 (Or.inl rfl), hp⟩
   ·obtain ⟨x, hx, e⟩ := h.has u hu (by simpa [hut] using hn)
    exact ⟨x, z2u.2 (Or.inr hx), e⟩
  ·rcases z2u.1 hx with rfl | hx
   ·rcases z2u.1 hy with rfl | hy
    ·rfl
    ·exact absurd (e.symm.trans hp) (hnot y hy)
   ·rcases z2u.1 hy with rfl | hy
    ·exact absurd (e.trans hp) (hnot x hx)
    ·exact h.one x hx y hy e
def want (inn : Nat → Nat → Bool) (t n : Nat) : List Int := ((List.range n).filter fun g => inn t g).map fun g : Nat => 3 * (g : Int)
def y9k (inn : Nat → Nat → Bool) (t : Nat) : Bool := decide (2 ≤ (want inn t 4).length)
def tws (inn : Nat → Nat → Bool) (n : Nat) : List Tw := ((List.range n).filter (y9k inn)).map fun t => ⟨((t / 2 * 10 : Nat) : Int), (t : Int), want inn t 4⟩
theorem y5h (p : Nat → Bool) (t : Nat) (hp : p t = true) : ∀ n, t < n → ((List.range n).filter p)[((List.range t).filter p).length]? = some t
 | 0, h => absurd h (Nat.not_lt_zero _)
 | n + 1, h => by
  rw [List.range_succ, List.filter_append]
  by_cases hn : t < n
  ·have := y5h p t hp n hn
   rw [List.getElem?_append_left (List.getElem?_eq_some_iff.1 this).1]
   exact this
  ·obtain rfl : t = n := by omega
   rw [List.getElem?_append_right (Nat.le_refl _)]
   simp [hp]
theorem k5y (inn : Nat → Nat → Bool) {t n : Nat} (hp : y9k inn t = true) (h : t < n) : (tws inn n)[(tws inn t).length]? = some ⟨((t / 2 * 10 : Nat) : Int), (t : Int), want inn t 4⟩ := by
 unfold tws
 rw [List.length_map, List.getElem?_map, y5h _ t hp n h]
 rfl
theorem q4k (inn : Nat → Nat → Bool) (t : Nat) : (tws inn (t + 1)).length = (tws inn t).length + if y9k inn t = true then 1 else 0 := by
 unfold tws
 rw [List.length_map, List.length_map, List.range_succ, List.filter_append, List.length_append]
 congr 1
 by_cases h : y9k inn t = true
 ·simp [h]
 ·simp [h]
theorem x9g (inn : Nat → Nat → Bool) (t n : Nat) : want inn t (n + 1) = if inn t n = true then want inn t n ++ [3 * (n : Int)] else want inn t n := by
 unfold want
 rw [List.range_succ, List.filter_append, List.map_append]
 by_cases h : inn t n = true
 ·simp [h]
 ·simp [h]
theorem x1z (inn : Nat → Nat → Bool) (t n : Nat) : (want inn t n).length ≤ n := by
 unfold want
 rw [List.length_map]
 exact Nat.le_trans (List.length_filter_le _ _) (by simp)
section
variable {P : Int × Int → Int × Int} {ow : Int → Int} {ss : List St} {inn : Nat → Nat → Bool} {s0 : St}
theorem x5r (hss : ∀ (g : Nat) s, ss[g]? = some s → z6u P ow s ∧ Had (fun t => inn t g) s ∧ s.number = 3 * (g : Int)) (h0 : z6u P ow s0) (hf : s0.floor = 0) (hk : ∀ k, k ∈ s0.keys ↔ ∃ s ∈ ss, k ∈ s.keys) (x : It) : x ∈ s0.l ↔ ∃ (g : Nat) (s : St), ss[g]? = some s ∧ x ∈ s.l := by
 have e0 : ∀ x ∈ s0.l, x = z4p 0 (itm P x.key) := fun x hx => by rw [← hf]; exact h0.item x hx
 have eg : ∀ (g : Nat) s, ss[g]? = some s → ∀ x ∈ s.l, x = z4p 0 (itm P x.key) := fun g s hs x hx => by
  obtain ⟨h1, h2, _⟩ := hss g s hs
  rw [← h2.floor]
  exact h1.item x hx
 constructor
 ·intro hx
  obtain ⟨s, hs, hy⟩ := (hk x.key).1 (List.mem_map.2 ⟨x, hx, rfl⟩)
  obtain ⟨y, hy, e⟩ := List.mem_map.1 hy
  obtain ⟨g, hg, rfl⟩ := List.getElem_of_mem hs
  refine ⟨g, _, List.getElem?_eq_getElem hg, ?_⟩
  rw [e0 x hx, ← e, ← eg g _ (List.getElem?_eq_getElem hg) y hy]
  exact hy
 ·rintro ⟨g, s, hs, hx⟩
  obtain ⟨y, hy, e⟩ := List.mem_map.1 ((hk x.key).2 ⟨s, List.mem_of_getElem? hs, List.mem_map.2 ⟨x, hx, rfl⟩⟩)
  rw [eg g s hs x hx, ← e, ← e0 y hy]
  exact hy
theorem y8a (hss : ∀ (g : Nat) s, ss[g]? = some s → z6u P ow s ∧ Had (fun t => inn t g) s ∧ s.number = 3 * (g : Int)) (hl : ss.length = 4) (h0 : Inv s0) (hm : ∀ x, x ∈ s0.l ↔ ∃ (g : Nat) (s : St), ss[g]? = some s ∧ x ∈ s.l) {t : Nat} (ht : t < 6) : z7f s0.l (pas t) = want inn t 4 := by
 refine z6e (R := fun a b : Int => a < b) (fun a => Int.lt_irrefl a) (fun h k => Int.lt_trans h k) ?_ ?_ fun n => ?_
 ·unfold z7f
  rw [List.pairwise_map]
  refine ((h0.rises.filter _).filter _).imp_of_mem ?_
  intro a b ha hb hab
  rcases hab with h | ⟨h1, h2⟩
  ·exact h
  ·exfalso
   have pa : a.pass = pas t := by simpa using (List.mem_filter.1 ha).2
   have pb : b.pass = pas t := by simpa using (List.mem_filter.1 hb).2
   obtain ⟨g, s, hs, hx⟩ := (hm a).1 (List.mem_filter.1 (List.mem_filter.1 ha).1).1
   obtain ⟨g', s', hs', hx'⟩ := (hm b).1 (List.mem_filter.1 (List.mem_filter.1 hb).1).1
   obtain ⟨_, q, q2⟩ := hss g s hs
   obtain ⟨_, q', q2'⟩ := hss g' s' hs'
   have e1 := (q.own a hx).1
   have e2 := (q'.own b hx').1
   obtain rfl : g = g' := by omega
   rw [hs] at hs'
   cases hs'
   have := q.one a hx b hx' (pa.trans pb.symm)
   subst this
   omega
 ·unfold want
  rw [List.pairwise_map]
  exact (List.pairwise_lt_range.filter _).imp fun h => by omega
 ·unfold z7f want held
  simp only [List.mem_map, List.mem_filter, List.mem_range, decide_eq_true_eq]
  constructor
  ·rintro ⟨x, ⟨⟨hx, hg⟩, hp⟩, rfl⟩
   obtain ⟨g, s, hs, hx⟩ := (hm x).1 hx
   obtain ⟨_, q, q2⟩ := hss g s hs
   obtain ⟨u, _, hu, e⟩ := q.of_ x hx
   obtain rfl := y8n (hp.symm.trans e)
   exact ⟨g, ⟨by have := (List.getElem?_eq_some_iff.1 hs).1; omega, hu⟩, by rw [(q.own x hx).1, q2]⟩
  ·rintro ⟨g, ⟨hg, hi⟩, rfl⟩
   obtain ⟨s, hs⟩ : ∃ s, ss[g]? = some s := ⟨_, List.getElem?_eq_getElem (by omega)⟩
   obtain ⟨_, q, q2⟩ := hss g s hs
   obtain ⟨x, hx, e⟩ := q.has t ht hi
   obtain ⟨e1, e2⟩ := q.own x hx
   exact ⟨x, ⟨⟨(hm x).2 ⟨g, s, hs, hx⟩, by simp [e2]⟩, e⟩, by rw [e1, q2]⟩
theorem x5s (hss : ∀ (g : Nat) s, ss[g]? = some s → z6u P ow s ∧ Had (fun t => inn t g) s ∧ s.number = 3 * (g : Int)) (hl : ss.length = 4) (h0 : z6u P ow s0) (hf : s0.floor = 0) (hk : ∀ k, k ∈ s0.keys ↔ ∃ s ∈ ss, k ∈ s.keys) : y7g s0.l (tws inn 6) := by
 have hm := x5r hss h0 hf hk
 have hg := fun t ht => y8a hss hl h0.inv hm (t := t) ht
 refine ⟨?_, fun e => ?_⟩
 ·unfold tws
  rw [List.pairwise_map]
  refine (List.pairwise_lt_range.filter _).imp ?_
  intro a b h
  unfold Lt2 Tw.pass
  simp only
  omega
 ·unfold tws
  simp only [List.mem_map, List.mem_filter, List.mem_range]
  constructor
  ·rintro ⟨t, ⟨ht, hw⟩, rfl⟩
   exact ⟨(hg t ht).symm, of_decide_eq_true hw⟩
  ·rintro ⟨h1, h2⟩
   obtain ⟨x, hx⟩ : ∃ x, x ∈ z7f s0.l e.pass := by
    cases hc : z7f s0.l e.pass with
    | nil => rw [h1, hc] at h2; simp at h2
    | cons y r => exact ⟨y, by simp⟩
   unfold z7f at hx
   obtain ⟨y, hy, _⟩ := List.mem_map.1 hx
   have py : y.pass = e.pass := by simpa using (List.mem_filter.1 hy).2
   obtain ⟨g, s, hs, hys⟩ := (hm y).1 (List.mem_filter.1 (List.mem_filter.1 hy).1).1
   obtain ⟨_, q, _⟩ := hss g s hs
   obtain ⟨t, ht, _, et⟩ := q.of_ y hys
   have ep : e.pass = pas t := py.symm.trans et
   rw [ep, hg t ht] at h1
   refine ⟨t, ⟨ht, by unfold y9k; rw [← h1]; exact decide_eq_true h2⟩, ?_⟩
   obtain ⟨a, b, c⟩ := e
   unfold Tw.pass pas at ep
   injection ep with e1 e2
   simp only at e1 e2 h1
   rw [e1, e2, h1]
end
end Bk
end Go.Proofs.YtbojijefenfbgaaGreatDoor

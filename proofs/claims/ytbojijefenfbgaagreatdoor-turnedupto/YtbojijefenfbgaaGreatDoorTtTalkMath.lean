/- Digests by what a gate has heard of: how they are made, when they are digests, what they have. News by what a gate knows: how they are told and heard; what was let in twice. Walks of the orders: cmp.Compare, cmp.Or, byAdmission, byPass. -/
import Derived.Test.YtbojijefenfbgaaGreatDoorTtGateG
namespace Go.Proofs.YtbojijefenfbgaaGreatDoor
namespace Bk
def Lt2 (a b : Int × Int) : Prop := a.1 < b.1 ∨ (a.1 = b.1 ∧ a.2 < b.2)
instance (a b : Int × Int) : Decidable (Lt2 a b) := by unfold Lt2; infer_instance
theorem Lt2.trans {a b c : Int × Int} (h : Lt2 a b) (k : Lt2 b c) : Lt2 a c := by unfold Lt2 at *; omega
theorem Lt2.irrefl {a : Int × Int} : ¬ Lt2 a a := by unfold Lt2; omega
theorem Lt2.other {a b : Int × Int} (h : a ≠ b) (k : ¬ Lt2 a b) : Lt2 b a := by
 unfold Lt2 at *
 by_cases e1 : a.1 = b.1
 ·by_cases e2 : a.2 = b.2
  ·exact absurd (Prod.ext e1 e2) h
  ·omega
 ·omega
theorem z6j {α : Type} {R : α → α → Prop} (irr : ∀ a, ¬ R a a) (tr : ∀ {a b c}, R a b → R b c → R a c) : ∀ {l m : List α}, l.Pairwise R → m.Pairwise R → (∀ x, x ∈ l ↔ x ∈ m) → l = m
 | [], [], _, _, _ => rfl
 | [], y :: m, _, _, h => by have := (h y).2 (by simp); simp at this
 | x :: l, [], _, _, h => by have := (h x).1 (by simp); simp at this
 | x :: l, y :: m, hl, hm, h => by
  obtain ⟨l1, l2⟩ := List.pairwise_cons.1 hl
  obtain ⟨m1, m2⟩ := List.pairwise_cons.1 hm
  have e : x = y := by
   rcases List.mem_cons.1 ((h x).1 (by simp)) with e | hx
   ·exact e
   ·rcases List.mem_cons.1 ((h y).2 (by simp)) with e | hy
    ·exact e.symm
    ·exact absurd (tr (l1 y hy) (m1 x hx)) (irr x)
  subst e
  refine congrArg (x :: ·) (z6j irr tr l2 m2 fun z => ?_)
  constructor
  ·intro hz
   rcases List.mem_cons.1 ((h z).1 (by simp [hz])) with e | hz'
   ·subst e; exact absurd (l1 z hz) (irr z)
   ·exact hz'
  ·intro hz
   rcases List.mem_cons.1 ((h z).2 (by simp [hz])) with e | hz'
   ·subst e; exact absurd (m1 z hz) (irr z)
   ·exact hz'
structure Sn where
 gate : Int
 upto : Int
 more : List Int
deriving DecidableEq
def Sn.see (s : Sn) (n : Int) : Sn := if n = s.upto + 1 then { s with upto := n } else { s with more := s.more ++ [n] }
def x5b (g : Int) (ns : List Int) : Sn := ns.foldl Sn.see ⟨g, 0, []⟩
def digStep (l : List Sn) (k : Int × Int) : List Sn :=
 match l.getLast? with
 | some s => if s.gate = k.1 then l.dropLast ++ [s.see k.2] else l ++ [(⟨k.1, 0, []⟩ : Sn).see k.2]
 | none => [(⟨k.1, 0, []⟩ : Sn).see k.2]
def z5w (ks : List (Int × Int)) : List Sn := ks.foldl digStep []
theorem z7k {l : List Sn} {k : Int × Int} (h : ∀ s, l.getLast? = some s → s.gate ≠ k.1) : digStep l k = l ++ [(⟨k.1, 0, []⟩ : Sn).see k.2] := by
 unfold digStep
 split
 ·rename_i s hs
  rw [if_neg (h s hs)]
 ·rename_i hs
  rw [List.getLast?_eq_none_iff.1 hs]
  rfl
theorem z6a {l : List Sn} {s : Sn} {k : Int × Int} (h : s.gate = k.1) : digStep (l ++ [s]) k = l ++ [s.see k.2] := by
 unfold digStep
 simp [h]
theorem y0g (s : Sn) (n : Int) : (s.see n).gate = s.gate := by unfold Sn.see; split <;> rfl
theorem z2k (ns : List Int) (s : Sn) : (ns.foldl Sn.see s).gate = s.gate := by
 induction ns generalizing s with
 | nil => rfl
 | cons n r ih => rw [List.foldl_cons, ih, y0g]
theorem y6d (g : Int) : ∀ (ns : List Int) (l : List Sn) (s : Sn), s.gate = g → (ns.map fun n => (g, n)).foldl digStep (l ++ [s]) = l ++ [ns.foldl Sn.see s]
 | [], _, _, _ => rfl
 | n :: r, l, s, h => by
  rw [List.map_cons, List.foldl_cons, z6a (by exact h), List.foldl_cons]
  exact y6d g r l _ (by rw [y0g]; exact h)
theorem x3n (g : Int) (ns : List Int) (l : List Sn) (h : ∀ s, l.getLast? = some s → s.gate ≠ g) : (ns.map fun n => (g, n)).foldl digStep l = if ns = [] then l else l ++ [x5b g ns] := by
 cases ns with
 | nil => simp
 | cons n r =>
  rw [if_neg (by simp), List.map_cons, List.foldl_cons, z7k (by exact h), y6d g r l _ (y0g _ _)]
  rfl
def z1n (g : Int) (ks : List (Int × Int)) : List Int := (ks.filter fun k => decide (k.1 = g)).map Prod.snd
def y2g (ks : List (Int × Int)) (g : Nat) : Option Sn := if z1n g ks = [] then none else some (x5b g (z1n g ks))
theorem x7s (g : Int) (ks : List (Int × Int)) : (z1n g ks).map (fun n => (g, n)) = ks.filter fun k => decide (k.1 = g) := by
 unfold z1n
 rw [List.map_map]
 refine (List.map_congr_left fun k hk => ?_).trans (List.map_id _)
 have := (List.mem_filter.1 hk).2
 simp at this
 simp [Function.comp, ← this]
theorem y0s (m : Int) : ∀ {ks : List (Int × Int)}, ks.Pairwise Lt2 → ks.filter (fun k => decide (k.1 < m + 1)) = ks.filter (fun k => decide (k.1 < m)) ++ ks.filter fun k => decide (k.1 = m)
 | [], _ => rfl
 | k :: r, h => by
  obtain ⟨h1, h2⟩ := List.pairwise_cons.1 h
  have ih := y0s m h2
  by_cases hlt : k.1 < m
  ·rw [List.filter_cons_of_pos (by simp; omega), List.filter_cons_of_pos (by simp; omega), List.filter_cons_of_neg (by simp; omega), ih]
   rfl
  ·have he : r.filter (fun k => decide (k.1 < m)) = [] := List.filter_eq_nil_iff.2 fun x hx => by
    have := h1 x hx
    unfold Lt2 at this
    simp
    omega
   by_cases heq : k.1 = m
   ·rw [List.filter_cons_of_pos (by simp; omega), List.filter_cons_of_neg (by simp; omega), List.filter_cons_of_pos (by simp; omega), ih, he]
    rfl
   ·rw [List.filter_cons_of_neg (by simp; omega), List.filter_cons_of_neg (by simp; omega), List.filter_cons_of_neg (by simp; omega), ih]
theorem y5w {ks : List (Int × Int)} (hr : ks.Pairwise Lt2) (h0 : ∀ k ∈ ks, 0 ≤ k.1) : ∀ m : Nat, z5w (ks.filter fun k => decide (k.1 < (m : Int))) = (List.range m).filterMap (y2g ks) ∧ ∀ s ∈ (List.range m).filterMap (y2g ks), s.gate < m
 | 0 => by
  have : ks.filter (fun k => decide (k.1 < ((0 : Nat) : Int))) = [] := List.filter_eq_nil_iff.2 fun x hx => by
   have := h0 x hx
   simp
   omega
  rw [this]
  exact ⟨rfl, by simp⟩
 | m + 1 => by
  obtain ⟨i1, i2⟩ := y5w hr h0 m
  have e : ks.filter (fun k => decide (k.1 < ((m + 1 : Nat) : Int))) = ks.filter (fun k => decide (k.1 < (m : Int))) ++ ks.filter fun k => decide (k.1 = (m : Int)) := by
   rw [← y0s (m : Int) hr]
   rfl
  have hgate : ∀ s, y2g ks m = some s → s.gate = m := by
   intro s hs
   unfold y2g at hs
   split at hs
   ·cases hs
   ·obtain rfl := Option.some.inj hs
    exact z2k _ _
  refine ⟨?_, ?_⟩
  ·rw [e, z5w, List.foldl_append, ← x7s, ← z5w, i1, x3n, List.range_succ, List.filterMap_append]
   ·unfold y2g
    by_cases hn : z1n (↑m) ks = []
    ·simp [hn]
    ·simp [hn]
   ·intro s hs hm
    have := i2 s (List.mem_of_getLast? hs)
    omega
  ·intro s hs
   rw [List.range_succ, List.filterMap_append] at hs
   rcases List.mem_append.1 hs with h | h
   ·have := i2 s h
    omega
   ·obtain ⟨x, hx, hd⟩ := List.mem_filterMap.1 h
    simp at hx
    subst hx
    have := hgate s hd
    omega
theorem q7v {ks : List (Int × Int)} (hr : ks.Pairwise Lt2) (h0 : ∀ k ∈ ks, 0 ≤ k.1 ∧ k.1 ≤ 15) : z5w ks = (List.range 16).filterMap (y2g ks) := by
 have := (y5w hr (fun k hk => (h0 k hk).1) 16).1
 rwa [List.filter_eq_self.2] at this
 intro k hk
 have := h0 k hk
 simp
 omega
def Sn.has (s : Sn) (n : Int) : Bool := decide (n ∈ s.more) || decide (n ≤ s.upto)
structure y5n (ns : List Int) (s : Sn) : Prop where
 mem : ∀ n, 1 ≤ n → (s.has n = true ↔ n ∈ ns)
 upto : 0 ≤ s.upto
 uptoIn : s.upto = 0 ∨ s.upto ∈ ns
 rises : s.more.Pairwise (· < ·)
 more : ∀ m ∈ s.more, s.upto + 2 ≤ m ∧ m ∈ ns
 some : ns ≠ [] → s.upto ≠ 0 ∨ s.more ≠ []
theorem z1k {α : Type} {R : α → α → Prop} {l : List α} {x : α} : (l ++ [x]).Pairwise R ↔ l.Pairwise R ∧ ∀ a ∈ l, R a x := by
 rw [List.pairwise_append]
 simp
theorem y4u {α : Type} {p : List α → Prop} (h0 : p []) (h1 : ∀ l x, p l → p (l ++ [x])) (l : List α) : p l := by
 have : ∀ l : List α, p l.reverse := by
  intro l
  induction l with
  | nil => exact h0
  | cons x r ih => rw [List.reverse_cons]; exact h1 _ _ ih
 have := this l.reverse
 rwa [List.reverse_reverse] at this
theorem y5n.snoc {ns : List Int} {s : Sn} (S : y5n ns s) {n : Int} (hn : 1 ≤ n) (hm : ∀ m ∈ ns, m < n) : y5n (ns ++ [n]) (s.see n) := by
 have hu : s.upto < n := by
  rcases S.uptoIn with h | h
  ·omega
  ·exact hm _ h
 unfold Sn.see
 split
 ·rename_i he
  have hnil : s.more = [] := List.eq_nil_iff_forall_not_mem.2 fun m hmm => by
   have := S.more m hmm
   have := hm m this.2
   omega
  refine ⟨?_, ?_, ?_, ?_, ?_, ?_⟩
  ·intro k hk
   have := S.mem k hk
   unfold Sn.has at *
   simp only [hnil, List.not_mem_nil, decide_false, Bool.false_or, decide_eq_true_eq] at this ⊢
   rw [List.mem_append, ← this]
   simp
   omega
  ·show 0 ≤ n; omega
  ·right; simp
  ·show s.more.Pairwise _; rw [hnil]; exact List.Pairwise.nil
  ·intro m hmm
   have : m ∈ s.more := hmm
   rw [hnil] at this
   cases this
  ·intro _; left; show n ≠ 0; omega
 ·rename_i he
  refine ⟨?_, S.upto, ?_, ?_, ?_, ?_⟩
  ·intro k hk
   have := S.mem k hk
   unfold Sn.has at *
   simp only [Bool.or_eq_true, decide_eq_true_eq, List.mem_append, List.mem_singleton] at this ⊢
   rw [← this]
   constructor
   ·rintro ((h | h) | h)
    ·exact Or.inl (Or.inl h)
    ·exact Or.inr h
    ·exact Or.inl (Or.inr h)
   ·rintro ((h | h) | h)
    ·exact Or.inl (Or.inl h)
    ·exact Or.inr h
    ·exact Or.inl (Or.inr h)
  ·rcases S.uptoIn with h | h
   ·exact Or.inl h
   ·right; exact List.mem_append_left _ h
  ·exact z1k.2 ⟨S.rises, fun m hmm => hm m (S.more m hmm).2⟩
  ·intro m hmm
   rcases List.mem_append.1 hmm with h | h
   ·exact ⟨(S.more m h).1, List.mem_append_left _ (S.more m h).2⟩
   ·obtain rfl : m = n := by simpa using h
    exact ⟨by show s.upto + 2 ≤ m; omega, by simp⟩
  ·intro _; right; simp
theorem k1j (g : Int) (ns : List Int) (h1 : ∀ n ∈ ns, 1 ≤ n) (hr : ns.Pairwise (· < ·)) : y5n ns (x5b g ns) := by
 induction ns using y4u with
 | h0 => exact ⟨fun n hn => by
   show (decide (n ∈ ([] : List Int)) || decide (n ≤ 0)) = true ↔ n ∈ ([] : List Int)
   simp only [List.not_mem_nil, decide_false, Bool.false_or, decide_eq_true_eq, iff_false]
   omega, by simp [x5b], Or.inl rfl, List.Pairwise.nil, fun m hm => by simp [x5b] at hm, fun h => absurd rfl h⟩
 | h1 l x ih =>
  obtain ⟨hr1, hr2⟩ := z1k.1 hr
  have := (ih (fun n hn => h1 n (List.mem_append_left _ hn)) hr1).snoc (h1 x (by simp)) hr2
  rw [x5b, List.foldl_append]
  exact this
def okMore (least : Int) : List Int → Bool
 | [] => true
 | n :: r => decide (least ≤ n) && decide (n ≤ 1000) && okMore (n + 1) r
def x1s (s : Sn) : Bool := decide (s.upto ≠ 0 ∨ s.more ≠ []) && decide (0 ≤ s.upto ∧ s.upto ≤ 1000) && okMore (s.upto + 2) s.more
def okSeen (least : Int) : List Sn → Bool
 | [] => true
 | s :: r => decide (least ≤ s.gate ∧ s.gate ≤ 15) && x1s s && okSeen (s.gate + 1) r
def z8t (floor : Int) (l : List Sn) : Bool := decide (0 ≤ floor ∧ floor ≤ 65535) && okSeen 0 l
theorem y6t : ∀ {l : List Int} {least : Int}, l.Pairwise (· < ·) → (∀ n ∈ l, least ≤ n ∧ n ≤ 1000) → okMore least l = true
 | [], _, _, _ => rfl
 | n :: r, least, hp, hb => by
  obtain ⟨h1, h2⟩ := List.pairwise_cons.1 hp
  have := hb n (by simp)
  unfold okMore
  rw [y6t h2 (fun m hm => ⟨by have := h1 m hm; omega, (hb m (by simp [hm])).2⟩)]
  simp
  omega
theorem z9i : ∀ {l : List Int} {least : Int}, okMore least l = true → l.Pairwise (· < ·) ∧ ∀ n ∈ l, least ≤ n ∧ n ≤ 1000
 | [], _, _ => ⟨List.Pairwise.nil, fun n hn => by cases hn⟩
 | n :: r, least, h => by
  unfold okMore at h
  simp only [Bool.and_eq_true, decide_eq_true_eq] at h
  obtain ⟨⟨h1, h2⟩, h3⟩ := h
  obtain ⟨i1, i2⟩ := z9i h3
  refine ⟨List.pairwise_cons.2 ⟨fun m hm => by have := (i2 m hm).1; omega, i1⟩, fun m hm => ?_⟩
  rcases List.mem_cons.1 hm with rfl | hm
  ·exact ⟨h1, h2⟩
  ·have := i2 m hm
   exact ⟨by omega, this.2⟩
theorem y6u : ∀ {l : List Sn} {least : Int}, l.Pairwise (fun a b => a.gate < b.gate) → (∀ s ∈ l, least ≤ s.gate ∧ s.gate ≤ 15 ∧ x1s s = true) → okSeen least l = true
 | [], _, _, _ => rfl
 | n :: r, least, hp, hb => by
  obtain ⟨h1, h2⟩ := List.pairwise_cons.1 hp
  have := hb n (by simp)
  unfold okSeen
  rw [y6u h2 (fun m hm => ⟨by have := h1 m hm; omega, (hb m (by simp [hm])).2⟩), this.2.2]
  simp
  omega
theorem z9j : ∀ {l : List Sn} {least : Int}, okSeen least l = true → l.Pairwise (fun a b => a.gate < b.gate) ∧ ∀ s ∈ l, least ≤ s.gate ∧ s.gate ≤ 15 ∧ x1s s = true
 | [], _, _ => ⟨List.Pairwise.nil, fun n hn => by cases hn⟩
 | n :: r, least, h => by
  unfold okSeen at h
  simp only [Bool.and_eq_true, decide_eq_true_eq] at h
  obtain ⟨⟨h1, h2⟩, h3⟩ := h
  obtain ⟨i1, i2⟩ := z9j h3
  refine ⟨List.pairwise_cons.2 ⟨fun m hm => by have := (i2 m hm).1; omega, i1⟩, fun m hm => ?_⟩
  rcases List.mem_cons.1 hm with rfl | hm
  ·exact ⟨h1.1, h1.2, h2⟩
  ·have := i2 m hm
   exact ⟨by omega, this.2⟩
def has (l : List Sn) (k : Int × Int) : Bool :=
 match l.find? fun s => decide (s.gate = k.1) with
 | some s => s.has k.2
 | none => false
def x6t (l : List Sn) (k : Int × Int) : Bool := l.any fun s => decide (s.gate = k.1) && s.has k.2
theorem x6u : ∀ {l : List Sn} (k : Int × Int), l.Pairwise (fun a b => a.gate < b.gate) → has l k = x6t l k
 | [], _, _ => rfl
 | s :: r, k, h => by
  obtain ⟨h1, h2⟩ := List.pairwise_cons.1 h
  have ih := x6u k h2
  unfold has x6t at *
  by_cases e : s.gate = k.1
  ·have : r.any (fun s => decide (s.gate = k.1) && s.has k.2) = false := by
    rw [List.any_eq_false]
    intro x hx
    have := h1 x hx
    simp
    omega
   simp [e, List.any_cons, this]
  ·simp [e, List.any_cons]
   simpa using ih
theorem q7w {ks : List (Int × Int)} (hr : ks.Pairwise Lt2) (h0 : ∀ k ∈ ks, (0 ≤ k.1 ∧ k.1 ≤ 15) ∧ 1 ≤ k.2 ∧ k.2 ≤ 1000) : okSeen 0 (z5w ks) = true ∧ ∀ k : Int × Int, 1 ≤ k.2 → (has (z5w ks) k = true ↔ k ∈ ks) := by
 have hd := q7v hr fun k hk => (h0 k hk).1
 have hmem : ∀ g n, n ∈ z1n g ks ↔ (g, n) ∈ ks := by
  intro g n
  unfold z1n
  simp only [List.mem_map, List.mem_filter, decide_eq_true_eq]
  constructor
  ·rintro ⟨⟨a, b⟩, ⟨h1, h2⟩, h3⟩
   simp only at h2 h3
   subst h2; subst h3
   exact h1
  ·intro h
   exact ⟨(g, n), ⟨h, rfl⟩, rfl⟩
 have hpw : ∀ g, (z1n g ks).Pairwise (· < ·) := by
  intro g
  unfold z1n
  rw [List.pairwise_map]
  refine (hr.filter _).imp_of_mem ?_
  intro a b ha hb hab
  have h1 := (List.mem_filter.1 ha).2
  have h2 := (List.mem_filter.1 hb).2
  simp at h1 h2
  unfold Lt2 at hab
  omega
 have hS : ∀ g : Int, y5n (z1n g ks) (x5b g (z1n g ks)) := fun g => k1j g _ (fun n hn => (h0 _ ((hmem g n).1 hn)).2.1) (hpw g)
 have hall : ∀ s ∈ z5w ks, ∃ g : Nat, g < 16 ∧ z1n g ks ≠ [] ∧ s = x5b g (z1n g ks) := by
  intro s hs
  rw [hd] at hs
  obtain ⟨g, hg, e⟩ := List.mem_filterMap.1 hs
  unfold y2g at e
  split at e
  ·cases e
  ·rename_i hn
   exact ⟨g, by simpa using hg, hn, (Option.some.inj e).symm⟩
 have hpg : (z5w ks).Pairwise (fun a b => a.gate < b.gate) := by
  rw [hd, List.pairwise_filterMap]
  refine (List.pairwise_lt_range (n := 16)).imp ?_
  intro a b hab s hs t ht
  have hg : ∀ (m : Nat) s, y2g ks m = some s → s.gate = m := by
   intro m s hs
   unfold y2g at hs
   split at hs
   ·cases hs
   ·obtain rfl := Option.some.inj hs
    exact z2k _ _
  rw [hg a s hs, hg b t ht]
  omega
 refine ⟨y6u hpg fun s hs => ?_, fun k hk => ?_⟩
 ·obtain ⟨g, hg, hn, rfl⟩ := hall s hs
  have S := hS g
  have hgt : (x5b (g : Int) (z1n g ks)).gate = g := z2k _ _
  refine ⟨by rw [hgt]; omega, by rw [hgt]; omega, ?_⟩
  have hu : (x5b (g : Int) (z1n g ks)).upto ≤ 1000 := by
   rcases S.uptoIn with h | h
   ·omega
   ·exact (h0 _ ((hmem g _).1 h)).2.2
  unfold x1s
  rw [y6t S.rises fun m hm => ⟨(S.more m hm).1, (h0 _ ((hmem g m).1 (S.more m hm).2)).2.2⟩]
  have := S.some hn
  have := S.upto
  simp [*]
 ·rw [x6u k hpg]
  unfold x6t
  rw [List.any_eq_true]
  constructor
  ·rintro ⟨s, hs, h⟩
   obtain ⟨g, hg, hn, rfl⟩ := hall s hs
   simp only [Bool.and_eq_true, decide_eq_true_eq] at h
   obtain ⟨h1, h2⟩ := h
   have hgt : (x5b (g : Int) (z1n g ks)).gate = g := z2k _ _
   rw [hgt] at h1
   have := (hmem g k.2).1 (((hS g).mem k.2 hk).1 h2)
   rw [h1] at this
   exact this
  ·intro h
   have hb := h0 k h
   obtain ⟨g, hg⟩ : ∃ g : Nat, (g : Int) = k.1 := ⟨k.1.toNat, by omega⟩
   have hin : k.2 ∈ z1n g ks := (hmem g k.2).2 (by rw [hg]; exact h)
   refine ⟨x5b g (z1n g ks), ?_, ?_⟩
   ·rw [hd]
    refine List.mem_filterMap.2 ⟨g, by simp; omega, ?_⟩
    unfold y2g
    rw [if_neg (fun e => by rw [e] at hin; cases hin)]
   ·simp only [Bool.and_eq_true, decide_eq_true_eq]
    exact ⟨by rw [← hg]; exact z2k _ _, ((hS g).mem k.2 hk).2 hin⟩
end Bk
namespace Bk
def z7f (l : List It) (d : List Sn) (most : Nat) : List It := (l.filter fun x => !has d x.key).take most
theorem x4v {l : List It} {d : List Sn} {most i : Nat} (h : ((l.take i).filter fun x => !has d x.key).length = most) : z7f l d most = (l.take i).filter fun x => !has d x.key := by
 unfold z7f
 conv => lhs; rw [← List.take_append_drop i l]
 rw [List.filter_append, ← h, List.take_left']
 rfl
theorem x9s {l : List It} {d : List Sn} {most : Nat} (h : (l.filter fun x => !has d x.key).length ≤ most) : z7f l d most = l.filter fun x => !has d x.key := List.take_of_length_le h
def z8e (x : It) : Bool := decide (0 ≤ x.gate ∧ x.gate ≤ 15) && decide (1 ≤ x.adm ∧ x.adm ≤ 1000) && decide (0 ≤ x.epoch ∧ x.epoch ≤ 65535) && decide (0 ≤ x.serial ∧ x.serial ≤ 4294967295) && !(x.gone && decide (x.epoch ≠ 0 ∨ x.serial ≠ 0))
def z4l (l : List It) : Bool := l.all z8e && decide (l.Pairwise z1y)
def okLast (l : List It) (x : It) : Bool := match l.getLast? with
 | some p => decide (z1y p x)
 | none => true
theorem y2v (l : List It) (x : It) : z4l (l ++ [x]) = (z4l l && (z8e x && okLast l x)) := by
 unfold z4l
 rw [List.all_append]
 by_cases hp : l.Pairwise z1y
 ·have : decide ((l ++ [x]).Pairwise z1y) = okLast l x := by
   unfold okLast
   split
   ·rename_i p hl
    rw [decide_eq_decide, z1k]
    constructor
    ·exact fun h => h.2 p (List.mem_of_getLast? hl)
    ·intro h
     refine ⟨hp, fun a ha => ?_⟩
     obtain ⟨l', rfl⟩ : ∃ l', l = l' ++ [p] := List.getLast?_eq_some_iff.1 hl
     rcases List.mem_append.1 ha with ha | ha
     ·exact ((z1k.1 hp).2 a ha).trans h
     ·obtain rfl : a = p := by simpa using ha
      exact h
   ·rename_i hl
    rw [List.getLast?_eq_none_iff.1 hl]
    simp
  rw [this]
  simp only [List.all_cons, List.all_nil, Bool.and_true, hp, decide_true]
  cases l.all z8e <;> simp
 ·have : ¬ (l ++ [x]).Pairwise z1y := fun h => hp (z1k.1 h).1
  simp [hp, this]
theorem x7x {l m : List It} (h : z4l (l ++ m) = true) : z4l l = true := by
 unfold z4l at *
 simp only [Bool.and_eq_true, decide_eq_true_eq, List.all_append] at *
 exact ⟨h.1.1, (List.pairwise_append.1 h.2).1⟩
theorem z3a {α : Type} {l : List α} {i : Nat} {x : α} (h : l[i]? = some x) : l.take (i + 1) = l.take i ++ [x] := by
 rw [List.take_add_one, h]
 rfl
theorem x4j {l : List It} {i : Nat} {x : It} (h : l[i]? = some x) (hf : (z8e x && okLast (l.take i) x) = false) : z4l l = false := by
 cases ho : z4l l
 ·rfl
 ·have : z4l (l.take (i + 1)) = true := x7x (m := l.drop (i + 1)) (by rw [List.take_append_drop]; exact ho)
  rw [z3a h, y2v, hf] at this
  simp at this
theorem x7y {l : List It} {i : Nat} {p x : It} (h : l[i]? = some p) : okLast (l.take (i + 1)) x = decide (z1y p x) := by
 rw [z3a h]
 unfold okLast
 simp
def z3v (s : St) (x : It) : Bool := !(decide (x.gate = s.number) && decide (s.own < x.adm))
def z4p (s : St) (l : List It) : Bool := z4l l && l.all (z3v s)
def z1b (s : St) (x : It) : St := if x.key ∈ s.l.map It.key then s else { s with l := ins (z5e s.floor x) s.l }
section
variable (R : List UInt8 → List UInt8 → List UInt8 → Bool)
def z7d (s : St) (o : List UInt8) (l : List It) : Int × St :=
 if z4p s l = false then (4, s)
 else if o = [] then (0, l.foldl z1b s)
 else if (clo R s o).1 = 4 ∨ (clo R s o).1 = 5 then ((clo R s o).1, s)
 else (0, l.foldl z1b (clo R s o).2)
end
theorem x7w {x : It} (h : z8e x = true) : (0 ≤ x.gate ∧ x.gate ≤ 15) ∧ (1 ≤ x.adm ∧ x.adm ≤ 1000) ∧ (0 ≤ x.epoch ∧ x.epoch ≤ 65535) ∧ (0 ≤ x.serial ∧ x.serial ≤ 4294967295) ∧ (x.gone = true → x.epoch = 0 ∧ x.serial = 0) := by
 unfold z8e at h
 simp only [Bool.and_eq_true, decide_eq_true_eq, Bool.not_eq_true', Bool.and_eq_false_iff, decide_eq_false_iff_not] at h
 obtain ⟨⟨⟨⟨h1, h2⟩, h3⟩, h4⟩, h5⟩ := h
 refine ⟨h1, h2, h3, h4, fun hg => ?_⟩
 rcases h5 with h5 | h5
 ·rw [hg] at h5; cases h5
 ·omega
theorem x7q {s : St} {x : It} (h : z3v s x = true) : x.gate = s.number → x.adm ≤ s.own := by
 unfold z3v at h
 intro e
 simp only [Bool.not_eq_true', Bool.and_eq_false_iff, decide_eq_false_iff_not] at h
 rcases h with h | h
 ·exact absurd e h
 ·omega
theorem z7q (s : St) (x : It) : (z1b s x).number = s.number ∧ (z1b s x).floor = s.floor ∧ (z1b s x).own = s.own ∧ (z1b s x).key = s.key ∧ (z1b s x).order = s.order := by
 unfold z1b
 split <;> exact ⟨rfl, rfl, rfl, rfl, rfl⟩
theorem z4c (l : List It) (s : St) : (l.foldl z1b s).number = s.number ∧ (l.foldl z1b s).floor = s.floor ∧ (l.foldl z1b s).own = s.own ∧ (l.foldl z1b s).key = s.key ∧ (l.foldl z1b s).order = s.order := by
 induction l generalizing s with
 | nil => exact ⟨rfl, rfl, rfl, rfl, rfl⟩
 | cons x r ih =>
  have h1 := ih (z1b s x)
  have h2 := z7q s x
  exact ⟨h1.1.trans h2.1, h1.2.1.trans h2.2.1, h1.2.2.1.trans h2.2.2.1, h1.2.2.2.1.trans h2.2.2.2.1, h1.2.2.2.2.trans h2.2.2.2.2⟩
theorem Inv.take {s : St} (h : Inv s) {x : It} (hx : z8e x = true) (ho : x.gate = s.number → x.adm ≤ s.own) : Inv (z1b s x) := by
 unfold z1b
 split
 ·exact h
 ·rename_i hk
  obtain ⟨h1, h2, h3, h4, h5⟩ := x7w hx
  refine ⟨h.number, h.floor, h.own, y0x h.rises (fun y hy e => hk (List.mem_map.2 ⟨y, hy, e.trans (z3w _ _)⟩)), fun y hy => ?_⟩
  rcases z7o.1 hy with rfl | hy
  ·unfold z5e
   split
   ·exact ⟨h1, h2, by simp, by simp, fun _ => ⟨rfl, rfl⟩, fun e => by simp at e, ho⟩
   ·rename_i hc
    refine ⟨h1, h2, h3, h4, h5, fun e => ?_, ho⟩
    have : ¬ x.epoch < s.floor := fun hlt => hc ⟨e, hlt⟩
    show s.floor ≤ x.epoch
    omega
  ·have f := h.fair y hy
   exact ⟨f.gate, f.adm, f.epoch, f.serial, f.gone, f.floor, f.own⟩
theorem x7z {s : St} {l : List It} (h : z4p s l = true) : ∀ x ∈ l, z8e x = true ∧ (x.gate = s.number → x.adm ≤ s.own) := by
 unfold z4p z4l at h
 simp only [Bool.and_eq_true, List.all_eq_true] at h
 exact fun x hx => ⟨h.1.1 x hx, x7q (h.2 x hx)⟩
structure Tw where
 epoch : Int
 serial : Int
 gates : List Int
def Tw.pass (e : Tw) : Int × Int := (e.epoch, e.serial)
def q8k (l : List It) (p : Int × Int) : List Int := ((held l).filter fun x => decide (x.pass = p)).map It.gate
structure x5c (l : List It) (t : List Tw) : Prop where
 rises : t.Pairwise fun a b => Lt2 a.pass b.pass
 mem : ∀ e, e ∈ t ↔ e.gates = q8k l e.pass ∧ 2 ≤ e.gates.length
theorem x5c.eq {l : List It} {t u : List Tw} (h : x5c l t) (k : x5c l u) : t = u :=
 z6j (R := fun a b : Tw => Lt2 a.pass b.pass) (fun _ => Lt2.irrefl) (fun h k => h.trans k) h.rises k.rises fun x => (h.mem x).trans (k.mem x).symm
abbrev En := (Int × Int) × (Int × Int)
def LtE (a b : En) : Prop := Lt2 a.2 b.2 ∨ (a.2 = b.2 ∧ Lt2 a.1 b.1)
theorem LtE.trans {a b c : En} (h : LtE a b) (k : LtE b c) : LtE a c := by
 unfold LtE at *
 rcases h with h | ⟨h, h'⟩
 ·rcases k with k | ⟨k, k'⟩
  ·exact Or.inl (h.trans k)
  ·exact Or.inl (k ▸ h)
 ·rcases k with k | ⟨k, k'⟩
  ·exact Or.inl (h ▸ k)
  ·exact Or.inr ⟨h.trans k, h'.trans k'⟩
theorem LtE.irrefl {a : En} : ¬ LtE a a := by
 unfold LtE
 rintro (h | ⟨_, h⟩)
 ·exact Lt2.irrefl h
 ·exact Lt2.irrefl h
structure y0l (es : List En) (t : List Tw) : Prop where
 rises : t.Pairwise fun a b => Lt2 a.pass b.pass
 mem : ∀ e : Tw, e ∈ t ↔ e.gates = (es.filter fun x => decide (x.2 = e.pass)).map (fun x => x.1.1) ∧ 2 ≤ e.gates.length
theorem y0l.nil : y0l [] [] := ⟨List.Pairwise.nil, fun e => by
 simp only [List.not_mem_nil, List.filter_nil, List.map_nil, false_iff, not_and]
 intro h
 rw [h]
 simp⟩
theorem y8s {es : List En} {p : Int × Int} (h : ∀ x ∈ es, x.2 = p) : es.filter (fun x => decide (x.2 = p)) = es := List.filter_eq_self.2 fun x hx => by simp [h x hx]
theorem filter_none {es : List En} {p : Int × Int} (h : ∀ x ∈ es, x.2 ≠ p) : es.filter (fun x => decide (x.2 = p)) = [] := List.filter_eq_nil_iff.2 fun x hx => by simp [h x hx]
theorem y0l.run {done run : List En} {t : List Tw} (h : y0l done t) {p : Int × Int} (hr : ∀ x ∈ run, x.2 = p) (hd : ∀ x ∈ done, Lt2 x.2 p) :
  y0l (done ++ run) (if 1 < run.length then t ++ [⟨p.1, p.2, run.map fun x => x.1.1⟩] else t) := by
 have hp : ∀ e ∈ t, Lt2 e.pass p := by
  intro e he
  obtain ⟨h1, h2⟩ := (h.mem e).1 he
  cases hf : done.filter (fun x => decide (x.2 = e.pass)) with
  | nil => rw [hf] at h1; rw [h1] at h2; simp at h2
  | cons x r =>
   have hx : x ∈ done.filter (fun x => decide (x.2 = e.pass)) := by rw [hf]; simp
   have := (List.mem_filter.1 hx)
   have e2 : x.2 = e.pass := by simpa using this.2
   rw [← e2]
   exact hd x this.1
 have hother : ∀ q, q ≠ p → (done ++ run).filter (fun x => decide (x.2 = q)) = done.filter fun x => decide (x.2 = q) := by
  intro q hq
  rw [List.filter_append, filter_none (es := run) fun x hx => by rw [hr x hx]; exact Ne.symm hq, List.append_nil]
 have hthis : (done ++ run).filter (fun x => decide (x.2 = p)) = run := by
  rw [List.filter_append, y8s hr, filter_none (es := done) fun x hx e => Lt2.irrefl (e ▸ hd x hx), List.nil_append]
 have hnot : ∀ e ∈ t, e.pass ≠ p := fun e he e' => Lt2.irrefl (e' ▸ hp e he)
 have hdn : ∀ e : Tw, e.pass = p → ¬ (e.gates = (done.filter fun x => decide (x.2 = e.pass)).map (fun x => x.1.1) ∧ 2 ≤ e.gates.length) := by
  rintro e he ⟨h1, h2⟩
  exact hnot e ((h.mem e).2 ⟨h1, h2⟩) he
 split
 ·rename_i hl
  refine ⟨z1k.2 ⟨h.rises, fun e he => hp e he⟩, fun e => ?_⟩
  rw [List.mem_append, List.mem_singleton]
  by_cases he : e.pass = p
  ·rw [he, hthis]
   constructor
   ·rintro (h1 | rfl)
    ·exact absurd he (hnot e h1)
    ·exact ⟨rfl, by rw [List.length_map]; exact hl⟩
   ·rintro ⟨h1, _⟩
    right
    obtain ⟨a, b, c⟩ := e
    obtain rfl := he
    simp only at h1
    rw [h1]
    rfl
  ·rw [hother _ he, ← h.mem e]
   constructor
   ·rintro (h1 | rfl)
    ·exact h1
    ·exact absurd rfl he
   ·exact Or.inl
 ·rename_i hl
  refine ⟨h.rises, fun e => ?_⟩
  by_cases he : e.pass = p
  ·rw [he, hthis]
   constructor
   ·intro h1
    exact absurd he (hnot e h1)
   ·rintro ⟨h1, h2⟩
    rw [h1, List.length_map] at h2
    omega
  ·rw [hother _ he]
   exact h.mem e
theorem q2n {l : List It} (hl : y0k l) {es : List En} (hp : es.Perm ((held l).map pair)) (hs : es.Pairwise LtE) {t : List Tw} (h : y0l es t) : x5c l t := by
 refine ⟨h.rises, fun e => ?_⟩
 rw [h.mem e]
 have : es.filter (fun x => decide (x.2 = e.pass)) = ((held l).filter fun x => decide (x.pass = e.pass)).map pair := by
  refine z6j (R := fun a b : En => Lt2 a.1 b.1) (fun _ => Lt2.irrefl) (fun h k => h.trans k) ?_ ?_ fun x => ?_
  ·refine (hs.filter _).imp_of_mem ?_
   intro a b ha hb hab
   have h1 : a.2 = e.pass := by simpa using (List.mem_filter.1 ha).2
   have h2 : b.2 = e.pass := by simpa using (List.mem_filter.1 hb).2
   rcases hab with h | h
   ·rw [h1, h2] at h
    exact absurd h Lt2.irrefl
   ·exact h.2
  ·rw [List.pairwise_map]
   exact ((hl.filter _).filter _)
  ·rw [List.mem_filter, hp.mem_iff]
   simp only [List.mem_map, List.mem_filter, decide_eq_true_eq]
   constructor
   ·rintro ⟨⟨y, hy, rfl⟩, h2⟩
    exact ⟨y, ⟨hy, h2⟩, rfl⟩
   ·rintro ⟨y, ⟨hy, h2⟩, rfl⟩
    exact ⟨⟨y, hy, rfl⟩, h2⟩
 rw [this, List.map_map]
 rfl
end Bk
open Go Go.RowKit
namespace Gt
open Mp Bk Tk
def z9z (x y : Int) : Int := if x < y then -1 else if y < x then 1 else 0
theorem x6z (x : Int) (w : World) : Calls Tryz.prog 267 #[.int .i64 x] w fun e w' => e = .returned (.bool false) ∧ w' = w := by
 go_enter Tryz.func267, Tryz.ntmps267
 go_wp2_with fail
 exact bodyPost_ret (v := .bool false) (by simp [results, Tryz.results267, go_sem]) rfl ⟨rfl, rfl⟩
theorem z7w (x y : Int) (w : World) : Calls Tryz.prog 222 #[.int .i64 x, .int .i64 y] w fun e w' => e = .returned (.int .i64 (z9z x y)) ∧ w' = w := by
 have H : Hid _ := x6z
 go_enter Tryz.func222, Tryz.ntmps222
 go_wp2_with (go_at_call 267; refine (H.out _ _).mono ?_; rintro _ w1 ⟨rfl, rfl⟩)
 ·exact bodyPost_ret (v := .int .i64 (z9z x y)) (by simp [results, Tryz.results222, z9z]; omega) rfl ⟨rfl, rfl⟩
 ·exact bodyPost_ret (v := .int .i64 (z9z x y)) (by simp [results, Tryz.results222, z9z]; omega) rfl ⟨rfl, rfl⟩
 ·exact bodyPost_ret (v := .int .i64 (z9z x y)) (by simp [results, Tryz.results222, z9z]; omega) rfl ⟨rfl, rfl⟩
def orL (xs : List Int) : Int := (xs.find? fun x => decide (x ≠ 0)).getD 0
theorem k5v {xs : List Int} {k : Nat} {x : Int} (h0 : ∀ y ∈ xs.take k, y = 0) (h : xs[k]? = some x) (hx : x ≠ 0) : orL xs = x := by
 unfold orL
 have e : xs = xs.take k ++ x :: xs.drop (k + 1) := by
  obtain ⟨hk, rfl⟩ := List.getElem?_eq_some_iff.1 h
  conv => lhs; rw [← List.take_append_drop k xs, List.drop_eq_getElem_cons hk]
 rw [e, List.find?_append, List.find?_eq_none.2 fun y hy => by simp [h0 y hy]]
 simp [hx]
theorem q3g {xs : List Int} (h : ∀ y ∈ xs, y = 0) : orL xs = 0 := by
 unfold orL
 rw [List.find?_eq_none.2 fun y hy => by simp [h y hy]]
 rfl
def x1q (b n c k : Nat) (f : Nat → Value) : Act := { tmps := #[.slice (some ⟨b, 0, none⟩) n c, f 1, .int .i64 0, .int .i64 0, f 4, f 5, .slice (some ⟨b, 0, none⟩) n c, .int .i64 (n : Int), .int .i64 (k : Int), f 9, f 10, f 11, f 12, f 13, f 14, f 15, f 16, f 17], defers := [] }
theorem j0v (b c : Nat) (xs : List Int) (w : World) (hl : xs.length ≤ 1000) (hc : ∀ (k : Nat) (x : Int), xs[k]? = some x → w.cell? ⟨b, k, none⟩ = some (.int .i64 x)) : Calls Tryz.prog 221 #[.slice (some ⟨b, 0, none⟩) xs.length c] w fun e w' => e = .returned (.int .i64 (orL xs)) ∧ w' = w := by
 go_enter Tryz.func221, Tryz.ntmps221
 refine wp_seq ?_
 refine Ks.reg ?_
 refine Ks.v (.int .i64 0) ?_
 simp only [zD]
 refine Ks.done ?_
 refine wp_seq ?_
 refine Ks.reg ?_
 refine Ks.v (.int .i64 0) ?_
 simp only [zD]
 refine Ks.done ?_
 refine wp_seq ?_
 refine wp_seq ?_
 refine Ks.reg ?_
 refine Ks.v (.slice (some ⟨b, 0, none⟩) xs.length c) ?_
 simp only [zD]
 refine Ks.v (.int .i64 (xs.length : Int)) ?_
 simp only [zD]
 refine Ks.v (.int .i64 0) ?_
 simp only [zD]
 refine Ks.done ?_
 refine wp_block ?_
 refine Ks.loop (fun m a wr => wr = w ∧ ∃ (k : Nat) (f : Nat → Value), k ≤ xs.length ∧ m = xs.length - k ∧ (∀ y ∈ xs.take k, y = 0) ∧ a = x1q b xs.length c k f) xs.length ⟨rfl, 0, fun _ => undef, Nat.zero_le _, rfl, by simp, rfl⟩ ?_
 rintro m a wr ⟨rfl, k, f, hk, rfl, h0, rfl⟩
 have fin : ∀ (a' : Act) (k' : Nat), k < k' → k' ≤ xs.length → (∀ y ∈ xs.take k', y = 0) → a' = x1q b xs.length c k' (fun j => a'.tmps.getD j undef) → ∃ m, m < xs.length - k ∧ wr = wr ∧ ∃ (k : Nat) (f : Nat → Value), k ≤ xs.length ∧ m = xs.length - k ∧ (∀ y ∈ xs.take k, y = 0) ∧ a' = x1q b xs.length c k f := fun a' k' h1 h2 h3 h4 => ⟨xs.length - k', by omega, rfl, k', _, h2, rfl, h3, h4⟩
 unfold x1q
 refine wp_seq ?_
 refine Ks.reg ?_
 refine Ks.v (.bool (decide ((k : Int) < xs.length))) ?_
 simp only [zD]
 refine Ks.done ?_
 refine wp_seq ?_
 refine wp_cond_split rfl ?_ ?_
 ·intro hlt
  have hlt : k < xs.length := by have := of_decide_eq_true hlt; omega
  refine wp_skip ?_
  refine Ks.norm ?_
  refine wp_seq ?_
  refine wp_block ?_
  refine wp_seq ?_
  refine Ks.reg ?_
  refine Ks.idx (by kernel_rfl) _ _ _ rfl 3 1 Tryz.underlying25 (by kernel_rfl) (by kernel_rfl) b xs.length c k rfl rfl hlt ?_
  simp only [zD]
  refine Ks.cell rfl _ _ rfl Tryz.underlying3 rfl b (k * 1) (.int .i64 xs[k]) rfl (by rw [Nat.mul_one]; exact hc k _ (List.getElem?_eq_getElem hlt)) ?_
  simp only [zD]
  refine Ks.v (.int .i64 xs[k]) ?_
  simp only [zD]
  refine Ks.done ?_
  refine wp_seq ?_
  refine Ks.reg ?_
  refine Ks.v (.int .i64 xs[k]) ?_
  simp only [zD]
  refine Ks.v (.int .i64 0) ?_
  simp only [zD]
  refine Ks.v (.bool (!decide (xs[k] = 0))) ?_
  simp only [zD]
  refine Ks.done ?_
  refine wp_cond_split rfl ?_ ?_
  ·intro hne
   have hne : xs[k] ≠ 0 := by simpa using hne
   refine wp_seq ?_
   refine Ks.reg ?_
   refine Ks.v (.int .i64 xs[k]) ?_
   simp only [zD]
   refine Ks.v (.int .i64 xs[k]) ?_
   simp only [zD]
   refine Ks.done ?_
   rw [k5v h0 (List.getElem?_eq_getElem hlt) hne]
   refine wp_ret ?_
   repeat (refine Ks.ret ?_)
   refine Ks.y2y ?_
   repeat (refine Ks.ret ?_)
   refine Ks.y2y ?_
   repeat (refine Ks.ret ?_)
   refine bodyPost_ret (v := .int .i64 xs[k]) (by simp [results, Tryz.results221]) rfl ⟨rfl, rfl⟩
  ·intro hne
   have hne : xs[k] = 0 := by simpa using hne
   refine wp_skip ?_
   refine Ks.inb ?_
   refine Ks.reg ?_
   refine Ks.val rfl (.int .i64 ((k + 1 : Nat) : Int)) (by
    simp [execOp, go_sem]
    rw [IntWalk.i64_in _ ⟨by omega, by omega⟩]) ?_
   simp only [zD]
   refine Ks.v (.int .i64 ((k + 1 : Nat) : Int)) ?_
   simp only [zD]
   refine Ks.done ?_
   refine fin _ (k + 1) (by omega) hlt ?_ rfl
   intro y hy
   rw [List.take_succ_eq_append_getElem hlt] at hy
   rcases List.mem_append.1 hy with h | h
   ·exact h0 y h
   ·obtain rfl : y = xs[k] := by simpa using h
    exact hne
 ·intro hlt
  obtain rfl : k = xs.length := by have := of_decide_eq_false hlt; omega
  refine wp_exit ?_
  refine Ks.z3r ?_
  refine Ks.norm ?_
  rw [q3g (by rwa [List.take_of_length_le (Nat.le_refl _)] at h0)]
  refine wp_seq ?_
  refine Ks.reg ?_
  refine Ks.v (.int .i64 0) ?_
  simp only [zD]
  refine Ks.v (.int .i64 0) ?_
  simp only [zD]
  refine Ks.done ?_
  refine wp_ret ?_
  repeat (refine Ks.ret ?_)
  refine bodyPost_ret (v := .int .i64 0) (by simp [results, Tryz.results221]) rfl ?_
  exact ⟨rfl, rfl⟩
def y8j (x y : Int × Int) : Int := orL [z9z x.1 y.1, z9z x.2 y.2]
theorem x5q (x1 x2 y1 y2 : Int) (W : World) : Calls Tryz.prog 161 #[.agg #[.int .i64 x1, .int .i64 x2], .agg #[.int .i64 y1, .int .i64 y2]] W fun e w' => e = .returned (.int .i64 (y8j (x1, x2) (y1, y2))) ∧ Qd.GW W w' := by
 obtain ⟨c1, hc1⟩ : ∃ c, c = z9z x1 y1 := ⟨_, rfl⟩
 obtain ⟨c2, hc2⟩ : ∃ c, c = z9z x2 y2 := ⟨_, rfl⟩
 have H1 : Hid (∀ W, Calls Tryz.prog 222 #[.int .i64 x1, .int .i64 y1] W fun e w' => e = .returned (.int .i64 c1) ∧ Qd.GW W w') := fun W => by rw [hc1]; exact (z7w x1 y1 W).mono fun e w' h => ⟨h.1, by rw [h.2]; exact Qd.GW.refl _⟩
 have H2 : Hid (∀ W, Calls Tryz.prog 222 #[.int .i64 x2, .int .i64 y2] W fun e w' => e = .returned (.int .i64 c2) ∧ Qd.GW W w') := fun W => by rw [hc2]; exact (z7w x2 y2 W).mono fun e w' h => ⟨h.1, by rw [h.2]; exact Qd.GW.refl _⟩
 have HO : Hid (∀ (b : Nat) (W : World), W.cell? ⟨b, 0, none⟩ = some (.int .i64 c1) → W.cell? ⟨b, 1, none⟩ = some (.int .i64 c2) → Calls Tryz.prog 221 #[.slice (some ⟨b, 0, none⟩) 2 2] W fun e w' => e = .returned (.int .i64 (y8j (x1, x2) (y1, y2))) ∧ w' = W) := by
  intro b W h1 h2
  have := j0v b 2 [c1, c2] W (by simp) (fun k x hk => by
   match k, hk with
   | 0, hk => simp at hk; subst hk; exact h1
   | 1, hk => simp at hk; subst hk; exact h2)
  unfold y8j
  rw [← hc1, ← hc2]
  exact this
 clear hc1 hc2
 generalize y8j (x1, x2) (y1, y2) = r at *
 go_enter Tryz.func161, Tryz.ntmps161
 go_wp2_with fail
 obtain ⟨w2, hw2⟩ : ∃ w2, (W.alloc (.cells #[.int .i64 x1, .int .i64 x2] 154)).alloc (.cells #[.int .i64 y1, .int .i64 y2] 154) = w2 := ⟨_, rfl⟩
 have HG : Hid (Qd.GW W w2) := by rw [← hw2]; exact ((Qd.GW.refl W).alloc _).alloc _
 have HX : Hid (w2.heap[W.heap.size]? = some (.cells #[.int .i64 x1, .int .i64 x2] 154 (0, 0))) := by
  rw [← hw2]
  exact (Below.heap_alloc _ _ _ (by simp)).trans (heap_alloc_new _ _)
 have HY : Hid (w2.heap[W.heap.size + 1]? = some (.cells #[.int .i64 y1, .int .i64 y2] 154 (0, 0))) := by
  rw [← hw2]
  have := heap_alloc_new (W.alloc (.cells #[.int .i64 x1, .int .i64 x2] 154)) (.cells #[.int .i64 y1, .int .i64 y2] 154)
  rwa [World.size_alloc] at this
 rw [hw2]
 clear hw2
 have hx := (aL HX.out)
 have hy := (aL HY.out)
 generalize W.heap.size = g at *
 generalize g + 1 = g1 at *
 refine Qd.z0q 10 (by kernel_rfl) (by kernel_rfl) ?_
 simp only [List.take_succ_cons, List.take_zero, List.drop_succ_cons, List.drop_zero]
 refine Qd.val (by kernel_rfl) (.pointer (some ⟨g, 0, none⟩)) (fun _ _ => by kernel_rfl) ?_
 simp only [zD]
 refine Qd.cell (by kernel_rfl) _ _ rfl Tryz.underlying3 rfl g 0 (.int .i64 x1) rfl hx (z0c HX.out 0 rfl) ?_
 simp only [zD]
 refine Qd.val (by kernel_rfl) (.pointer (some ⟨g1, 0, none⟩)) (fun _ _ => by kernel_rfl) ?_
 simp only [zD]
 refine Qd.cell (by kernel_rfl) _ _ rfl Tryz.underlying3 rfl g1 0 (.int .i64 y1) rfl hy (z0c HY.out 0 rfl) ?_
 simp only [zD]
 refine Qd.call (by kernel_rfl) 222 #[.int .i64 x1, .int .i64 y1] (.int .i64 c1) (fun _ => by kernel_rfl) (fun w' _ => H1.out w') ?_
 simp only [zD]
 refine Qd.val (by kernel_rfl) (.pointer (some ⟨g, 1, none⟩)) (fun _ _ => by kernel_rfl) ?_
 simp only [zD]
 refine Qd.cell (by kernel_rfl) _ _ rfl Tryz.underlying3 rfl g 1 (.int .i64 x2) rfl hx (z0c HX.out 1 rfl) ?_
 simp only [zD]
 refine Qd.val (by kernel_rfl) (.pointer (some ⟨g1, 1, none⟩)) (fun _ _ => by kernel_rfl) ?_
 simp only [zD]
 refine Qd.cell (by kernel_rfl) _ _ rfl Tryz.underlying3 rfl g1 1 (.int .i64 y2) rfl hy (z0c HY.out 1 rfl) ?_
 simp only [zD]
 refine Qd.call (by kernel_rfl) 222 #[.int .i64 x2, .int .i64 y2] (.int .i64 c2) (fun _ => by kernel_rfl) (fun w' _ => H2.out w') ?_
 simp only [zD]
 refine wpQuiet_nil ?_
 intro w3 hg3
 have HG3 : Hid (Qd.GW W w3) := HG.out.trans hg3
 clear hg3 HG HX HY
 go_wp2_with (go_at_call 221; refine (HO.out _ _ (z0c (heap_alloc_new _ _) 0 rfl) (z0c (heap_alloc_new _ _) 1 rfl)).mono ?_; rintro _ w4 ⟨rfl, rfl⟩)
 exact bodyPost_ret (v := .int .i64 r) (by simp [results, Tryz.results161]) rfl ⟨rfl, HG3.out.alloc _⟩
def eC (e : En) : List Value := [.int .i64 e.1.1, .int .i64 e.1.2, .int .i64 e.2.1, .int .i64 e.2.2]
def q0f (x y : En) : Int := orL [z9z x.2.1 y.2.1, z9z x.2.2 y.2.2, y8j x.1 y.1]
theorem q1a (x1 x2 x3 x4 y1 y2 y3 y4 : Int) (W : World) : Calls Tryz.prog 153 #[.agg #[.int .i64 x1, .int .i64 x2, .int .i64 x3, .int .i64 x4], .agg #[.int .i64 y1, .int .i64 y2, .int .i64 y3, .int .i64 y4]] W fun e w' => e = .returned (.int .i64 (q0f ((x1, x2), (x3, x4)) ((y1, y2), (y3, y4)))) ∧ Qd.GW W w' := by
 obtain ⟨c1, hc1⟩ : ∃ c, c = z9z x3 y3 := ⟨_, rfl⟩
 obtain ⟨c2, hc2⟩ : ∃ c, c = z9z x4 y4 := ⟨_, rfl⟩
 obtain ⟨c3, hc3⟩ : ∃ c, c = y8j (x1, x2) (y1, y2) := ⟨_, rfl⟩
 have H1 : Hid (∀ W, Calls Tryz.prog 222 #[.int .i64 x3, .int .i64 y3] W fun e w' => e = .returned (.int .i64 c1) ∧ Qd.GW W w') := fun W => by rw [hc1]; exact (z7w x3 y3 W).mono fun e w' h => ⟨h.1, by rw [h.2]; exact Qd.GW.refl _⟩
 have H2 : Hid (∀ W, Calls Tryz.prog 222 #[.int .i64 x4, .int .i64 y4] W fun e w' => e = .returned (.int .i64 c2) ∧ Qd.GW W w') := fun W => by rw [hc2]; exact (z7w x4 y4 W).mono fun e w' h => ⟨h.1, by rw [h.2]; exact Qd.GW.refl _⟩
 have H3 : Hid (∀ W, Calls Tryz.prog 161 #[.agg #[.int .i64 x1, .int .i64 x2], .agg #[.int .i64 y1, .int .i64 y2]] W fun e w' => e = .returned (.int .i64 c3) ∧ Qd.GW W w') := fun W => by rw [hc3]; exact x5q x1 x2 y1 y2 W
 have HO : Hid (∀ (b : Nat) (W : World), W.cell? ⟨b, 0, none⟩ = some (.int .i64 c1) → W.cell? ⟨b, 1, none⟩ = some (.int .i64 c2) → W.cell? ⟨b, 2, none⟩ = some (.int .i64 c3) → Calls Tryz.prog 221 #[.slice (some ⟨b, 0, none⟩) 3 3] W fun e w' => e = .returned (.int .i64 (q0f ((x1, x2), (x3, x4)) ((y1, y2), (y3, y4)))) ∧ w' = W) := by
  intro b W h1 h2 h3
  have := j0v b 3 [c1, c2, c3] W (by simp) (fun k x hk => by
   match k, hk with
   | 0, hk => simp at hk; subst hk; exact h1
   | 1, hk => simp at hk; subst hk; exact h2
   | 2, hk => simp at hk; subst hk; exact h3)
  unfold q0f
  rw [← hc1, ← hc2, ← hc3]
  exact this
 clear hc1 hc2 hc3
 generalize q0f ((x1, x2), (x3, x4)) ((y1, y2), (y3, y4)) = r at *
 go_enter Tryz.func153, Tryz.ntmps153
 go_wp2_with fail
 obtain ⟨w2, hw2⟩ : ∃ w2, (W.alloc (.cells #[.int .i64 x1, .int .i64 x2, .int .i64 x3, .int .i64 x4] 245)).alloc (.cells #[.int .i64 y1, .int .i64 y2, .int .i64 y3, .int .i64 y4] 245) = w2 := ⟨_, rfl⟩
 have HG : Hid (Qd.GW W w2) := by rw [← hw2]; exact ((Qd.GW.refl W).alloc _).alloc _
 have HX : Hid (w2.heap[W.heap.size]? = some (.cells #[.int .i64 x1, .int .i64 x2, .int .i64 x3, .int .i64 x4] 245 (0, 0))) := by
  rw [← hw2]
  exact (Below.heap_alloc _ _ _ (by simp)).trans (heap_alloc_new _ _)
 have HY : Hid (w2.heap[W.heap.size + 1]? = some (.cells #[.int .i64 y1, .int .i64 y2, .int .i64 y3, .int .i64 y4] 245 (0, 0))) := by
  rw [← hw2]
  have := heap_alloc_new (W.alloc (.cells #[.int .i64 x1, .int .i64 x2, .int .i64 x3, .int .i64 x4] 245)) (.cells #[.int .i64 y1, .int .i64 y2, .int .i64 y3, .int .i64 y4] 245)
  rwa [World.size_alloc] at this
 rw [hw2]
 clear hw2
 have hx := (aL HX.out)
 have hy := (aL HY.out)
 generalize W.heap.size = g at *
 generalize g + 1 = g1 at *
 have rX : w2.rangeAt g 0 [.int .i64 x1, .int .i64 x2] := fun j v hv => by
  match j, hv with
  | 0, hv => simp at hv; subst hv; exact z0c HX.out 0 rfl
  | 1, hv => simp at hv; subst hv; exact z0c HX.out 1 rfl
 have rY : w2.rangeAt g1 0 [.int .i64 y1, .int .i64 y2] := fun j v hv => by
  match j, hv with
  | 0, hv => simp at hv; subst hv; exact z0c HY.out 0 rfl
  | 1, hv => simp at hv; subst hv; exact z0c HY.out 1 rfl
 refine Qd.z0q 19 (by kernel_rfl) (by kernel_rfl) ?_
 simp only [List.take_succ_cons, List.take_zero, List.drop_succ_cons, List.drop_zero]
 refine Qd.val (by kernel_rfl) (.pointer (some ⟨g, 2, none⟩)) (fun _ _ => by kernel_rfl) ?_
 simp only [zD]
 refine Qd.val (by kernel_rfl) (.pointer (some ⟨g, 2, none⟩)) (fun _ _ => by kernel_rfl) ?_
 simp only [zD]
 refine Qd.cell (by kernel_rfl) _ _ rfl Tryz.underlying3 rfl g 2 (.int .i64 x3) rfl hx (z0c HX.out 2 rfl) ?_
 simp only [zD]
 refine Qd.val (by kernel_rfl) (.pointer (some ⟨g1, 2, none⟩)) (fun _ _ => by kernel_rfl) ?_
 simp only [zD]
 refine Qd.val (by kernel_rfl) (.pointer (some ⟨g1, 2, none⟩)) (fun _ _ => by kernel_rfl) ?_
 simp only [zD]
 refine Qd.cell (by kernel_rfl) _ _ rfl Tryz.underlying3 rfl g1 2 (.int .i64 y3) rfl hy (z0c HY.out 2 rfl) ?_
 simp only [zD]
 refine Qd.call (by kernel_rfl) 222 #[.int .i64 x3, .int .i64 y3] (.int .i64 c1) (fun _ => by kernel_rfl) (fun w' _ => H1.out w') ?_
 simp only [zD]
 refine Qd.val (by kernel_rfl) (.pointer (some ⟨g, 2, none⟩)) (fun _ _ => by kernel_rfl) ?_
 simp only [zD]
 refine Qd.val (by kernel_rfl) (.pointer (some ⟨g, 3, none⟩)) (fun _ _ => by kernel_rfl) ?_
 simp only [zD]
 refine Qd.cell (by kernel_rfl) _ _ rfl Tryz.underlying3 rfl g 3 (.int .i64 x4) rfl hx (z0c HX.out 3 rfl) ?_
 simp only [zD]
 refine Qd.val (by kernel_rfl) (.pointer (some ⟨g1, 2, none⟩)) (fun _ _ => by kernel_rfl) ?_
 simp only [zD]
 refine Qd.val (by kernel_rfl) (.pointer (some ⟨g1, 3, none⟩)) (fun _ _ => by kernel_rfl) ?_
 simp only [zD]
 refine Qd.cell (by kernel_rfl) _ _ rfl Tryz.underlying3 rfl g1 3 (.int .i64 y4) rfl hy (z0c HY.out 3 rfl) ?_
 simp only [zD]
 refine Qd.call (by kernel_rfl) 222 #[.int .i64 x4, .int .i64 y4] (.int .i64 c2) (fun _ => by kernel_rfl) (fun w' _ => H2.out w') ?_
 simp only [zD]
 refine Qd.val (by kernel_rfl) (.pointer (some ⟨g, 0, none⟩)) (fun _ _ => by kernel_rfl) ?_
 simp only [zD]
 refine Qd.mid (by kernel_rfl) _ _ rfl g 0 rfl [.int .i64 x1, .int .i64 x2] hx rX Tryz.underlying154 rfl (by kernel_rfl) ?_
 simp only [zD]
 refine Qd.val (by kernel_rfl) (.pointer (some ⟨g1, 0, none⟩)) (fun _ _ => by kernel_rfl) ?_
 simp only [zD]
 refine Qd.mid (by kernel_rfl) _ _ rfl g1 0 rfl [.int .i64 y1, .int .i64 y2] hy rY Tryz.underlying154 rfl (by kernel_rfl) ?_
 simp only [zD]
 refine Qd.call (by kernel_rfl) 161 #[.agg #[.int .i64 x1, .int .i64 x2], .agg #[.int .i64 y1, .int .i64 y2]] (.int .i64 c3) (fun _ => by kernel_rfl) (fun w' _ => H3.out w') ?_
 simp only [zD]
 refine wpQuiet_nil ?_
 intro w3 hg3
 have HG3 : Hid (Qd.GW W w3) := HG.out.trans hg3
 clear hg3 HG HX HY rX rY
 go_wp2_with (go_at_call 221; refine (HO.out _ _ (z0c (heap_alloc_new _ _) 0 rfl) (z0c (heap_alloc_new _ _) 1 rfl) (z0c (heap_alloc_new _ _) 2 rfl)).mono ?_; rintro _ w4 ⟨rfl, rfl⟩)
 exact bodyPost_ret (v := .int .i64 r) (by simp [results, Tryz.results153]) rfl ⟨rfl, HG3.out.alloc _⟩
end Gt
end Go.Proofs.YtbojijefenfbgaaGreatDoor

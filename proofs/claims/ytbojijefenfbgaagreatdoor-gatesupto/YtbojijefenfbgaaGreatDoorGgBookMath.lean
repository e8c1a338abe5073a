/- What a gate knows, as a rising list of items; what the program's three maps have of it. A gate by what it knows: how it admits, closes and looks; what stays true of it. A gate in memory: the program's, the document's, and what was asked of signatures. One operation, one law: slices. The keys of the book's maps. -/
import Derived.Test.YtbojijefenfbgaaGreatDoorGgMapRaw
import Derived.Test.YtbojijefenfbgaaGreatDoorGgFrames
import Derived.Test.YtbojijefenfbgaaGreatDoorGgQFloat
import Derived.Test.YtbojijefenfbgaaGreatDoorGgQRel
import Derived.Test.YtbojijefenfbgaaGreatDoorProg
import Derived.Test.YtbojijefenfbgaaGreatDoorGgOwn
import Derived.Laws.StructEq
import Derived.WalkKit
import Derived.KernelRfl
namespace Go.Proofs.YtbojijefenfbgaaGreatDoor
namespace Bk
open Mp
structure It where
 gate : Int
 adm : Int
 epoch : Int
 serial : Int
 gone : Bool
deriving DecidableEq
def It.key (x : It) : Int × Int := (x.gate, x.adm)
def It.pass (x : It) : Int × Int := (x.epoch, x.serial)
def Ahead (a b : It) : Prop := a.gate < b.gate ∨ (a.gate = b.gate ∧ a.adm < b.adm)
instance (a b : It) : Decidable (Ahead a b) := by unfold Ahead; infer_instance
theorem Ahead.trans {a b c : It} (h : Ahead a b) (k : Ahead b c) : Ahead a c := by unfold Ahead at *; omega
theorem Ahead.ne {a b : It} (h : Ahead a b) : a.key ≠ b.key := by
 unfold Ahead at h
 unfold It.key
 intro e
 injection e with e1 e2
 omega
theorem ahead_other {a b : It} (h : a.key ≠ b.key) (k : ¬ Ahead a b) : Ahead b a := by
 unfold Ahead at *
 unfold It.key at h
 by_cases e1 : a.gate = b.gate
 ·by_cases e2 : a.adm = b.adm
  ·exact absurd (Prod.ext e1 e2) h
  ·omega
 ·omega
def ins (x : It) : List It → List It
 | [] => [x]
 | y :: r => if Ahead x y then x :: y :: r else y :: ins x r
theorem ins_perm (x : It) : ∀ l, (ins x l).Perm (x :: l)
 | [] => List.Perm.refl _
 | y :: r => by
  unfold ins
  split
  ·exact List.Perm.refl _
  ·exact ((ins_perm x r).cons y).trans (List.Perm.swap x y r)
theorem mem_ins {x y : It} {l : List It} : y ∈ ins x l ↔ y = x ∨ y ∈ l := by rw [(ins_perm x l).mem_iff]; simp
theorem ins_length (x : It) (l : List It) : (ins x l).length = l.length + 1 := by rw [(ins_perm x l).length_eq]; rfl
def Rises (l : List It) : Prop := l.Pairwise Ahead
theorem ins_rises {x : It} : ∀ {l : List It}, Rises l → (∀ y ∈ l, y.key ≠ x.key) → Rises (ins x l)
 | [], _, _ => by simp [ins, Rises]
 | y :: r, h, hk => by
  obtain ⟨h1, h2⟩ := List.pairwise_cons.1 h
  unfold ins
  split
  ·rename_i ha
   refine List.pairwise_cons.2 ⟨fun z hz => ?_, h⟩
   rcases List.mem_cons.1 hz with rfl | hz
   ·exact ha
   ·exact ha.trans (h1 z hz)
  ·rename_i ha
   refine List.pairwise_cons.2 ⟨fun z hz => ?_, ins_rises h2 fun z hz => hk z (by simp [hz])⟩
   rcases mem_ins.1 hz with rfl | hz
   ·exact ahead_other (fun e => hk y (by simp) e.symm) ha
   ·exact h1 z hz
theorem Rises.keys {l : List It} (h : Rises l) : (l.map It.key).Nodup := List.pairwise_map.2 (h.imp fun h => h.ne)
def fade (floor : Int) (x : It) : It := if x.gone = false ∧ x.epoch < floor then ⟨x.gate, x.adm, 0, 0, true⟩ else x
theorem fade_key (floor : Int) (x : It) : (fade floor x).key = x.key := by
 unfold fade
 split <;> rfl
theorem fade_ahead (floor : Int) {x y : It} (h : Ahead x y) : Ahead (fade floor x) (fade floor y) := by
 have e1 := fade_key floor x
 have e2 := fade_key floor y
 unfold It.key at e1 e2
 injection e1 with e1 e3
 injection e2 with e2 e4
 unfold Ahead at *
 rw [e1, e2, e3, e4]
 exact h
theorem fade_rises (floor : Int) {l : List It} (h : Rises l) : Rises (l.map (fade floor)) := List.pairwise_map.2 (h.imp fun h => fade_ahead floor h)
theorem fade_keys (floor : Int) (l : List It) : (l.map (fade floor)).map It.key = l.map It.key := by
 rw [List.map_map]
 exact List.map_congr_left fun x _ => fade_key floor x
theorem fade_gone {floor : Int} {x : It} : (fade floor x).gone = (x.gone || decide (x.epoch < floor)) := by
 unfold fade
 split
 ·rename_i h
  simp [h.2]
 ·rename_i h
  by_cases hg : x.gone
  ·simp [hg]
  ·simp only [Bool.not_eq_true] at hg
   simp [hg] at h ⊢
   exact h
theorem fade_id {floor : Int} {x : It} (h : (fade floor x).gone = false) : fade floor x = x := by
 unfold fade at *
 split
 ·rename_i h1
  rw [if_pos h1] at h
  simp at h
 ·rfl
def held (l : List It) : List It := l.filter fun x => !x.gone
def pair (x : It) : (Int × Int) × (Int × Int) := (x.key, x.pass)
theorem held_fade (floor : Int) (l : List It) : held (l.map (fade floor)) = (held l).filter fun x => decide (¬ x.epoch < floor) := by
 unfold held
 induction l with
 | nil => rfl
 | cons x r ih =>
  simp only [List.map_cons, List.filter_cons, fade_gone]
  cases hg : x.gone
  ·by_cases he : x.epoch < floor
   ·simp [he]
    simpa using ih
   ·have : fade floor x = x := fade_id (by rw [fade_gone, hg]; simp [he])
    rw [this]
    simp only [he, Bool.not_false, if_true, List.filter_cons, not_false_eq_true, decide_true, Bool.or_self, decide_false]
    rw [ih]
  ·simp
   simpa using ih
structure Has (l : List It) (lh : List ((Int × Int) × Unit)) (ld : List ((Int × Int) × (Int × Int))) (lu : List ((Int × Int) × Unit)) : Prop where
 heard : (lh.map Prod.fst).Perm (l.map It.key)
 held : ld.Perm ((Bk.held l).map pair)
 used : ∀ p, p ∈ lu.map Prod.fst ↔ ∃ x ∈ Bk.held l, x.pass = p
theorem Has.nil : Has [] [] [] [] := ⟨by simp, by simp [Bk.held], by simp [Bk.held]⟩
theorem at_unit {c : Int × Int} {lh : List ((Int × Int) × Unit)} : (at? c lh).isSome = decide (c ∈ lh.map Prod.fst) := by
 cases h : at? c lh with
 | none =>
  have := at?_none.1 h
  symm
  simp only [Option.isSome_none, decide_eq_false_iff_not, List.mem_map, not_exists, not_and]
  exact fun p hp => this p hp
 | some u =>
  have := at?_mem h
  symm
  simp only [Option.isSome_some, decide_eq_true_eq, List.mem_map]
  exact ⟨_, this, rfl⟩
theorem Has.has {l lh ld lu} (H : Has l lh ld lu) (c : Int × Int) : (at? c lh).isSome = decide (c ∈ l.map It.key) := by
 rw [at_unit]
 congr 1
 exact propext H.heard.mem_iff
theorem Has.uses {l lh ld lu} (H : Has l lh ld lu) (p : Int × Int) : (at? p lu).isSome = decide (∃ x ∈ Bk.held l, x.pass = p) := by
 rw [at_unit]
 congr 1
 exact propext (H.used p)
theorem Has.len {l lh ld lu} (H : Has l lh ld lu) : lh.length = l.length := by simpa using H.heard.length_eq
theorem Has.lend {l lh ld lu} (H : Has l lh ld lu) : ld.length = (Bk.held l).length := by simpa using H.held.length_eq
theorem held_ins {x : It} (hg : x.gone = false) (l : List It) : (held (ins x l)).Perm (x :: held l) := by
 unfold held
 refine ((ins_perm x l).filter _).trans ?_
 rw [List.filter_cons]
 simp [hg]
theorem fresh_heard {l lh ld lu} (H : Has l lh ld lu) {c : Int × Int} (hc : c ∉ l.map It.key) : ∀ p ∈ lh, p.1 ≠ c := fun p hp e => hc (H.heard.mem_iff.1 (List.mem_map.2 ⟨p, hp, e⟩))
theorem fresh_held {l lh ld lu} (H : Has l lh ld lu) {c : Int × Int} (hc : c ∉ l.map It.key) : ∀ p ∈ ld, p.1 ≠ c := fun p hp e => by
 obtain ⟨x, hx, rfl⟩ := List.mem_map.1 (H.held.mem_iff.1 hp)
 exact hc (List.mem_map.2 ⟨x, (List.mem_filter.1 hx).1, e⟩)
theorem Has.add {l lh ld lu} (H : Has l lh ld lu) (hn : (lu.map Prod.fst).Nodup) {x : It} (hg : x.gone = false) (hx : x.key ∉ l.map It.key) : Has (ins x l) (put x.key () lh) (put x.key x.pass ld) (put x.pass () lu) := by
 refine ⟨?_, ?_, ?_⟩
 ·rw [put_new (fresh_heard H hx), List.map_append]
  refine List.Perm.trans ?_ ((ins_perm x l).map It.key).symm
  exact (List.perm_append_comm).trans (H.heard.cons x.key)
 ·rw [put_new (fresh_held H hx)]
  refine List.Perm.trans ?_ ((held_ins hg l).map pair).symm
  exact (List.perm_append_comm).trans (H.held.cons (pair x))
 ·intro p
  have h1 : p ∈ (put x.pass () lu).map Prod.fst ↔ p = x.pass ∨ p ∈ lu.map Prod.fst := by
   simp only [List.mem_map]
   constructor
   ·rintro ⟨q, hq, rfl⟩
    rcases (mem_put hn q).1 hq with rfl | ⟨h1, _⟩
    ·exact Or.inl rfl
    ·exact Or.inr ⟨q, h1, rfl⟩
   ·rintro (rfl | ⟨q, hq, rfl⟩)
    ·exact ⟨_, (mem_put hn _).2 (Or.inl rfl), rfl⟩
    ·by_cases e : q.1 = x.pass
     ·exact ⟨(x.pass, ()), (mem_put hn _).2 (Or.inl rfl), e.symm⟩
     ·exact ⟨q, (mem_put hn _).2 (Or.inr ⟨hq, e⟩), rfl⟩
  rw [h1, H.used p]
  constructor
  ·rintro (rfl | ⟨y, hy, e⟩)
   ·exact ⟨x, (held_ins hg l).mem_iff.2 (by simp), rfl⟩
   ·exact ⟨y, (held_ins hg l).mem_iff.2 (by simp [hy]), e⟩
  ·rintro ⟨y, hy, e⟩
   rcases List.mem_cons.1 ((held_ins hg l).mem_iff.1 hy) with rfl | hy
   ·exact Or.inl e.symm
   ·exact Or.inr ⟨y, hy, e⟩
structure Sweeps (floor : Int) (ld0 ld : List ((Int × Int) × (Int × Int))) (lu0 lu : List ((Int × Int) × Unit)) (left : Int × Int → Bool) : Prop where
 held : ld = ld0.filter fun p => left p.1 || decide (¬ p.2.1 < floor)
 used : ∀ p, p ∈ lu.map Prod.fst ↔ p ∈ lu0.map Prod.fst ∧ ¬ ∃ q ∈ ld0, q.2 = p ∧ left q.1 = false ∧ p.1 < floor
theorem Sweeps.start (floor : Int) (ld0 : List ((Int × Int) × (Int × Int))) (lu0 : List ((Int × Int) × Unit)) : Sweeps floor ld0 ld0 lu0 lu0 (fun _ => true) :=
 ⟨by simp only [Bool.true_or]; exact (List.filter_eq_self.2 fun _ _ => rfl).symm, fun p => by simp⟩
theorem Sweeps.stay {floor : Int} {ld0 ld : List ((Int × Int) × (Int × Int))} {lu0 lu : List ((Int × Int) × Unit)} {left : Int × Int → Bool} (S : Sweeps floor ld0 ld lu0 lu left) (hn : (ld0.map Prod.fst).Nodup) {a v : Int × Int} (hm : (a, v) ∈ ld) (hv : ¬ v.1 < floor) :
  Sweeps floor ld0 ld lu0 lu (fun x => left x && decide (x ≠ a)) := by
 have hm0 : (a, v) ∈ ld0 := by rw [S.held] at hm; exact (List.mem_filter.1 hm).1
 have huniq : ∀ q ∈ ld0, q.1 = a → q = (a, v) := fun q hq e => by
  obtain ⟨i, hi⟩ := List.mem_iff_getElem?.1 hq
  obtain ⟨j, hj⟩ := List.mem_iff_getElem?.1 hm0
  obtain rfl := nodup_at hn hi hj e
  rw [hi] at hj
  injection hj
 refine ⟨?_, ?_⟩
 ·rw [S.held]
  refine List.filter_congr fun q hq => ?_
  by_cases e : q.1 = a
  ·rw [huniq q hq e]
   simp [hv]
  ·simp [e]
 ·intro p
  rw [S.used p]
  refine and_congr_right fun _ => not_congr ⟨?_, ?_⟩
  ·rintro ⟨q, hq, rfl, hl, hf⟩
   exact ⟨q, hq, rfl, by simp [hl], hf⟩
  ·rintro ⟨q, hq, rfl, hl, hf⟩
   refine ⟨q, hq, rfl, ?_, hf⟩
   by_cases e : q.1 = a
   ·rw [huniq q hq e] at hf
    exact absurd hf hv
   ·simpa [e] using hl
theorem Sweeps.strike {floor : Int} {ld0 ld : List ((Int × Int) × (Int × Int))} {lu0 lu : List ((Int × Int) × Unit)} {left : Int × Int → Bool} (S : Sweeps floor ld0 ld lu0 lu left) (hn : (ld0.map Prod.fst).Nodup) {a v : Int × Int} (hm : (a, v) ∈ ld) (hv : v.1 < floor) :
  Sweeps floor ld0 (del a ld) lu0 (del v lu) (fun x => left x && decide (x ≠ a)) := by
 have hm0 : (a, v) ∈ ld0 := by rw [S.held] at hm; exact (List.mem_filter.1 hm).1
 have huniq : ∀ q ∈ ld0, q.1 = a → q = (a, v) := fun q hq e => by
  obtain ⟨i, hi⟩ := List.mem_iff_getElem?.1 hq
  obtain ⟨j, hj⟩ := List.mem_iff_getElem?.1 hm0
  obtain rfl := nodup_at hn hi hj e
  rw [hi] at hj
  injection hj
 refine ⟨?_, ?_⟩
 ·rw [S.held, del, List.filter_filter]
  refine List.filter_congr fun q hq => ?_
  by_cases e : q.1 = a
  ·rw [huniq q hq e]
   simp [hv]
  ·simp [e]
 ·intro p
  have h1 : p ∈ (del v lu).map Prod.fst ↔ p ∈ lu.map Prod.fst ∧ p ≠ v := by
   simp only [List.mem_map, mem_del]
   constructor
   ·rintro ⟨q, ⟨hq, hne⟩, rfl⟩
    exact ⟨⟨q, hq, rfl⟩, hne⟩
   ·rintro ⟨⟨q, hq, rfl⟩, hne⟩
    exact ⟨q, ⟨hq, hne⟩, rfl⟩
  rw [h1, S.used p, and_assoc]
  refine and_congr_right fun _ => ⟨?_, ?_⟩
  ·rintro ⟨h2, h3⟩ ⟨q, hq, rfl, hl, hf⟩
   by_cases e : q.1 = a
   ·exact h3 (by rw [huniq q hq e])
   ·exact h2 ⟨q, hq, rfl, by simpa [e] using hl, hf⟩
  ·intro h2
   refine ⟨?_, ?_⟩
   ·rintro ⟨q, hq, rfl, hl, hf⟩
    exact h2 ⟨q, hq, rfl, by simp [hl], hf⟩
   ·rintro rfl
    exact h2 ⟨(a, p), hm0, rfl, by simp, hv⟩
theorem Has.raise {l lh ld0 lu0} (H : Has l lh ld0 lu0) {floor : Int} {ld : List ((Int × Int) × (Int × Int))} {lu : List ((Int × Int) × Unit)} {left : Int × Int → Bool} (S : Sweeps floor ld0 ld lu0 lu left) (hl : ∀ p ∈ ld, left p.1 = false) : Has (l.map (fade floor)) lh ld lu := by
 have hl0 : ∀ p ∈ ld0, left p.1 = false := fun p hp => by
  cases hc : left p.1
  ·rfl
  ·have : p ∈ ld := by rw [S.held]; exact List.mem_filter.2 ⟨hp, by simp [hc]⟩
   rw [hl p this] at hc
   exact hc.symm
 have e : ld = ld0.filter fun p => decide (¬ p.2.1 < floor) := by
  rw [S.held]
  refine List.filter_congr fun q hq => ?_
  rw [hl0 q hq]
  simp
 refine ⟨by rw [fade_keys]; exact H.heard, ?_, ?_⟩
 ·rw [e, held_fade]
  refine (H.held.filter _).trans ?_
  rw [List.filter_map]
  exact List.Perm.refl _
 ·intro p
  rw [S.used p, H.used p, held_fade]
  constructor
  ·rintro ⟨⟨x, hx, rfl⟩, h2⟩
   refine ⟨x, List.mem_filter.2 ⟨hx, ?_⟩, rfl⟩
   simp only [decide_eq_true_eq]
   intro hlt
   have : pair x ∈ ld0 := H.held.mem_iff.2 (List.mem_map.2 ⟨x, hx, rfl⟩)
   exact h2 ⟨pair x, this, rfl, hl0 _ this, hlt⟩
  ·rintro ⟨x, hx, rfl⟩
   obtain ⟨h1, h2⟩ := List.mem_filter.1 hx
   refine ⟨⟨x, h1, rfl⟩, ?_⟩
   rintro ⟨q, _, _, _, hf⟩
   simp only [decide_eq_true_eq] at h2
   exact h2 hf
end Bk
end Go.Proofs.YtbojijefenfbgaaGreatDoor
namespace Go.Proofs.YtbojijefenfbgaaGreatDoor
namespace Bk
open Mp
structure St where
 number : Int
 floor : Int
 own : Int
 key : List UInt8
 order : List UInt8
 l : List It
def be (l : List UInt8) : Nat := l.foldl (fun n x => 256 * n + x.toNat) 0
theorem be_snoc (l : List UInt8) (x : UInt8) : be (l ++ [x]) = 256 * be l + x.toNat := by simp [be]
theorem be_lt (l : List UInt8) : be l < 256 ^ l.length := by
 have : ∀ (l : List UInt8) (n B : Nat), n < B → l.foldl (fun n x => 256 * n + x.toNat) n < B * 256 ^ l.length := by
  intro l
  induction l with
  | nil => intro n B h; simpa using h
  | cons x r ih =>
   intro n B h
   have hx := x.toNat_lt
   have := ih (256 * n + x.toNat) (B * 256) (by omega)
   simp only [List.foldl_cons, List.length_cons, Nat.pow_succ]
   rw [Nat.mul_assoc] at this
   rw [Nat.mul_comm (256 ^ r.length) 256]
   exact this
 have := this l 0 1 (by omega)
 simpa [be] using this
def epochOf (t : List UInt8) : Int := be ((t.drop 1).take 2)
def serialOf (t : List UInt8) : Int := be ((t.drop 3).take 4)
theorem epoch_bd {t : List UInt8} : 0 ≤ epochOf t ∧ epochOf t ≤ 65535 := by
 unfold epochOf
 have h := be_lt ((t.drop 1).take 2)
 have h2 : ((t.drop 1).take 2).length ≤ 2 := by rw [List.length_take]; omega
 have := Nat.pow_le_pow_right (n := 256) (by omega) h2
 omega
theorem serial_bd {t : List UInt8} : 0 ≤ serialOf t ∧ serialOf t ≤ 4294967295 := by
 unfold serialOf
 have h := be_lt ((t.drop 3).take 4)
 have h2 : ((t.drop 3).take 4).length ≤ 4 := by rw [List.length_take]; omega
 have := Nat.pow_le_pow_right (n := 256) (by omega) h2
 omega
section
variable (R : List UInt8 → List UInt8 → List UInt8 → Bool)
def St.fresh (s : St) (t : List UInt8) : It := ⟨s.number, s.own + 1, epochOf t, serialOf t, false⟩
def adm (s : St) (t : List UInt8) : Int × St :=
 if t.length ≠ 72 ∨ t.head? ≠ some 84 then (4, s)
 else if R s.key (t.take 8) (t.drop 8) = false then (5, s)
 else if epochOf t < s.floor then (6, s)
 else if ∃ x ∈ held s.l, x.pass = (epochOf t, serialOf t) then (7, s)
 else if 1000 ≤ s.own then (8, s)
 else (0, { s with own := s.own + 1, l := ins (s.fresh t) s.l })
def St.raised (s : St) (t : List UInt8) : St := { s with floor := epochOf t, order := t, l := s.l.map (fade (epochOf t)) }
def clo (s : St) (t : List UInt8) : Int × St :=
 if t.length ≠ 67 ∨ t.head? ≠ some 67 then (4, s)
 else if R s.key (t.take 3) (t.drop 3) = false then (5, s)
 else if epochOf t ≤ s.floor then (6, s)
 else (0, s.raised t)
end
structure Fair (s : St) (x : It) : Prop where
 gate : 0 ≤ x.gate ∧ x.gate ≤ 15
 adm : 1 ≤ x.adm ∧ x.adm ≤ 1000
 epoch : 0 ≤ x.epoch ∧ x.epoch ≤ 65535
 serial : 0 ≤ x.serial ∧ x.serial ≤ 4294967295
 gone : x.gone = true → x.epoch = 0 ∧ x.serial = 0
 floor : x.gone = false → s.floor ≤ x.epoch
 own : x.gate = s.number → x.adm ≤ s.own
structure Inv (s : St) : Prop where
 number : 0 ≤ s.number ∧ s.number ≤ 15
 floor : 0 ≤ s.floor ∧ s.floor ≤ 65535
 own : 0 ≤ s.own ∧ s.own ≤ 1000
 rises : Rises s.l
 fair : ∀ x ∈ s.l, Fair s x
def St.new (n : Int) (k : List UInt8) : St := ⟨n, 0, 0, k, [], []⟩
theorem Inv.new {n : Int} {k : List UInt8} (h : 0 ≤ n ∧ n ≤ 15) : Inv (St.new n k) := ⟨h, by simp [St.new], by simp [St.new], List.Pairwise.nil, fun x hx => by simp [St.new] at hx⟩
theorem fresh_key {s : St} (h : Inv s) (t : List UInt8) : (s.fresh t).key ∉ s.l.map It.key := by
 intro hm
 obtain ⟨x, hx, e⟩ := List.mem_map.1 hm
 unfold It.key St.fresh at e
 injection e with e1 e2
 have := (h.fair x hx).own e1
 simp at e2
 omega
theorem Inv.admitted {s : St} (h : Inv s) {t : List UInt8} (hf : ¬ epochOf t < s.floor) (ho : ¬ 1000 ≤ s.own) : Inv { s with own := s.own + 1, l := ins (s.fresh t) s.l } := by
 have h0 := h.own
 refine ⟨h.number, h.floor, ⟨by show 0 ≤ s.own + 1; omega, by show s.own + 1 ≤ 1000; omega⟩, ins_rises h.rises (fun y hy e => fresh_key h t (List.mem_map.2 ⟨y, hy, e⟩)), ?_⟩
 intro x hx
 rcases mem_ins.1 hx with rfl | hx
 ·exact ⟨h.number, ⟨by show 1 ≤ s.own + 1; omega, by show s.own + 1 ≤ 1000; omega⟩, epoch_bd, serial_bd, fun e => absurd e (by simp [St.fresh]), fun _ => (by show s.floor ≤ epochOf t; omega), fun _ => Int.le_refl _⟩
 ·have f := h.fair x hx
  exact ⟨f.gate, f.adm, f.epoch, f.serial, f.gone, f.floor, fun e => Int.le_trans (f.own e) (by show s.own ≤ s.own + 1; omega)⟩
theorem Inv.raised {s : St} (h : Inv s) (t : List UInt8) : Inv (s.raised t) := by
 refine ⟨h.number, epoch_bd, h.own, fade_rises _ h.rises, ?_⟩
 intro y hy
 obtain ⟨x, hx, rfl⟩ := List.mem_map.1 hy
 have f := h.fair x hx
 unfold fade
 split
 ·exact ⟨f.gate, f.adm, by simp, by simp, fun _ => ⟨rfl, rfl⟩, fun e => by simp at e, f.own⟩
 ·rename_i hc
  refine ⟨f.gate, f.adm, f.epoch, f.serial, f.gone, fun e => ?_, f.own⟩
  have : ¬ x.epoch < epochOf t := fun hlt => hc ⟨e, hlt⟩
  show epochOf t ≤ x.epoch
  omega
theorem Inv.adm (R : List UInt8 → List UInt8 → List UInt8 → Bool) {s : St} (h : Inv s) (t : List UInt8) : Inv (adm R s t).2 := by
 unfold Bk.adm
 split
 ·exact h
 ·split
  ·exact h
  ·split
   ·exact h
   ·split
    ·exact h
    ·split
     ·exact h
     ·rename_i h1 _ h2
      exact h.admitted h1 h2
theorem Inv.clo (R : List UInt8 → List UInt8 → List UInt8 → Bool) {s : St} (h : Inv s) (t : List UInt8) : Inv (clo R s t).2 := by
 unfold Bk.clo
 split
 ·exact h
 ·split
  ·exact h
  ·split
   ·exact h
   ·exact h.raised t
theorem few : ∀ (l : List Int) (lo N : Int), l.Pairwise (· < ·) → (∀ x ∈ l, lo ≤ x ∧ x < N) → lo ≤ N → (l.length : Int) ≤ N - lo
 | [], lo, N, _, _, h => by simp; omega
 | x :: r, lo, N, hp, hb, h => by
  obtain ⟨h1, h2⟩ := List.pairwise_cons.1 hp
  have hx := hb x (by simp)
  have := few r (x + 1) N h2 (fun y hy => ⟨by have := h1 y hy; omega, (hb y (by simp [hy])).2⟩) (by omega)
  simp only [List.length_cons]
  omega
theorem Inv.few {s : St} (h : Inv s) : s.l.length ≤ 16000 := by
 have h1 : (s.l.map fun x => x.gate * 1000 + x.adm).Pairwise (· < ·) := by
  rw [List.pairwise_map]
  refine h.rises.imp_of_mem ?_
  intro a b ha hb hab
  have f := h.fair a ha
  have g := h.fair b hb
  have := f.adm; have := g.adm
  unfold Ahead at hab
  omega
 have := Bk.few _ 1 16001 h1 (fun x hx => by
  obtain ⟨y, hy, rfl⟩ := List.mem_map.1 hx
  have f := h.fair y hy
  have := f.adm; have := f.gate
  omega) (by omega)
 simp at this
 omega
end Bk
end Go.Proofs.YtbojijefenfbgaaGreatDoor
namespace Go.Proofs.YtbojijefenfbgaaGreatDoor
open Go Go.RowKit
namespace Gt
open Mp Bk
def str (l : List UInt8) : Value := .string ⟨l.toArray⟩
def Maps (S : Nat → Prop) (w : World) (vh vd vu : Value) (l : List It) : Prop :=
 (vh = .map none ∧ vd = .map none ∧ vu = .map none ∧ l = []) ∨
 ∃ bh bd bu lh ld lu, vh = .map (some bh) ∧ vd = .map (some bd) ∧ vu = .map (some bu) ∧ S bh ∧ S bd ∧ S bu ∧ bh ≠ bd ∧ bd ≠ bu ∧ bh ≠ bu ∧ Is w bh two unit lh ∧ Is w bd two two ld ∧ Is w bu two unit lu ∧ Has l lh ld lu
theorem Maps.congr {S T : Nat → Prop} {w w' : World} {vh vd vu : Value} {l : List It} (h : Maps S w vh vd vu l) (hS : ∀ k, S k → T k) (hw : ∀ k, S k → k < w.heap.size → w'.heap[k]? = w.heap[k]?) : Maps T w' vh vd vu l := by
 rcases h with h | ⟨bh, bd, bu, lh, ld, lu, e1, e2, e3, s1, s2, s3, n1, n2, n3, h1, h2, h3, H⟩
 ·exact Or.inl h
 ·exact Or.inr ⟨bh, bd, bu, lh, ld, lu, e1, e2, e3, hS _ s1, hS _ s2, hS _ s3, n1, n2, n3, h1.congr (hw _ s1 h1.lt), h2.congr (hw _ s2 h2.lt), h3.congr (hw _ s3 h3.lt), H⟩
theorem Maps.ask {S : Nat → Prop} {w : World} {vh vd vu : Value} {l : List It} (h : Maps S w vh vd vu l) : ∃ lh ld lu, V w vh two unit lh ∧ V w vd two two ld ∧ V w vu two unit lu ∧ Has l lh ld lu := by
 rcases h with ⟨rfl, rfl, rfl, rfl⟩ | ⟨bh, bd, bu, lh, ld, lu, e1, e2, e3, s1, s2, s3, n1, n2, n3, h1, h2, h3, H⟩
 ·exact ⟨[], [], [], Or.inl ⟨rfl, rfl⟩, Or.inl ⟨rfl, rfl⟩, Or.inl ⟨rfl, rfl⟩, Has.nil⟩
 ·exact ⟨lh, ld, lu, Or.inr ⟨bh, e1, h1⟩, Or.inr ⟨bd, e2, h2⟩, Or.inr ⟨bu, e3, h3⟩, H⟩
def cellsP (s : St) (vh vd vu : Value) : Array Value := #[.int .i64 s.number, str s.key, .int .i64 s.own, .int .i64 s.floor, vh, vd, vu, str s.order]
def PGate (S : Nat → Prop) (w : World) (g : Nat) (s : St) : Prop :=
 S g ∧ ∃ vh vd vu, w.heap[g]? = some (.cells (cellsP s vh vd vu) 143 (0, 0)) ∧ Maps S w vh vd vu s.l
theorem PGate.lt {S : Nat → Prop} {w : World} {g : Nat} {s : St} (h : PGate S w g s) : g < w.heap.size := by
 obtain ⟨_, vh, vd, vu, hg, _⟩ := h
 exact (Array.getElem?_eq_some_iff.1 hg).1
theorem PGate.congr {S T : Nat → Prop} {w w' : World} {g : Nat} {s : St} (h : PGate S w g s) (hS : ∀ k, S k → T k) (hw : ∀ k, S k → k < w.heap.size → w'.heap[k]? = w.heap[k]?) : PGate T w' g s := by
 have hlt := h.lt
 obtain ⟨s1, vh, vd, vu, hg, hm⟩ := h
 exact ⟨hS _ s1, vh, vd, vu, by rw [hw g s1 hlt]; exact hg, hm.congr hS hw⟩
theorem PGate.below {S : Nat → Prop} {w w' : World} {g : Nat} {s : St} (h : PGate S w g s) (hb : Below w.heap.size w w') : PGate S w' g s := h.congr (fun _ h => h) fun k _ hk => hb.block k hk
def itC (x : It) : List Value := [.int .i64 x.gate, .int .i64 x.adm, .int .i64 x.epoch, .int .i64 x.serial, .bool x.gone]
def itL (l : List It) : List Value := l.flatMap itC
theorem itL_len (l : List It) : (itL l).length = l.length * 5 := by
 induction l with
 | nil => rfl
 | cons x r ih =>
  unfold itL at *
  rw [List.flatMap_cons, List.length_append, ih, List.length_cons, show (itC x).length = 5 from rfl]
  omega
theorem itL_snoc (l : List It) (x : It) : itL (l ++ [x]) = itL l ++ itC x := by simp [itL]
theorem flat_get {α : Type} (f : α → List Value) (m : Nat) (hf : ∀ x, (f x).length = m) : ∀ (l : List α) (i j : Nat) (x : α), l[i]? = some x → j < m → (l.flatMap f)[i * m + j]? = (f x)[j]?
 | [], i, j, x, h, _ => by simp at h
 | y :: r, 0, j, x, h, hj => by
  simp at h
  subst h
  rw [List.flatMap_cons, List.getElem?_append_left (by rw [hf]; omega)]
  simp
 | y :: r, i + 1, j, x, h, hj => by
  simp at h
  rw [List.flatMap_cons, List.getElem?_append_right (by rw [hf, Nat.add_mul]; omega), hf, show (i + 1) * m + j - m = i * m + j by rw [Nat.add_mul]; omega]
  exact flat_get f m hf r i j x h hj
def cellsR (s : St) (lv : Value) (kn : Nat) : Array Value := #[.int .i64 s.number, .int .i64 s.floor, .int .i64 s.own, str s.key, str s.order, lv, .pointer (some ⟨kn, 0, none⟩)]
def RGate (S : Nat → Prop) (w : World) (g : Nat) (s : St) (kn : Nat) : Prop :=
 S g ∧ ∃ lv, w.heap[g]? = some (.cells (cellsR s lv kn) 225 (0, 0)) ∧ Row S w 73 5 lv s.l.length (itL s.l)
theorem RGate.lt {S : Nat → Prop} {w : World} {g kn : Nat} {s : St} (h : RGate S w g s kn) : g < w.heap.size := by
 obtain ⟨_, lv, hg, _⟩ := h
 exact (Array.getElem?_eq_some_iff.1 hg).1
theorem RGate.congr {S T : Nat → Prop} {w w' : World} {g kn : Nat} {s : St} (h : RGate S w g s kn) (hS : ∀ k, S k → T k) (hw : ∀ k, S k → k < w.heap.size → w'.heap[k]? = w.heap[k]?) : RGate T w' g s kn := by
 have hlt := h.lt
 obtain ⟨s1, lv, hg, hm⟩ := h
 exact ⟨hS _ s1, lv, by rw [hw g s1 hlt]; exact hg, (hm.congr fun b hb => hw b (hm.2 b hb) (hm.lt b hb)).mono hS⟩
theorem RGate.below {S : Nat → Prop} {w w' : World} {g kn : Nat} {s : St} (h : RGate S w g s kn) (hb : Below w.heap.size w w') : RGate S w' g s kn := h.congr (fun _ h => h) fun k _ hk => hb.block k hk
structure Asked where
 key : List UInt8
 text : List UInt8
 sign : List UInt8
 yes : Bool
def asC (x : Asked) : List Value := [str x.key, str x.text, str x.sign]
def asL (l : List Asked) : List Value := l.flatMap asC
def yesL (l : List Asked) : List Value := l.map fun x => .bool x.yes
def KAt (R : List UInt8 → List UInt8 → List UInt8 → Bool) (S : Nat → Prop) (w : World) (kn : Nat) (ks : List Asked) : Prop :=
 S kn ∧ (∀ x ∈ ks, x.yes = R x.key x.text x.sign) ∧ ∃ lv yv, w.heap[kn]? = some (.cells #[lv, yv] 120 (0, 0)) ∧ Row S w 34 3 lv ks.length (asL ks) ∧ Row S w 4 1 yv ks.length (yesL ks)
theorem KAt.lt {R : List UInt8 → List UInt8 → List UInt8 → Bool} {S : Nat → Prop} {w : World} {kn : Nat} {ks : List Asked} (h : KAt R S w kn ks) : kn < w.heap.size := by
 obtain ⟨_, _, lv, yv, hg, _⟩ := h
 exact (Array.getElem?_eq_some_iff.1 hg).1
theorem KAt.congr {R : List UInt8 → List UInt8 → List UInt8 → Bool} {S T : Nat → Prop} {w w' : World} {kn : Nat} {ks : List Asked} (h : KAt R S w kn ks) (hS : ∀ k, S k → T k) (hw : ∀ k, S k → k < w.heap.size → w'.heap[k]? = w.heap[k]?) : KAt R T w' kn ks := by
 have hlt := h.lt
 obtain ⟨s1, h0, lv, yv, hg, h1, h2⟩ := h
 exact ⟨hS _ s1, h0, lv, yv, by rw [hw kn s1 hlt]; exact hg, (h1.congr fun b hb => hw b (h1.2 b hb) (h1.lt b hb)).mono hS, (h2.congr fun b hb => hw b (h2.2 b hb) (h2.lt b hb)).mono hS⟩
theorem KAt.below {R : List UInt8 → List UInt8 → List UInt8 → Bool} {S : Nat → Prop} {w w' : World} {kn : Nat} {ks : List Asked} (h : KAt R S w kn ks) (hb : Below w.heap.size w w') : KAt R S w' kn ks := h.congr (fun _ h => h) fun k _ hk => hb.block k hk
end Gt
end Go.Proofs.YtbojijefenfbgaaGreatDoor
namespace Go.Proofs.YtbojijefenfbgaaGreatDoor
open Go Go.RowKit
namespace Ks
section
variable {P : Program} {ops : Array Oper} {rest : List Oper} {o : Oper} {a : Act} {w : World} {Q : Exit → Act → World → Prop}
theorem retb {id : Nat} (h : Q .ret a w) : Exit.inBlock id Q .ret a w := h
theorem run_idx (w : World) (t e : TypeId) (sz : Nat) (hu : P.underlying t = some (.slice e)) (hs : P.cellsOf e = sz) (hi0 : (P.info? e).isSome = true) (b len cap n : Nat) (hn : n < len) : (Instr.indexAt t (.slice (some ⟨b, 0, none⟩) len cap) (.int .i64 (n : Int))).run P w = .ok (.pointer (some ⟨b, n * sz, none⟩)) w := by
 obtain ⟨i, hi1⟩ := Option.isSome_iff_exists.1 hi0
 have h1 : (underlying t).run P w = .ok (.slice e) w := run_underlying hu w
 have h2 : (sizeOf e).run P w = .ok sz w := by rw [← hs]; exact run_sizeOf w hi1
 simp [Instr.indexAt, asIntOf, h1, h2, hn, Addr.add_mid]
theorem idx (hw : Region.wanted o (yielded ops a.tmps) = true) (t : TypeId) (x ix : Operand) (ho : o.op = .indexAddr t x ix) (e : TypeId) (sz : Nat) (hu : P.underlying t = some (.slice e)) (hs : P.cellsOf e = sz) (hi0 : (P.info? e).isSome = true) (b len cap n : Nat)
  (hx : a.eval x = .slice (some ⟨b, 0, none⟩) len cap) (hi : a.eval ix = .int .i64 (n : Int)) (hn : n < len) (h : wpList P ops Q rest (a.put o.dst (.pointer (some ⟨b, n * sz, none⟩))) w) : wpList P ops Q (o :: rest) a w := by
 refine valg hw _ ?_ h
 unfold execOp
 simp only [ho, hx, hi, Sem.run_bind, Sem.run_pure, Result.andThen_ok, run_idx w t e sz hu hs hi0 b len cap n hn]
theorem y_idx {W : World} {K : Act → Prop} {l : List Oper} (hg : o.guard = none) (t : TypeId) (x ix : Operand) (ho : o.op = .indexAddr t x ix) (e : TypeId) (sz : Nat) (hu : P.underlying t = some (.slice e)) (hs : P.cellsOf e = sz) (hi0 : (P.info? e).isSome = true) (b len cap n : Nat)
  (hx : a.eval x = .slice (some ⟨b, 0, none⟩) len cap) (hi : a.eval ix = .int .i64 (n : Int)) (hn : n < len) (h : Qt.Lex P W K l (a.put o.dst (.pointer (some ⟨b, n * sz, none⟩)))) : Qt.Lex P W K (o :: l) a := by
 refine Qt.y_val hg _ (fun w' _ => ?_) h
 unfold execOp
 simp only [ho, hx, hi, Sem.run_bind, Sem.run_pure, Result.andThen_ok, run_idx w' t e sz hu hs hi0 b len cap n hn]
theorem single (hg : o.guard = none) (t e : TypeId) (x : Operand) (ho : o.op = .buildSlice t 1 #[(0, x)]) (v z : Value) (hx : a.eval x = v) (cs : Array Value) (sz by1 : Nat) (hu : P.underlying t = some (.slice e)) (h2 : (P.info? e).map (fun i => (i.zero, i.size, i.bytes)) = some (some z, sz, by1)) (hsmall : ¬ 1 * sz > 2 ^ 24) (hpos : ¬ 1 * sz = 0)
  (hf : Instr.fill (fun i => some (i * sz, sz)) ((Array.range (1 * sz)).map (z.cells[· % z.cells.size]!)) [(0, v)] = some cs)
  (h : ∀ w' b, Hid (b = w.heap.size) → Hid (w'.heap[b]? = some (.cells cs e (0, 0))) → Hid (Below w.heap.size w w') → wpList P ops Q rest (a.put o.dst (.slice (some ⟨b, 0, none⟩) 1 1)) w') : wpList P ops Q (o :: rest) a w := by
 refine wpList_plain hg fun K hK => ?_
 obtain ⟨i, hi, hz0, hz1, hz2⟩ := info_parts h2
 subst hz1
 have hr := run_buildSlice (P := P) w t e 1 #[(0, v)] cs i z hu hi hz0 hsmall hpos hf
 unfold Oper.wp execOp
 simp only [ho, hx, List.map_toArray, List.map_cons, List.map_nil, Sem.run_bind, Sem.run_pure, Result.andThen_ok, hr]
 exact hK _ _ (h _ _ rfl (heap_alloc_new _ _) ((Below.refl _ _).alloc (Nat.le_refl _) _))
end
end Ks
theorem Row.range {α : Type} {f : α → List Value} {m : Nat} (hf : ∀ x, (f x).length = m) {w : World} {g n : Nat} {cur : Array Value} {e : TypeId} {l : List α} (hg : w.heap[g]? = some (.cells cur e (0, 0))) (ht : cur.toList.take (n * m) = l.flatMap f) {i : Nat} {x : α} (hx : l[i]? = some x) : w.rangeAt g (i * m) (f x) := fun j v hv => by
 have hj : j < m := by
  have := (List.getElem?_eq_some_iff.1 hv).1
  rwa [hf] at this
 refine Row.cell hg ht (j := i * m + j) ?_
 rw [Gt.flat_get f m hf l i j x hx hj]
 exact hv
end Go.Proofs.YtbojijefenfbgaaGreatDoor
namespace Go.Proofs.YtbojijefenfbgaaGreatDoor
open Go Go.RowKit
namespace Gt
open Mp Bk
theorem map_two {l : List Field} {a b : String × TypeId × Nat} (h : l.map (fun f => (f.name, f.type, f.offset)) = [a, b]) : ∃ f g : Field, l = [f, g] ∧ (f.name, f.type, f.offset) = a ∧ (g.name, g.type, g.offset) = b := by
 match l, h with
 | [], h => simp at h
 | [f], h => simp at h
 | [f, g], h =>
  simp only [List.map_cons, List.map_nil, List.cons.injEq, and_true] at h
  exact ⟨f, g, rfl, h.1, h.2⟩
 | f :: g :: k :: r, h => simp at h
set_option maxRecDepth 100000 in
theorem eq_two {t : TypeId} {n m : String} (hf : (Tryz.prog.fieldsOf t).toList.map (fun f => (f.name, f.type, f.offset)) = [(n, 3, 0), (m, 3, 1)]) (hn : n ≠ "_") (hm : m ≠ "_") (ht : Tryz.prog.underlying t = some (.struct (Tryz.prog.fieldsOf t))) (hp : Tryz.prog.stoodInHeld t = false) (w : World) (a b : Int × Int) :
  (Op.equal t (two a) (two b)).run Tryz.prog w = .ok (decide (a = b)) w := by
 obtain ⟨f, g, hl, h1, h2⟩ := map_two hf
 injection h1 with f1 h1
 injection h1 with f2 f3
 injection h2 with g1 h2
 injection h2 with g2 g3
 have hs := run_equalIn_struct (P := Tryz.prog) w 9999 t #[.int .i64 a.1, .int .i64 a.2] #[.int .i64 b.1, .int .i64 b.2] ht hp
 have p1 := fun x y : Int => run_part_plain (P := Tryz.prog) w (e := 3) (xs := #[.int .i64 x, .int .i64 y]) (off := 0) (v := .int .i64 x) (by kernel_rfl) rfl
 have p2 := fun x y : Int => run_part_plain (P := Tryz.prog) w (e := 3) (xs := #[.int .i64 x, .int .i64 y]) (off := 1) (v := .int .i64 y) (by kernel_rfl) rfl
 have e3 : ∀ x y : Int, (Op.equalIn 9999 3 (.int .i64 x) (.int .i64 y)).run Tryz.prog w = .ok (x == y) w := fun x y => run_equalIn_int (P := Tryz.prog) (w := w) 9998 3 .i64 .i64 x y Tryz.underlying3
 unfold Op.equal two
 show (Op.equalIn (9999 + 1) t _ _).run _ w = _
 rw [hs, hl]
 simp only [Op.eqFields, f1, g1, f2, g2, f3, g3, ne_eq, hn, hm, not_false_eq_true, if_true, Sem.run_bind, p1, e3, Result.andThen_ok]
 by_cases h1 : a.1 = b.1
 ·by_cases h2 : a.2 = b.2
  ·have : a = b := Prod.ext h1 h2
   simp [this, p2, e3]
  ·have : a ≠ b := fun e => h2 (by rw [e])
   simp [h1, h2, this, p2, e3]
 ·have : a ≠ b := fun e => h1 (by rw [e])
  simp [h1, this]
theorem stays_two (w : World) (a : Int × Int) : (Instr.keyThatStays (two a) (two a)).run Tryz.prog w = .ok (two a) w := by
 simp [Instr.keyThatStays, Instr.sameBits, two]
theorem admP : KeyP Tryz.prog 154 two where
 und := ⟨_, Tryz.underlying154, fun _ _ => rfl⟩
 eq := eq_two (n := "Gate") (m := "Number") (by kernel_rfl) (by decide) (by decide) (by kernel_rfl) (by kernel_rfl)
 inj := two_inj
 check := fun w em a => by
  unfold two
  kernel_rfl
 stays := stays_two
theorem passP : KeyP Tryz.prog 150 two where
 und := ⟨_, Tryz.underlying150, fun _ _ => rfl⟩
 eq := eq_two (n := "Epoch") (m := "Serial") (by kernel_rfl) (by decide) (by decide) (by kernel_rfl) (by kernel_rfl)
 inj := two_inj
 check := fun w em a => by
  unfold two
  kernel_rfl
 stays := stays_two
theorem heardT : Tryz.prog.underlying 137 = some (.map 154 194) := by kernel_rfl
theorem heldT : Tryz.prog.underlying 138 = some (.map 154 150) := by kernel_rfl
theorem usedT : Tryz.prog.underlying 139 = some (.map 150 194) := by kernel_rfl
theorem zero_unit (w : World) : (zeroValue 194).run Tryz.prog w = .ok (.agg #[]) w := by kernel_rfl
end Gt
end Go.Proofs.YtbojijefenfbgaaGreatDoor

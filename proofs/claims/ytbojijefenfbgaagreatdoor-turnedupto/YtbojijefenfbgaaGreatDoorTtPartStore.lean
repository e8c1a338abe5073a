/- Some cells of a row written, by one operation. Comparison of structs and arrays, as one operation. What a gate knows, as a rising list of items; what the program's three maps have of it. A gate by what it knows: how it admits, closes and looks; what stays true of it. A gate in memory: the program's, the document's, and what was asked of signatures. One operation, one law: slices. One element put behind a slice that is owned: the two operations in one. The keys of the book's maps. Walks of the program's book: what only asks. -/
import Derived.Test.YtbojijefenfbgaaGreatDoorTtMapRaw
import Derived.Test.YtbojijefenfbgaaGreatDoorTtSignD
import Derived.Laws.StructEq
import Derived.Test.YtbojijefenfbgaaGreatDoorChecked
namespace Go.Proofs.YtbojijefenfbgaaGreatDoor
open Go Go.RowKit
namespace Ks
end Ks
open Go Go.RowKit
namespace Ks
theorem q8a {P : Program} {o : Oper} {a : Act} {w : World} (t ty : TypeId) (x y : Operand) (ho : o.op = .binOp .eql t x y ty) (u v : Array Value) (hx : a.eval x = .agg u) (hy : a.eval y = .agg v) (hG : P.eqGuardType P.depth t = false) (b : Bool) (he : (Op.equalIn 10000 t (.agg u) (.agg v)).run P w = .ok b w) : (execOp a.eval o).run P w = .ok (.value (.bool b)) w := by
 have hp : (program).run P w = .ok P w := rfl
 unfold execOp
 simp only [ho, hx, hy]
 unfold eqGuard binOp
 simp [hp, hG, Op.equal, Op.maxDepth, he, Result.andThen]
theorem q8b {P : Program} {o : Oper} {a : Act} {w : World} (t ty : TypeId) (x y : Operand) (ho : o.op = .binOp .neq t x y ty) (u v : Array Value) (hx : a.eval x = .agg u) (hy : a.eval y = .agg v) (hG : P.eqGuardType P.depth t = false) (b : Bool) (he : (Op.equalIn 10000 t (.agg u) (.agg v)).run P w = .ok b w) : (execOp a.eval o).run P w = .ok (.value (.bool !b)) w := by
 have hp : (program).run P w = .ok P w := rfl
 unfold execOp
 simp only [ho, hx, hy]
 unfold eqGuard binOp
 simp [hp, hG, Op.equal, Op.maxDepth, he, Result.andThen]
end Ks
end Go.Proofs.YtbojijefenfbgaaGreatDoor
namespace Go.Proofs.YtbojijefenfbgaaGreatDoor
namespace Bk
open Mp
structure It where
 gate : Int
 adm : Int
 epoch : Int
 serial : Int
 gone : Bool
deriving DecidableEq
def It.key (x : It) : Int × Int := (x.gate, x.adm)
def It.pass (x : It) : Int × Int := (x.epoch, x.serial)
def z1y (a b : It) : Prop := a.gate < b.gate ∨ (a.gate = b.gate ∧ a.adm < b.adm)
instance (a b : It) : Decidable (z1y a b) := by unfold z1y; infer_instance
theorem z1y.trans {a b c : It} (h : z1y a b) (k : z1y b c) : z1y a c := by unfold z1y at *; omega
theorem z1y.ne {a b : It} (h : z1y a b) : a.key ≠ b.key := by
 unfold z1y at h
 unfold It.key
 intro e
 injection e with e1 e2
 omega
theorem y8e {a b : It} (h : a.key ≠ b.key) (k : ¬ z1y a b) : z1y b a := by
 unfold z1y at *
 unfold It.key at h
 by_cases e1 : a.gate = b.gate
 ·by_cases e2 : a.adm = b.adm
  ·exact absurd (Prod.ext e1 e2) h
  ·omega
 ·omega
def ins (x : It) : List It → List It
 | [] => [x]
 | y :: r => if z1y x y then x :: y :: r else y :: ins x r
theorem z5l (x : It) : ∀ l, (ins x l).Perm (x :: l)
 | [] => List.Perm.refl _
 | y :: r => by
  unfold ins
  split
  ·exact List.Perm.refl _
  ·exact ((z5l x r).cons y).trans (List.Perm.swap x y r)
theorem z7o {x y : It} {l : List It} : y ∈ ins x l ↔ y = x ∨ y ∈ l := by rw [(z5l x l).mem_iff]; simp
def y0k (l : List It) : Prop := l.Pairwise z1y
theorem y0x {x : It} : ∀ {l : List It}, y0k l → (∀ y ∈ l, y.key ≠ x.key) → y0k (ins x l)
 | [], _, _ => by simp [ins, y0k]
 | y :: r, h, hk => by
  obtain ⟨h1, h2⟩ := List.pairwise_cons.1 h
  unfold ins
  split
  ·rename_i ha
   refine List.pairwise_cons.2 ⟨fun z hz => ?_, h⟩
   rcases List.mem_cons.1 hz with rfl | hz
   ·exact ha
   ·exact ha.trans (h1 z hz)
  ·rename_i ha
   refine List.pairwise_cons.2 ⟨fun z hz => ?_, y0x h2 fun z hz => hk z (by simp [hz])⟩
   rcases z7o.1 hz with rfl | hz
   ·exact y8e (fun e => hk y (by simp) e.symm) ha
   ·exact h1 z hz
theorem y0k.keys {l : List It} (h : y0k l) : (l.map It.key).Nodup := List.pairwise_map.2 (h.imp fun h => h.ne)
def z5e (floor : Int) (x : It) : It := if x.gone = false ∧ x.epoch < floor then ⟨x.gate, x.adm, 0, 0, true⟩ else x
theorem z3w (floor : Int) (x : It) : (z5e floor x).key = x.key := by
 unfold z5e
 split <;> rfl
theorem x3k (floor : Int) {x y : It} (h : z1y x y) : z1y (z5e floor x) (z5e floor y) := by
 have e1 := z3w floor x
 have e2 := z3w floor y
 unfold It.key at e1 e2
 injection e1 with e1 e3
 injection e2 with e2 e4
 unfold z1y at *
 rw [e1, e2, e3, e4]
 exact h
theorem x3l (floor : Int) {l : List It} (h : y0k l) : y0k (l.map (z5e floor)) := List.pairwise_map.2 (h.imp fun h => x3k floor h)
theorem y6a (floor : Int) (l : List It) : (l.map (z5e floor)).map It.key = l.map It.key := by
 rw [List.map_map]
 exact List.map_congr_left fun x _ => z3w floor x
theorem y5z {floor : Int} {x : It} : (z5e floor x).gone = (x.gone || decide (x.epoch < floor)) := by
 unfold z5e
 split
 ·rename_i h
  simp [h.2]
 ·rename_i h
  by_cases hg : x.gone
  ·simp [hg]
  ·simp only [Bool.not_eq_true] at hg
   simp [hg] at h ⊢
   exact h
theorem q8f {floor : Int} {x : It} (h : (z5e floor x).gone = false) : z5e floor x = x := by
 unfold z5e at *
 split
 ·rename_i h1
  rw [if_pos h1] at h
  simp at h
 ·rfl
def held (l : List It) : List It := l.filter fun x => !x.gone
def pair (x : It) : (Int × Int) × (Int × Int) := (x.key, x.pass)
theorem y6m (floor : Int) (l : List It) : held (l.map (z5e floor)) = (held l).filter fun x => decide (¬ x.epoch < floor) := by
 unfold held
 induction l with
 | nil => rfl
 | cons x r ih =>
  simp only [List.map_cons, List.filter_cons, y5z]
  cases hg : x.gone
  ·by_cases he : x.epoch < floor
   ·simp [he]
    simpa using ih
   ·have : z5e floor x = x := q8f (by rw [y5z, hg]; simp [he])
    rw [this]
    simp only [he, Bool.not_false, if_true, List.filter_cons, not_false_eq_true, decide_true, Bool.or_self, decide_false]
    rw [ih]
  ·simp
   simpa using ih
structure Has (l : List It) (lh : List ((Int × Int) × Unit)) (ld : List ((Int × Int) × (Int × Int))) (lu : List ((Int × Int) × Unit)) : Prop where
 heard : (lh.map Prod.fst).Perm (l.map It.key)
 held : ld.Perm ((Bk.held l).map pair)
 used : ∀ p, p ∈ lu.map Prod.fst ↔ ∃ x ∈ Bk.held l, x.pass = p
theorem Has.nil : Has [] [] [] [] := ⟨by simp, by simp [Bk.held], by simp [Bk.held]⟩
theorem x5m {c : Int × Int} {lh : List ((Int × Int) × Unit)} : (at? c lh).isSome = decide (c ∈ lh.map Prod.fst) := by
 cases h : at? c lh with
 | none =>
  have := y3m.1 h
  symm
  simp only [Option.isSome_none, decide_eq_false_iff_not, List.mem_map, not_exists, not_and]
  exact fun p hp => this p hp
 | some u =>
  have := x5l h
  symm
  simp only [Option.isSome_some, decide_eq_true_eq, List.mem_map]
  exact ⟨_, this, rfl⟩
theorem Has.has {l lh ld lu} (H : Has l lh ld lu) (c : Int × Int) : (at? c lh).isSome = decide (c ∈ l.map It.key) := by
 rw [x5m]
 congr 1
 exact propext H.heard.mem_iff
theorem Has.j3k {l lh ld lu} (H : Has l lh ld lu) (p : Int × Int) : (at? p lu).isSome = decide (∃ x ∈ Bk.held l, x.pass = p) := by
 rw [x5m]
 congr 1
 exact propext (H.used p)
theorem Has.len {l lh ld lu} (H : Has l lh ld lu) : lh.length = l.length := by simpa using H.heard.length_eq
theorem Has.j0u {l lh ld lu} (H : Has l lh ld lu) : ld.length = (Bk.held l).length := by simpa using H.held.length_eq
theorem z5k {x : It} (hg : x.gone = true) (l : List It) : (held (ins x l)).Perm (held l) := by
 unfold held
 refine ((z5l x l).filter _).trans ?_
 rw [List.filter_cons]
 simp [hg]
theorem y0d {x : It} (hg : x.gone = false) (l : List It) : (held (ins x l)).Perm (x :: held l) := by
 unfold held
 refine ((z5l x l).filter _).trans ?_
 rw [List.filter_cons]
 simp [hg]
theorem y0t {l lh ld lu} (H : Has l lh ld lu) {c : Int × Int} (hc : c ∉ l.map It.key) : ∀ p ∈ lh, p.1 ≠ c := fun p hp e => hc (H.heard.mem_iff.1 (List.mem_map.2 ⟨p, hp, e⟩))
theorem x3o {l lh ld lu} (H : Has l lh ld lu) {c : Int × Int} (hc : c ∉ l.map It.key) : ∀ p ∈ ld, p.1 ≠ c := fun p hp e => by
 obtain ⟨x, hx, rfl⟩ := List.mem_map.1 (H.held.mem_iff.1 hp)
 exact hc (List.mem_map.2 ⟨x, (List.mem_filter.1 hx).1, e⟩)
theorem Has.note {l lh ld lu} (H : Has l lh ld lu) {x : It} (hg : x.gone = true) (hx : x.key ∉ l.map It.key) : Has (ins x l) (put x.key () lh) ld lu := by
 refine ⟨?_, ?_, ?_⟩
 ·rw [y9h (y0t H hx), List.map_append]
  refine List.Perm.trans ?_ ((z5l x l).map It.key).symm
  exact (List.perm_append_comm).trans (H.heard.cons x.key)
 ·exact H.held.trans ((z5k hg l).map _).symm
 ·intro p
  rw [H.used p]
  constructor
  ·rintro ⟨y, hy, e⟩
   exact ⟨y, (z5k hg l).mem_iff.2 hy, e⟩
  ·rintro ⟨y, hy, e⟩
   exact ⟨y, (z5k hg l).mem_iff.1 hy, e⟩
theorem Has.add {l lh ld lu} (H : Has l lh ld lu) (hn : (lu.map Prod.fst).Nodup) {x : It} (hg : x.gone = false) (hx : x.key ∉ l.map It.key) : Has (ins x l) (put x.key () lh) (put x.key x.pass ld) (put x.pass () lu) := by
 refine ⟨?_, ?_, ?_⟩
 ·rw [y9h (y0t H hx), List.map_append]
  refine List.Perm.trans ?_ ((z5l x l).map It.key).symm
  exact (List.perm_append_comm).trans (H.heard.cons x.key)
 ·rw [y9h (x3o H hx)]
  refine List.Perm.trans ?_ ((y0d hg l).map pair).symm
  exact (List.perm_append_comm).trans (H.held.cons (pair x))
 ·intro p
  have h1 : p ∈ (put x.pass () lu).map Prod.fst ↔ p = x.pass ∨ p ∈ lu.map Prod.fst := by
   simp only [List.mem_map]
   constructor
   ·rintro ⟨q, hq, rfl⟩
    rcases (y4e hn q).1 hq with rfl | ⟨h1, _⟩
    ·exact Or.inl rfl
    ·exact Or.inr ⟨q, h1, rfl⟩
   ·rintro (rfl | ⟨q, hq, rfl⟩)
    ·exact ⟨_, (y4e hn _).2 (Or.inl rfl), rfl⟩
    ·by_cases e : q.1 = x.pass
     ·exact ⟨(x.pass, ()), (y4e hn _).2 (Or.inl rfl), e.symm⟩
     ·exact ⟨q, (y4e hn _).2 (Or.inr ⟨hq, e⟩), rfl⟩
  rw [h1, H.used p]
  constructor
  ·rintro (rfl | ⟨y, hy, e⟩)
   ·exact ⟨x, (y0d hg l).mem_iff.2 (by simp), rfl⟩
   ·exact ⟨y, (y0d hg l).mem_iff.2 (by simp [hy]), e⟩
  ·rintro ⟨y, hy, e⟩
   rcases List.mem_cons.1 ((y0d hg l).mem_iff.1 hy) with rfl | hy
   ·exact Or.inl e.symm
   ·exact Or.inr ⟨y, hy, e⟩
structure z5b (floor : Int) (ld0 ld : List ((Int × Int) × (Int × Int))) (lu0 lu : List ((Int × Int) × Unit)) (left : Int × Int → Bool) : Prop where
 held : ld = ld0.filter fun p => left p.1 || decide (¬ p.2.1 < floor)
 used : ∀ p, p ∈ lu.map Prod.fst ↔ p ∈ lu0.map Prod.fst ∧ ¬ ∃ q ∈ ld0, q.2 = p ∧ left q.1 = false ∧ p.1 < floor
theorem z5b.start (floor : Int) (ld0 : List ((Int × Int) × (Int × Int))) (lu0 : List ((Int × Int) × Unit)) : z5b floor ld0 ld0 lu0 lu0 (fun _ => true) :=
 ⟨by simp only [Bool.true_or]; exact (List.filter_eq_self.2 fun _ _ => rfl).symm, fun p => by simp⟩
theorem z5b.stay {floor : Int} {ld0 ld : List ((Int × Int) × (Int × Int))} {lu0 lu : List ((Int × Int) × Unit)} {left : Int × Int → Bool} (S : z5b floor ld0 ld lu0 lu left) (hn : (ld0.map Prod.fst).Nodup) {a v : Int × Int} (hm : (a, v) ∈ ld) (hv : ¬ v.1 < floor) :
  z5b floor ld0 ld lu0 lu (fun x => left x && decide (x ≠ a)) := by
 have hm0 : (a, v) ∈ ld0 := by rw [S.held] at hm; exact (List.mem_filter.1 hm).1
 have huniq : ∀ q ∈ ld0, q.1 = a → q = (a, v) := fun q hq e => by
  obtain ⟨i, hi⟩ := List.mem_iff_getElem?.1 hq
  obtain ⟨j, hj⟩ := List.mem_iff_getElem?.1 hm0
  obtain rfl := z4o hn hi hj e
  rw [hi] at hj
  injection hj
 refine ⟨?_, ?_⟩
 ·rw [S.held]
  refine List.filter_congr fun q hq => ?_
  by_cases e : q.1 = a
  ·rw [huniq q hq e]
   simp [hv]
  ·simp [e]
 ·intro p
  rw [S.used p]
  refine and_congr_right fun _ => not_congr ⟨?_, ?_⟩
  ·rintro ⟨q, hq, rfl, hl, hf⟩
   exact ⟨q, hq, rfl, by simp [hl], hf⟩
  ·rintro ⟨q, hq, rfl, hl, hf⟩
   refine ⟨q, hq, rfl, ?_, hf⟩
   by_cases e : q.1 = a
   ·rw [huniq q hq e] at hf
    exact absurd hf hv
   ·simpa [e] using hl
theorem z5b.k6q {floor : Int} {ld0 ld : List ((Int × Int) × (Int × Int))} {lu0 lu : List ((Int × Int) × Unit)} {left : Int × Int → Bool} (S : z5b floor ld0 ld lu0 lu left) (hn : (ld0.map Prod.fst).Nodup) {a v : Int × Int} (hm : (a, v) ∈ ld) (hv : v.1 < floor) :
  z5b floor ld0 (del a ld) lu0 (del v lu) (fun x => left x && decide (x ≠ a)) := by
 have hm0 : (a, v) ∈ ld0 := by rw [S.held] at hm; exact (List.mem_filter.1 hm).1
 have huniq : ∀ q ∈ ld0, q.1 = a → q = (a, v) := fun q hq e => by
  obtain ⟨i, hi⟩ := List.mem_iff_getElem?.1 hq
  obtain ⟨j, hj⟩ := List.mem_iff_getElem?.1 hm0
  obtain rfl := z4o hn hi hj e
  rw [hi] at hj
  injection hj
 refine ⟨?_, ?_⟩
 ·rw [S.held, del, List.filter_filter]
  refine List.filter_congr fun q hq => ?_
  by_cases e : q.1 = a
  ·rw [huniq q hq e]
   simp [hv]
  ·simp [e]
 ·intro p
  have h1 : p ∈ (del v lu).map Prod.fst ↔ p ∈ lu.map Prod.fst ∧ p ≠ v := by
   simp only [List.mem_map, q9q]
   constructor
   ·rintro ⟨q, ⟨hq, hne⟩, rfl⟩
    exact ⟨⟨q, hq, rfl⟩, hne⟩
   ·rintro ⟨⟨q, hq, rfl⟩, hne⟩
    exact ⟨q, ⟨hq, hne⟩, rfl⟩
  rw [h1, S.used p, and_assoc]
  refine and_congr_right fun _ => ⟨?_, ?_⟩
  ·rintro ⟨h2, h3⟩ ⟨q, hq, rfl, hl, hf⟩
   by_cases e : q.1 = a
   ·exact h3 (by rw [huniq q hq e])
   ·exact h2 ⟨q, hq, rfl, by simpa [e] using hl, hf⟩
  ·intro h2
   refine ⟨?_, ?_⟩
   ·rintro ⟨q, hq, rfl, hl, hf⟩
    exact h2 ⟨q, hq, rfl, by simp [hl], hf⟩
   ·rintro rfl
    exact h2 ⟨(a, p), hm0, rfl, by simp, hv⟩
theorem Has.raise {l lh ld0 lu0} (H : Has l lh ld0 lu0) {floor : Int} {ld : List ((Int × Int) × (Int × Int))} {lu : List ((Int × Int) × Unit)} {left : Int × Int → Bool} (S : z5b floor ld0 ld lu0 lu left) (hl : ∀ p ∈ ld, left p.1 = false) : Has (l.map (z5e floor)) lh ld lu := by
 have hl0 : ∀ p ∈ ld0, left p.1 = false := fun p hp => by
  cases hc : left p.1
  ·rfl
  ·have : p ∈ ld := by rw [S.held]; exact List.mem_filter.2 ⟨hp, by simp [hc]⟩
   rw [hl p this] at hc
   exact hc.symm
 have e : ld = ld0.filter fun p => decide (¬ p.2.1 < floor) := by
  rw [S.held]
  refine List.filter_congr fun q hq => ?_
  rw [hl0 q hq]
  simp
 refine ⟨by rw [y6a]; exact H.heard, ?_, ?_⟩
 ·rw [e, y6m]
  refine (H.held.filter _).trans ?_
  rw [List.filter_map]
  exact List.Perm.refl _
 ·intro p
  rw [S.used p, H.used p, y6m]
  constructor
  ·rintro ⟨⟨x, hx, rfl⟩, h2⟩
   refine ⟨x, List.mem_filter.2 ⟨hx, ?_⟩, rfl⟩
   simp only [decide_eq_true_eq]
   intro hlt
   have : pair x ∈ ld0 := H.held.mem_iff.2 (List.mem_map.2 ⟨x, hx, rfl⟩)
   exact h2 ⟨pair x, this, rfl, hl0 _ this, hlt⟩
  ·rintro ⟨x, hx, rfl⟩
   obtain ⟨h1, h2⟩ := List.mem_filter.1 hx
   refine ⟨⟨x, h1, rfl⟩, ?_⟩
   rintro ⟨q, _, _, _, hf⟩
   simp only [decide_eq_true_eq] at h2
   exact h2 hf
end Bk
namespace Bk
open Mp
structure St where
 number : Int
 floor : Int
 own : Int
 key : List UInt8
 order : List UInt8
 l : List It
def be (l : List UInt8) : Nat := l.foldl (fun n x => 256 * n + x.toNat) 0
theorem q7j (l : List UInt8) (x : UInt8) : be (l ++ [x]) = 256 * be l + x.toNat := by simp [be]
theorem q7i (l : List UInt8) : be l < 256 ^ l.length := by
 have : ∀ (l : List UInt8) (n B : Nat), n < B → l.foldl (fun n x => 256 * n + x.toNat) n < B * 256 ^ l.length := by
  intro l
  induction l with
  | nil => intro n B h; simpa using h
  | cons x r ih =>
   intro n B h
   have hx := x.toNat_lt
   have := ih (256 * n + x.toNat) (B * 256) (by omega)
   simp only [List.foldl_cons, List.length_cons, Nat.pow_succ]
   rw [Nat.mul_assoc] at this
   rw [Nat.mul_comm (256 ^ r.length) 256]
   exact this
 have := this l 0 1 (by omega)
 simpa [be] using this
def z0g (t : List UInt8) : Int := be ((t.drop 1).take 2)
def z0s (t : List UInt8) : Int := be ((t.drop 3).take 4)
theorem x0t {t : List UInt8} : 0 ≤ z0g t ∧ z0g t ≤ 65535 := by
 unfold z0g
 have h := q7i ((t.drop 1).take 2)
 have h2 : ((t.drop 1).take 2).length ≤ 2 := by rw [List.length_take]; omega
 have := Nat.pow_le_pow_right (n := 256) (by omega) h2
 omega
theorem x9c {t : List UInt8} : 0 ≤ z0s t ∧ z0s t ≤ 4294967295 := by
 unfold z0s
 have h := q7i ((t.drop 3).take 4)
 have h2 : ((t.drop 3).take 4).length ≤ 4 := by rw [List.length_take]; omega
 have := Nat.pow_le_pow_right (n := 256) (by omega) h2
 omega
section
variable (R : List UInt8 → List UInt8 → List UInt8 → Bool)
def St.fresh (s : St) (t : List UInt8) : It := ⟨s.number, s.own + 1, z0g t, z0s t, false⟩
def adm (s : St) (t : List UInt8) : Int × St :=
 if t.length ≠ 72 ∨ t.head? ≠ some 84 then (4, s)
 else if R s.key (t.take 8) (t.drop 8) = false then (5, s)
 else if z0g t < s.floor then (6, s)
 else if ∃ x ∈ held s.l, x.pass = (z0g t, z0s t) then (7, s)
 else if 1000 ≤ s.own then (8, s)
 else (0, { s with own := s.own + 1, l := ins (s.fresh t) s.l })
def St.raised (s : St) (t : List UInt8) : St := { s with floor := z0g t, order := t, l := s.l.map (z5e (z0g t)) }
def clo (s : St) (t : List UInt8) : Int × St :=
 if t.length ≠ 67 ∨ t.head? ≠ some 67 then (4, s)
 else if R s.key (t.take 3) (t.drop 3) = false then (5, s)
 else if z0g t ≤ s.floor then (6, s)
 else (0, s.raised t)
end
structure Fair (s : St) (x : It) : Prop where
 gate : 0 ≤ x.gate ∧ x.gate ≤ 15
 adm : 1 ≤ x.adm ∧ x.adm ≤ 1000
 epoch : 0 ≤ x.epoch ∧ x.epoch ≤ 65535
 serial : 0 ≤ x.serial ∧ x.serial ≤ 4294967295
 gone : x.gone = true → x.epoch = 0 ∧ x.serial = 0
 floor : x.gone = false → s.floor ≤ x.epoch
 own : x.gate = s.number → x.adm ≤ s.own
structure Inv (s : St) : Prop where
 number : 0 ≤ s.number ∧ s.number ≤ 15
 floor : 0 ≤ s.floor ∧ s.floor ≤ 65535
 own : 0 ≤ s.own ∧ s.own ≤ 1000
 rises : y0k s.l
 fair : ∀ x ∈ s.l, Fair s x
def St.new (n : Int) (k : List UInt8) : St := ⟨n, 0, 0, k, [], []⟩
theorem Inv.new {n : Int} {k : List UInt8} (h : 0 ≤ n ∧ n ≤ 15) : Inv (St.new n k) := ⟨h, by simp [St.new], by simp [St.new], List.Pairwise.nil, fun x hx => by simp [St.new] at hx⟩
theorem y6e {s : St} (h : Inv s) (t : List UInt8) : (s.fresh t).key ∉ s.l.map It.key := by
 intro hm
 obtain ⟨x, hx, e⟩ := List.mem_map.1 hm
 unfold It.key St.fresh at e
 injection e with e1 e2
 have := (h.fair x hx).own e1
 simp at e2
 omega
theorem Inv.y3i {s : St} (h : Inv s) {t : List UInt8} (hf : ¬ z0g t < s.floor) (ho : ¬ 1000 ≤ s.own) : Inv { s with own := s.own + 1, l := ins (s.fresh t) s.l } := by
 have h0 := h.own
 refine ⟨h.number, h.floor, ⟨by show 0 ≤ s.own + 1; omega, by show s.own + 1 ≤ 1000; omega⟩, y0x h.rises (fun y hy e => y6e h t (List.mem_map.2 ⟨y, hy, e⟩)), ?_⟩
 intro x hx
 rcases z7o.1 hx with rfl | hx
 ·exact ⟨h.number, ⟨by show 1 ≤ s.own + 1; omega, by show s.own + 1 ≤ 1000; omega⟩, x0t, x9c, fun e => absurd e (by simp [St.fresh]), fun _ => (by show s.floor ≤ z0g t; omega), fun _ => Int.le_refl _⟩
 ·have f := h.fair x hx
  exact ⟨f.gate, f.adm, f.epoch, f.serial, f.gone, f.floor, fun e => Int.le_trans (f.own e) (by show s.own ≤ s.own + 1; omega)⟩
theorem Inv.raised {s : St} (h : Inv s) (t : List UInt8) : Inv (s.raised t) := by
 refine ⟨h.number, x0t, h.own, x3l _ h.rises, ?_⟩
 intro y hy
 obtain ⟨x, hx, rfl⟩ := List.mem_map.1 hy
 have f := h.fair x hx
 unfold z5e
 split
 ·exact ⟨f.gate, f.adm, by simp, by simp, fun _ => ⟨rfl, rfl⟩, fun e => by simp at e, f.own⟩
 ·rename_i hc
  refine ⟨f.gate, f.adm, f.epoch, f.serial, f.gone, fun e => ?_, f.own⟩
  have : ¬ x.epoch < z0g t := fun hlt => hc ⟨e, hlt⟩
  show z0g t ≤ x.epoch
  omega
theorem few : ∀ (l : List Int) (lo N : Int), l.Pairwise (· < ·) → (∀ x ∈ l, lo ≤ x ∧ x < N) → lo ≤ N → (l.length : Int) ≤ N - lo
 | [], lo, N, _, _, h => by simp; omega
 | x :: r, lo, N, hp, hb, h => by
  obtain ⟨h1, h2⟩ := List.pairwise_cons.1 hp
  have hx := hb x (by simp)
  have := few r (x + 1) N h2 (fun y hy => ⟨by have := h1 y hy; omega, (hb y (by simp [hy])).2⟩) (by omega)
  simp only [List.length_cons]
  omega
theorem Inv.few {s : St} (h : Inv s) : s.l.length ≤ 16000 := by
 have h1 : (s.l.map fun x => x.gate * 1000 + x.adm).Pairwise (· < ·) := by
  rw [List.pairwise_map]
  refine h.rises.imp_of_mem ?_
  intro a b ha hb hab
  have f := h.fair a ha
  have g := h.fair b hb
  have := f.adm; have := g.adm
  unfold z1y at hab
  omega
 have := Bk.few _ 1 16001 h1 (fun x hx => by
  obtain ⟨y, hy, rfl⟩ := List.mem_map.1 hx
  have f := h.fair y hy
  have := f.adm; have := f.gate
  omega) (by omega)
 simp at this
 omega
end Bk
open Go Go.RowKit
namespace Gt
open Mp Bk
def str (l : List UInt8) : Value := .string ⟨l.toArray⟩
def Maps (S : Nat → Prop) (w : World) (vh vd vu : Value) (l : List It) : Prop :=
 (vh = .map none ∧ vd = .map none ∧ vu = .map none ∧ l = []) ∨
 ∃ bh bd bu lh ld lu, vh = .map (some bh) ∧ vd = .map (some bd) ∧ vu = .map (some bu) ∧ S bh ∧ S bd ∧ S bu ∧ bh ≠ bd ∧ bd ≠ bu ∧ bh ≠ bu ∧ Is w bh two unit lh ∧ Is w bd two two ld ∧ Is w bu two unit lu ∧ Has l lh ld lu
theorem Maps.congr {S T : Nat → Prop} {w w' : World} {vh vd vu : Value} {l : List It} (h : Maps S w vh vd vu l) (hS : ∀ k, S k → T k) (hw : ∀ k, S k → k < w.heap.size → w'.heap[k]? = w.heap[k]?) : Maps T w' vh vd vu l := by
 rcases h with h | ⟨bh, bd, bu, lh, ld, lu, e1, e2, e3, s1, s2, s3, n1, n2, n3, h1, h2, h3, H⟩
 ·exact Or.inl h
 ·exact Or.inr ⟨bh, bd, bu, lh, ld, lu, e1, e2, e3, hS _ s1, hS _ s2, hS _ s3, n1, n2, n3, h1.congr (hw _ s1 h1.lt), h2.congr (hw _ s2 h2.lt), h3.congr (hw _ s3 h3.lt), H⟩
theorem Maps.ask {S : Nat → Prop} {w : World} {vh vd vu : Value} {l : List It} (h : Maps S w vh vd vu l) : ∃ lh ld lu, V w vh two unit lh ∧ V w vd two two ld ∧ V w vu two unit lu ∧ Has l lh ld lu := by
 rcases h with ⟨rfl, rfl, rfl, rfl⟩ | ⟨bh, bd, bu, lh, ld, lu, e1, e2, e3, s1, s2, s3, n1, n2, n3, h1, h2, h3, H⟩
 ·exact ⟨[], [], [], Or.inl ⟨rfl, rfl⟩, Or.inl ⟨rfl, rfl⟩, Or.inl ⟨rfl, rfl⟩, Has.nil⟩
 ·exact ⟨lh, ld, lu, Or.inr ⟨bh, e1, h1⟩, Or.inr ⟨bd, e2, h2⟩, Or.inr ⟨bu, e3, h3⟩, H⟩
def z3h (s : St) (vh vd vu : Value) : Array Value := #[.int .i64 s.number, str s.key, .int .i64 s.own, .int .i64 s.floor, vh, vd, vu, str s.order]
def z0h (S : Nat → Prop) (w : World) (g : Nat) (s : St) : Prop :=
 S g ∧ ∃ vh vd vu, w.heap[g]? = some (.cells (z3h s vh vd vu) 143 (0, 0)) ∧ Maps S w vh vd vu s.l
theorem z0h.lt {S : Nat → Prop} {w : World} {g : Nat} {s : St} (h : z0h S w g s) : g < w.heap.size := by
 obtain ⟨_, vh, vd, vu, hg, _⟩ := h
 exact (aL hg)
theorem z0h.congr {S T : Nat → Prop} {w w' : World} {g : Nat} {s : St} (h : z0h S w g s) (hS : ∀ k, S k → T k) (hw : ∀ k, S k → k < w.heap.size → w'.heap[k]? = w.heap[k]?) : z0h T w' g s := by
 have hlt := h.lt
 obtain ⟨s1, vh, vd, vu, hg, hm⟩ := h
 exact ⟨hS _ s1, vh, vd, vu, by rw [hw g s1 hlt]; exact hg, hm.congr hS hw⟩
theorem z0h.below {S : Nat → Prop} {w w' : World} {g : Nat} {s : St} (h : z0h S w g s) (hb : Below w.heap.size w w') : z0h S w' g s := h.congr (fun _ h => h) fun k _ hk => hb.block k hk
def itC (x : It) : List Value := [.int .i64 x.gate, .int .i64 x.adm, .int .i64 x.epoch, .int .i64 x.serial, .bool x.gone]
def itL (l : List It) : List Value := l.flatMap itC
theorem q2o (l : List It) (x : It) : itL (l ++ [x]) = itL l ++ itC x := by simp [itL]
theorem flat_get {α : Type} (f : α → List Value) (m : Nat) (hf : ∀ x, (f x).length = m) : ∀ (l : List α) (i j : Nat) (x : α), l[i]? = some x → j < m → (l.flatMap f)[i * m + j]? = (f x)[j]?
 | [], i, j, x, h, _ => by simp at h
 | y :: r, 0, j, x, h, hj => by
  simp at h
  subst h
  rw [List.flatMap_cons, List.getElem?_append_left (by rw [hf]; omega)]
  simp
 | y :: r, i + 1, j, x, h, hj => by
  simp at h
  rw [List.flatMap_cons, List.getElem?_append_right (by rw [hf, Nat.add_mul]; omega), hf, show (i + 1) * m + j - m = i * m + j by rw [Nat.add_mul]; omega]
  exact flat_get f m hf r i j x h hj
def k3e (s : St) (lv : Value) (kn : Nat) : Array Value := #[.int .i64 s.number, .int .i64 s.floor, .int .i64 s.own, str s.key, str s.order, lv, .pointer (some ⟨kn, 0, none⟩)]
def k8d (S : Nat → Prop) (w : World) (g : Nat) (s : St) (kn : Nat) : Prop :=
 S g ∧ ∃ lv, w.heap[g]? = some (.cells (k3e s lv kn) 225 (0, 0)) ∧ Row S w 73 5 lv s.l.length (itL s.l)
structure x2y where
 key : List UInt8
 text : List UInt8
 sign : List UInt8
 yes : Bool
def asC (x : x2y) : List Value := [str x.key, str x.text, str x.sign]
def asL (l : List x2y) : List Value := l.flatMap asC
def j3l (l : List x2y) : List Value := l.map fun x => .bool x.yes
def KAt (R : List UInt8 → List UInt8 → List UInt8 → Bool) (S : Nat → Prop) (w : World) (kn : Nat) (ks : List x2y) : Prop :=
 S kn ∧ (∀ x ∈ ks, x.yes = R x.key x.text x.sign) ∧ ∃ lv yv, w.heap[kn]? = some (.cells #[lv, yv] 120 (0, 0)) ∧ Row S w 34 3 lv ks.length (asL ks) ∧ Row S w 4 1 yv ks.length (j3l ks)
end Gt
open Go Go.RowKit
namespace Ks
section
variable {P : Program} {ops : Array Oper} {rest : List Oper} {o : Oper} {a : Act} {w : World} {Q : Exit → Act → World → Prop}
theorem y2y {id : Nat} (h : Q .ret a w) : Exit.inBlock id Q .ret a w := h
theorem y1m (w : World) (t e : TypeId) (sz : Nat) (hu : P.underlying t = some (.slice e)) (hs : P.cellsOf e = sz) (hi0 : (P.info? e).isSome = true) (b len cap n : Nat) (hn : n < len) : (Instr.indexAt t (.slice (some ⟨b, 0, none⟩) len cap) (.int .i64 (n : Int))).run P w = .ok (.pointer (some ⟨b, n * sz, none⟩)) w := by
 obtain ⟨i, hi1⟩ := Option.isSome_iff_exists.1 hi0
 have h1 : (underlying t).run P w = .ok (.slice e) w := run_underlying hu w
 have h2 : (sizeOf e).run P w = .ok sz w := by rw [← hs]; exact run_sizeOf w hi1
 simp [Instr.indexAt, asIntOf, h1, h2, hn, Addr.add_mid]
theorem idx (hw : Region.wanted o (yielded ops a.tmps) = true) (t : TypeId) (x ix : Operand) (ho : o.op = .indexAddr t x ix) (e : TypeId) (sz : Nat) (hu : P.underlying t = some (.slice e)) (hs : P.cellsOf e = sz) (hi0 : (P.info? e).isSome = true) (b len cap n : Nat)
  (hx : a.eval x = .slice (some ⟨b, 0, none⟩) len cap) (hi : a.eval ix = .int .i64 (n : Int)) (hn : n < len) (h : wpList P ops Q rest (a.put o.dst (.pointer (some ⟨b, n * sz, none⟩))) w) : wpList P ops Q (o :: rest) a w := by
 refine y8b hw _ ?_ h
 unfold execOp
 simp only [ho, hx, hi, Sem.run_bind, Sem.run_pure, Result.andThen_ok, y1m w t e sz hu hs hi0 b len cap n hn]
theorem single (hg : o.guard = none) (t e : TypeId) (x : Operand) (ho : o.op = .buildSlice t 1 #[(0, x)]) (v z : Value) (hx : a.eval x = v) (cs : Array Value) (sz by1 : Nat) (hu : P.underlying t = some (.slice e)) (h2 : (P.info? e).map (fun i => (i.zero, i.size, i.bytes)) = some (some z, sz, by1)) (hsmall : ¬ 1 * sz > 2 ^ 24) (hpos : ¬ 1 * sz = 0)
  (hf : Instr.fill (fun i => some (i * sz, sz)) ((Array.range (1 * sz)).map (z.cells[· % z.cells.size]!)) [(0, v)] = some cs)
  (h : ∀ w' b, Hid (b = w.heap.size) → Hid (w'.heap[b]? = some (.cells cs e (0, 0))) → Hid (Below w.heap.size w w') → wpList P ops Q rest (a.put o.dst (.slice (some ⟨b, 0, none⟩) 1 1)) w') : wpList P ops Q (o :: rest) a w := by
 refine wpList_plain hg fun K hK => ?_
 obtain ⟨i, hi, hz0, hz1, hz2⟩ := info_parts h2
 subst hz1
 have hr := run_buildSlice (P := P) w t e 1 #[(0, v)] cs i z hu hi hz0 hsmall hpos hf
 unfold Oper.wp execOp
 simp only [ho, hx, List.map_toArray, List.map_cons, List.map_nil, Sem.run_bind, Sem.run_pure, Result.andThen_ok, hr]
 exact hK _ _ (h _ _ rfl (heap_alloc_new _ _) ((Below.refl _ _).alloc (Nat.le_refl _) _))
end
end Ks
theorem Row.range {α : Type} {f : α → List Value} {m : Nat} (hf : ∀ x, (f x).length = m) {w : World} {g n : Nat} {cur : Array Value} {e : TypeId} {l : List α} (hg : w.heap[g]? = some (.cells cur e (0, 0))) (ht : cur.toList.take (n * m) = l.flatMap f) {i : Nat} {x : α} (hx : l[i]? = some x) : w.rangeAt g (i * m) (f x) := fun j v hv => by
 have hj : j < m := by
  have := (lL hv)
  rwa [hf] at this
 refine Row.cell hg ht (j := i * m + j) ?_
 rw [Gt.flat_get f m hf l i j x hx hj]
 exact hv
open Go Go.RowKit
theorem x2h {cs : Array Value} {i : Nat} {x : Value} (h : cs[i]? = some x) : cs.setIfInBounds i x = cs := by
 apply Array.ext_getElem?
 intro j
 rw [Array.getElem?_setIfInBounds]
 split
 ·rename_i e
  subst e
  rw [h]
  simp [(aL h)]
 ·rfl
theorem Row.other {S : Nat → Prop} {w w' : World} {e : TypeId} {size : Nat} {v : Value} {n : Nat} {xs : List Value} (h : Row S w e size v n xs) {bs : Nat} (hne : v.ownBlock ≠ some bs) (hw : ∀ k, k ≠ bs → w'.heap[k]? = w.heap[k]?) : Row S w' e size v n xs := h.congr fun b hb => hw b fun e => hne (e ▸ hb)
theorem z2e {S : Nat → Prop} {w : World} {e t : TypeId} {size : Nat} {v : Value} {n : Nat} {xs : List Value} (h : Row S w e size v n xs) {bs : Nat} {cs : Array Value} {fr : Nat × Nat} (hb : w.heap[bs]? = some (.cells cs t fr)) (hne : e ≠ t) : v.ownBlock ≠ some bs := fun e' => by
 rcases h.1.2 with ⟨rfl, _⟩ | ⟨g, cap, cur, rfl, _, hgb, _⟩
 ·cases e'
 ·have e2 : g = bs := Option.some.inj e'
  rw [e2, hb] at hgb
  cases hgb
  exact hne rfl
theorem Row.blk {S : Nat → Prop} {w : World} {e : TypeId} {sz : Nat} {v : Value} {n : Nat} {xs : List Value} (h : Row S w e sz v n xs) {b : Nat} (hb : v.ownBlock = some b) : ∃ cur, w.heap[b]? = some (.cells cur e (0, 0)) := by
 rcases h.1.2 with ⟨rfl, _⟩ | ⟨g, cap, cur, rfl, _, hg, _⟩
 ·cases hb
 ·have e' : g = b := Option.some.inj hb
  exact ⟨cur, e' ▸ hg⟩
theorem Row.one {S : Nat → Prop} {w : World} {e : TypeId} {sz : Nat} {v : Value} {n : Nat} {xs : List Value} (h : Row S w e sz v n xs) : v.oneCell' = true := by
 rcases h.1.2 with ⟨rfl, _⟩ | ⟨g, cap, cur, rfl, _⟩ <;> rfl
theorem Row.self {S : Nat → Prop} {w : World} {e : TypeId} {sz : Nat} {v : Value} {n : Nat} {xs : List Value} (h : Row S w e sz v n xs) : Row (fun k => v.ownBlock = some k) w e sz v n xs := ⟨h.1, fun _ hb => hb⟩
theorem z1v {w w' : World} {b o B : Nat} {cs : List Value} (h : w.rangeAt b o cs) (hb : Below B w w') (hlt : b < B) : w'.rangeAt b o cs := fun j v hv => by
 rw [hb.cell (by exact hlt)]
 exact h j v hv
namespace Ks
theorem push {P : Program} {ops : Array Oper} {rest : List Oper} {o1 o2 : Oper} {a : Act} {w : World} {Q : Exit → Act → World → Prop} (hg1 : o1.guard = none) (hg2 : o2.guard = none) (t e : TypeId) (x s y : Operand) (ho1 : o1.op = .buildSlice t 1 #[(0, x)]) (ho2 : o2.op = .call { callee := .builtin .append, args := #[s, y], argTypes := #[t, t] }) (v z : Value) (hx : a.eval x = v) (cs : Array Value) (sz by1 : Nat) (hu : P.underlying t = some (.slice e)) (h2 : (P.info? e).map (fun i => (i.zero, i.size, i.bytes)) = some (some z, sz, by1)) (hsmall : ¬ 1 * sz > 2 ^ 24) (hpos : ¬ 1 * sz = 0)
  (hf : Instr.fill (fun i => some (i * sz, sz)) ((Array.range (1 * sz)).map (z.cells[· % z.cells.size]!)) [(0, v)] = some cs) (hzs : z.cells.size = sz) (hby : by1 ≤ 4096) (S : Nat → Prop) (sv : Value) (n : Nat) (xs : List Value) (hs : ∀ u, (a.put o1.dst u).eval s = sv) (hy : ∀ b, (a.put o1.dst (.slice (some ⟨b, 0, none⟩) 1 1)).eval y = .slice (some ⟨b, 0, none⟩) 1 1) (hrow : Row S w e sz sv n xs) (hl : cs.size = sz) (h1 : ∀ c ∈ cs.toList, c.oneCell' = true) (hn : n ≤ 29999999999)
  (h : ∀ u sv' w', Row (fun k => S k ∨ w.heap.size ≤ k) w' e sz sv' (n + 1) (xs ++ cs.toList) → Fr (fun k => sv.ownBlock = some k) w.heap.size w w' → wpList P ops Q rest ((a.put o1.dst u).put o2.dst sv') w') : wpList P ops Q (o1 :: o2 :: rest) a w := by
 refine single hg1 t e x ho1 v z hx cs sz by1 hu h2 hsmall hpos hf ?_
 intro w1 b Hb HO HB
 have hr1 : Row S w1 e sz sv n xs := hrow.below HB.out (Nat.le_refl _)
 refine q7h hg2 s y t ho2 e z sz by1 hu h2 hzs (by omega) hby S sv n xs (hs _) hr1 1 b 1 cs.toList (hy b) (fun j c hc => (cell_of_row w1 b j _ _ _ HO.out).trans (by simpa using hc)) (by simpa using hl) h1 (by omega) ?_
 intro sv' w2 hrow2 hgr
 refine h _ sv' w2 (hrow2.mono fun k hk => hk.elim Or.inl fun e => Or.inr (by rw [e]; exact HB.out.size)) ?_
 exact (Fr.z0z HB.out (Nat.le_refl _)).trans ((Fr.refl _ _ _).grown hgr HB.out.size fun k hk => Or.inl hk)
end Ks
open Go Go.RowKit
namespace Gt
open Mp Bk
theorem q9p {l : List Field} {a b : String × TypeId × Nat} (h : l.map (fun f => (f.name, f.type, f.offset)) = [a, b]) : ∃ f g : Field, l = [f, g] ∧ (f.name, f.type, f.offset) = a ∧ (g.name, g.type, g.offset) = b := by
 match l, h with
 | [], h => simp at h
 | [f], h => simp at h
 | [f, g], h =>
  simp only [List.map_cons, List.map_nil, List.cons.injEq, and_true] at h
  exact ⟨f, g, rfl, h.1, h.2⟩
 | f :: g :: k :: r, h => simp at h
set_option maxRecDepth 100000 in
theorem q5n {t : TypeId} {n m : String} (hf : (Tryz.prog.fieldsOf t).toList.map (fun f => (f.name, f.type, f.offset)) = [(n, 3, 0), (m, 3, 1)]) (hn : n ≠ "_") (hm : m ≠ "_") (ht : Tryz.prog.underlying t = some (.struct (Tryz.prog.fieldsOf t))) (hp : Tryz.prog.stoodInHeld t = false) (w : World) (a b : Int × Int) :
  (Op.equal t (two a) (two b)).run Tryz.prog w = .ok (decide (a = b)) w := by
 obtain ⟨f, g, hl, h1, h2⟩ := q9p hf
 injection h1 with f1 h1
 injection h1 with f2 f3
 injection h2 with g1 h2
 injection h2 with g2 g3
 have hs := run_equalIn_struct (P := Tryz.prog) w 9999 t #[.int .i64 a.1, .int .i64 a.2] #[.int .i64 b.1, .int .i64 b.2] ht hp
 have p1 := fun x y : Int => run_part_plain (P := Tryz.prog) w (e := 3) (xs := #[.int .i64 x, .int .i64 y]) (off := 0) (v := .int .i64 x) (by kernel_rfl) rfl
 have p2 := fun x y : Int => run_part_plain (P := Tryz.prog) w (e := 3) (xs := #[.int .i64 x, .int .i64 y]) (off := 1) (v := .int .i64 y) (by kernel_rfl) rfl
 have e3 : ∀ x y : Int, (Op.equalIn 9999 3 (.int .i64 x) (.int .i64 y)).run Tryz.prog w = .ok (x == y) w := fun x y => run_equalIn_int (P := Tryz.prog) (w := w) 9998 3 .i64 .i64 x y Tryz.underlying3
 unfold Op.equal two
 show (Op.equalIn (9999 + 1) t _ _).run _ w = _
 rw [hs, hl]
 simp only [Op.eqFields, f1, g1, f2, g2, f3, g3, ne_eq, hn, hm, not_false_eq_true, if_true, Sem.run_bind, p1, e3, Result.andThen_ok]
 by_cases h1 : a.1 = b.1
 ·by_cases h2 : a.2 = b.2
  ·have : a = b := Prod.ext h1 h2
   simp [this, p2, e3]
  ·have : a ≠ b := fun e => h2 (by rw [e])
   simp [h1, h2, this, p2, e3]
 ·have : a ≠ b := fun e => h1 (by rw [e])
  simp [h1, this]
theorem y7t (w : World) (a : Int × Int) : (Instr.keyThatStays (two a) (two a)).run Tryz.prog w = .ok (two a) w := by
 simp [Instr.keyThatStays, Instr.sameBits, two]
theorem k2h : x0h Tryz.prog 154 two where
 und := ⟨_, Tryz.underlying154, fun _ _ => rfl⟩
 eq := q5n (n := "Gate") (m := "Number") (by kernel_rfl) (by decide) (by decide) (by kernel_rfl) (by kernel_rfl)
 inj := y1v
 check := fun w em a => by
  unfold two
  kernel_rfl
 stays := y7t
theorem q3l : x0h Tryz.prog 150 two where
 und := ⟨_, Tryz.underlying150, fun _ _ => rfl⟩
 eq := q5n (n := "Epoch") (m := "Serial") (by kernel_rfl) (by decide) (by decide) (by kernel_rfl) (by kernel_rfl)
 inj := y1v
 check := fun w em a => by
  unfold two
  kernel_rfl
 stays := y7t
theorem z6d : Tryz.prog.underlying 137 = some (.map 154 194) := by kernel_rfl
theorem z7e : Tryz.prog.underlying 138 = some (.map 154 150) := by kernel_rfl
theorem x4x : Tryz.prog.underlying 139 = some (.map 150 194) := by kernel_rfl
theorem y7z (w : World) : (zeroValue 194).run Tryz.prog w = .ok (.agg #[]) w := by kernel_rfl
theorem q0d (w : World) : (zeroValue 150).run Tryz.prog w = .ok (two (0, 0)) w := by
 unfold two
 kernel_rfl
end Gt
open Go Go.RowKit
namespace Gt
open Mp Bk
theorem z0c {w : World} {g : Nat} {cs : Array Value} {T : TypeId} (h : w.heap[g]? = some (.cells cs T (0, 0))) (j : Nat) {v : Value} (hv : cs[j]? = some v) : w.cell? ⟨g, j, none⟩ = some v := cell_of_row w g j _ _ _ h ▸ hv
theorem z4h {P : Program} {ty : TypeId} {d : TypeDesc} (hu : P.underlying ty = some d) (hd : d.isRow = false) {w : World} {b off : Nat} {v : Value} (h : w.cell? ⟨b, off, none⟩ = some v) : (loadVar ty ⟨b, off, none⟩).run P w = .ok v w := by
 have h1 := run_underlying hu w
 cases d <;> simp [TypeDesc.isRow] at hd <;> simp [loadVar, isAgg, go_sem, h, h1]
theorem z5f {P : Program} {W : World} {K : Act → Prop} {l : List Oper} {o : Oper} {a : Act} (hg : o.guard = none) (ty : TypeId) (x : Operand) (ho : o.op = .load ty x) {d : TypeDesc} (hu : P.underlying ty = some d) (hd : d.isRow = false) (b off : Nat) (v : Value) (hx : a.eval x = .pointer (some ⟨b, off, none⟩)) (hb : b < W.heap.size) (hc : W.cell? ⟨b, off, none⟩ = some v)
  (h : Qt.Lex P W K l (a.put o.dst v)) : Qt.Lex P W K (o :: l) a := by
 refine Qt.z0b hg v (fun w' hw' => ?_) h
 have h1 := z4h hu hd (w := w') (b := b) (off := off) (v := v) (by rw [hw'.cell (by exact hb)]; exact hc)
 unfold execOp
 simp only [ho, hx, Instr.loadAt, Instr.sureAddr, Sem.run_bind, Sem.run_pure, Result.andThen_ok, h1]
theorem q0c {P : Program} {W : World} {K : Act → Prop} {l : List Oper} {o : Oper} {a : Act} (hg : o.guard = none) (m x : Operand) (t : TypeId) (ho : o.op = Op.lookup t m x true) {k e : TypeId} {α β : Type} [DecidableEq α] {ke : α → Value} {ve : β → Value} (Kp : x0h P k ke) (ht : P.underlying t = some (.map k e))
  {z : Value} (hz : ∀ w, (zeroValue e).run P w = .ok z w) {ls : List (α × β)} {mv : Value} (hm : a.eval m = mv) (hV : V W mv ke ve ls) (c : α) (hx : a.eval x = ke c)
  (h : Qt.Lex P W K l (a.put o.dst (.tuple #[((at? c ls).map ve).getD z, .bool (at? c ls).isSome]))) : Qt.Lex P W K (o :: l) a := by
 refine Qt.z0b hg _ (fun w' hw' => ?_) h
 have hV' : V w' mv ke ve ls := by
  rcases hV with h1 | ⟨b, e1, h1⟩
  ·exact Or.inl h1
  ·exact Or.inr ⟨b, e1, h1.congr (hw'.block b h1.lt)⟩
 have h1 := k5j Kp ht hV' c (hz w')
 unfold execOp
 simp only [ho, hm, hx, h1, Sem.run_bind, Result.andThen_ok]
 rfl
theorem z8p {S : Nat → Prop} {w : World} {g : Nat} {s : St} (h : z0h S w g s) : Calls Tryz.prog 75 #[.pointer (some ⟨g, 3, none⟩)] w fun e w' => e = .returned (.int .i64 s.floor) ∧ Below w.heap.size w w' := by
 obtain ⟨_, vh, vd, vu, hg, _⟩ := h
 have hc : w.cell? ⟨g, 3, none⟩ = some (.int .i64 s.floor) := z0c hg 3 rfl
 clear hg
 go_enter Tryz.func75, Tryz.ntmps75
 go_wp2
 go_ret
 exact ⟨rfl, Below.refl _ _⟩
theorem q8w {S : Nat → Prop} {w : World} {g : Nat} {s : St} (h : z0h S w g s) : Calls Tryz.prog 136 #[.pointer (some ⟨g, 3, none⟩)] w fun e w' => e = .returned (.int .i64 s.l.length) ∧ Below w.heap.size w w' := by
 obtain ⟨_, vh, vd, vu, hg, hm⟩ := h
 have hc : w.cell? ⟨g, 4, none⟩ = some vh := z0c hg 4 rfl
 clear hg
 obtain ⟨lh, ld, lu, V1, V2, V3, H⟩ := hm.ask
 have e := H.len
 clear H V2 V3 hm
 go_enter Tryz.func136, Tryz.ntmps136
 go_wp2_with (first | (at_len; refine z8z _ rfl _ _ rfl z6d rfl V1 ?_))
 go_ret
 exact ⟨rfl, Below.refl _ _⟩
theorem k4v {S : Nat → Prop} {w : World} {g : Nat} {s : St} (h : z0h S w g s) : Calls Tryz.prog 137 #[.pointer (some ⟨g, 3, none⟩)] w fun e w' => e = .returned (.int .i64 (held s.l).length) ∧ Below w.heap.size w w' := by
 obtain ⟨_, vh, vd, vu, hg, hm⟩ := h
 have hc : w.cell? ⟨g, 5, none⟩ = some vd := z0c hg 5 rfl
 clear hg
 obtain ⟨lh, ld, lu, V1, V2, V3, H⟩ := hm.ask
 have e := H.j0u
 clear H V1 V3 hm
 go_enter Tryz.func137, Tryz.ntmps137
 go_wp2_with (first | (at_len; refine z8z _ rfl _ _ rfl z7e rfl V2 ?_))
 go_ret
 exact ⟨rfl, Below.refl _ _⟩
theorem x2v (o : Option Unit) : (o.map unit).getD (.agg #[]) = .agg #[] := by cases o <;> rfl
theorem k7f {S : Nat → Prop} {w : World} {g : Nat} {s : St} (h : z0h S w g s) (p : Int × Int) : Calls Tryz.prog 78 #[.pointer (some ⟨g, 3, none⟩), two p] w fun e w' => e = .returned (.bool (decide (∃ x ∈ held s.l, x.pass = p))) ∧ Below w.heap.size w w' := by
 obtain ⟨_, vh, vd, vu, hg, hm⟩ := h
 have hc : w.cell? ⟨g, 6, none⟩ = some vu := z0c hg 6 rfl
 have hgl := (aL hg)
 clear hg
 obtain ⟨lh, ld, lu, V1, V2, V3, H⟩ := hm.ask
 have e : Hid _ := H.j3k p
 clear H V1 V2 hm
 have HB : Hid (Below w.heap.size w (w.alloc (.cells #[.int .i64 p.1, .int .i64 p.2] 150))) := (Below.refl _ _).alloc (Nat.le_refl _) _
 have HP : Hid ((w.alloc (.cells #[.int .i64 p.1, .int .i64 p.2] 150)).heap[w.heap.size]? = some (.cells #[.int .i64 p.1, .int .i64 p.2] 150 (0, 0))) := heap_alloc_new _ _
 have HV : Hid (V (w.alloc (.cells #[.int .i64 p.1, .int .i64 p.2] 150)) vu two unit lu) := by
  rcases V3 with h1 | ⟨b, e1, h1⟩
  ·exact Or.inl h1
  ·exact Or.inr ⟨b, e1, h1.congr (HB.out.block b h1.lt)⟩
 have HC : Hid ((w.alloc (.cells #[.int .i64 p.1, .int .i64 p.2] 150)).cell? ⟨g, 6, none⟩ = some vu) := by
  show _ = _
  rw [HB.out.cell (by exact hgl)]
  exact hc
 have hG : Hid (g < (w.alloc (.cells #[.int .i64 p.1, .int .i64 p.2] 150)).heap.size) := Nat.lt_of_lt_of_le hgl HB.out.size
 unfold two
 go_enter Tryz.func78, Tryz.ntmps78
 go_wp2
 generalize World.alloc _ _ = w1 at *
 refine Qt.z9a 9 (by kernel_rfl) (by kernel_rfl) _ _ rfl rfl 194 rfl #[] (by kernel_rfl) _ _ rfl #[] (by kernel_rfl) rfl (by simp) ?_
 simp only [List.take_succ_cons, List.take_zero]
 refine Qt.z0b rfl (.pointer (some ⟨g, 3, none⟩)) (fun _ _ => by kernel_rfl) ?_
 refine Qt.z0b rfl (.pointer (some ⟨g, 3, none⟩)) (fun _ _ => by kernel_rfl) ?_
 refine Qt.z0b rfl (.pointer (some ⟨g, 6, none⟩)) (fun _ _ => by kernel_rfl) ?_
 simp only [zD]
 refine z5f rfl _ _ rfl x4x rfl g 6 vu rfl hG.out HC.out ?_
 simp only [zD]
 refine Qt.z7g rfl _ _ rfl _ rfl _ _ _ _ HP.out Tryz.underlying150 rfl (by kernel_rfl) ?_
 simp only [zD]
 refine q0c rfl _ _ _ rfl q3l x4x y7z rfl HV.out p rfl ?_
 rw [e.out, x2v]
 simp only [zD]
 refine Qt.z0b rfl (.tuple #[.agg #[], .bool (decide (∃ x ∈ held s.l, x.pass = p))]) (fun _ _ => by kernel_rfl) ?_
 refine Qt.z0b rfl (.agg #[]) (fun _ _ => by kernel_rfl) ?_
 refine Qt.z0b rfl (.bool (decide (∃ x ∈ held s.l, x.pass = p))) (fun _ _ => by kernel_rfl) ?_
 simp only [zD]
 refine Qt.z1a ⟨fun _ => rfl, fun _ => rfl, ?_⟩
 intro b w2 _ _ hb2
 have HB2 : Hid (Below w.heap.size w w2) := HB.out.trans (hb2.mono HB.out.size)
 clear hb2
 simp only [List.setIfInBounds_toArray, List.set_cons_zero, List.set_cons_succ]
 go_wp2
 go_ret
 exact ⟨rfl, HB2.out⟩
end Gt
end Go.Proofs.YtbojijefenfbgaaGreatDoor

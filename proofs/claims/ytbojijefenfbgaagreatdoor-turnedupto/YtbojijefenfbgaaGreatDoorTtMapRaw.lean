/- Maps told as lists of pairs: look-up, store, deletion, length and ranging, for keys whose equality is known. What a call may change: blocks of a set, and those that are new. Slices that lie in blocks of a set. One operation, one law: the world behind it a new name, with what is known of it. -/
import Derived.Test.YtbojijefenfbgaaGreatDoorTtShort
import Derived.Maps.RangeWalk
import Derived.Maps.OwnSet
import Derived.Laws.AppendOwn
import Derived.OwnWalk
import Derived.Below
import Derived.Laws.Tables
import Derived.Maps.AppendAt
import Derived.Test.YtbojijefenfbgaaGreatDoorTtOwn
import Derived.Great.Ranges
namespace Go.Proofs.YtbojijefenfbgaaGreatDoor
open Go.RowKit Go.ChangeMaps
namespace Mp
variable {α β : Type} [DecidableEq α]
structure x0h (P : Program) (k : TypeId) (ke : α → Value) : Prop where
 und : ∃ d, P.underlying k = some d ∧ ∀ a b, Instr.sameNow d (ke a) (ke b) = none
 eq : ∀ (w : World) (a b : α), (Op.equal k (ke a) (ke b)).run P w = .ok (decide (a = b)) w
 inj : ∀ a b, ke a = ke b → a = b
 check : ∀ (w : World) (em : Bool) (a : α), (Instr.checkKey em 10000 k (ke a)).run P w = .ok () w
 stays : ∀ (w : World) (a : α), (Instr.keyThatStays (ke a) (ke a)).run P w = .ok (ke a) w
structure k7o (ke : α → Value) (ve : β → Value) (es : Array MapEntry) (clock : Nat) (l : List (α × β)) : Prop where
 read : es.toList.map (fun e => (e.key, e.val)) = l.map (fun p => (ke p.1, ve p.2))
 keys : (l.map Prod.fst).Nodup
 born : (es.toList.map (·.born)).Nodup
 old : ∀ e ∈ es.toList, e.born < clock
def Is (w : World) (b : Nat) (ke : α → Value) (ve : β → Value) (l : List (α × β)) : Prop :=
 ∃ es clock, w.heap[b]? = some (.map es clock) ∧ k7o ke ve es clock l
def get (a : α) : List (α × β) → Option (Nat × β)
 | [] => none
 | p :: r => if a = p.1 then some (0, p.2) else (get a r).map fun x => (x.1 + 1, x.2)
theorem x0v {P : Program} {k : TypeId} {ke : α → Value} {ve : β → Value} (K : x0h P k ke) (w : World) (a : α) : ∀ (es : List MapEntry) (l : List (α × β)) (i : Nat),
  es.map (fun e => (e.key, e.val)) = l.map (fun p => (ke p.1, ve p.2)) →
  (Instr.findAsking k (ke a) es i).run P w = .ok ((get a l).map fun x => (x.1 + i, ve x.2)) w
 | [], [], i, _ => by simp [Instr.findAsking, get]
 | [], p :: r, i, h => by simp at h
 | e :: es, [], i, h => by simp at h
 | e :: es, p :: r, i, h => by
  simp only [List.map_cons, List.cons.injEq, Prod.mk.injEq] at h
  obtain ⟨⟨h1, h2⟩, h3⟩ := h
  simp only [Instr.findAsking, Sem.run_bind, h1, K.eq, Result.andThen, decide_eq_true_eq, get]
  by_cases hp : a = p.1
  ·simp [hp, h2]
  ·simp only [hp, if_false]
   rw [x0v K w a es r (i + 1) h3]
   cases get a r <;> simp
   omega
theorem z5h {P : Program} {k : TypeId} {ke : α → Value} {ve : β → Value} (K : x0h P k ke) (w : World) (a : α) (es : List MapEntry) (l : List (α × β))
  (h : es.map (fun e => (e.key, e.val)) = l.map (fun p => (ke p.1, ve p.2))) :
  (Instr.findKey k (ke a) es).run P w = .ok ((get a l).map fun x => (x.1, ve x.2)) w := by
 obtain ⟨d, hd, hn⟩ := K.und
 unfold Instr.findKey
 simp only [Sem.run_bind, run_underlying hd, Result.andThen]
 cases es with
 | nil =>
  cases l with
  | nil => simp [Instr.findNow, get]
  | cons p r => simp at h
 | cons e es =>
  cases l with
  | nil => simp at h
  | cons p r =>
   have h1 : e.key = ke p.1 := by simp at h; exact h.1.1
   simp only [Instr.findNow, h1, hn]
   rw [x0v K w a (e :: es) (p :: r) 0 h]
   simp
theorem get_none {a : α} : ∀ {l : List (α × β)}, get a l = none ↔ ∀ p ∈ l, p.1 ≠ a
 | [] => by simp [get]
 | p :: r => by
  unfold get
  by_cases h : a = p.1
  ·simp [h]
  ·simp only [h, if_false, Option.map_eq_none_iff, get_none (l := r), List.mem_cons]
   constructor
   ·rintro h1 q (rfl | hq)
    ·exact fun e => h e.symm
    ·exact h1 q hq
   ·exact fun h1 q hq => h1 q (Or.inr hq)
theorem get_some {a : α} {i : Nat} {v : β} : ∀ {l : List (α × β)}, get a l = some (i, v) → l[i]? = some (a, v)
 | [], h => by simp [get] at h
 | p :: r, h => by
  unfold get at h
  by_cases hp : a = p.1
  ·simp [hp] at h
   obtain ⟨rfl, rfl⟩ := h
   simp [hp]
  ·simp only [hp, if_false, Option.map_eq_some_iff] at h
   obtain ⟨⟨j, u⟩, h1, h2⟩ := h
   simp at h2
   obtain ⟨rfl, rfl⟩ := h2
   simpa using get_some h1
def at? (a : α) (l : List (α × β)) : Option β := (get a l).map Prod.snd
theorem y3m {a : α} {l : List (α × β)} : at? a l = none ↔ ∀ p ∈ l, p.1 ≠ a := by unfold at?; rw [Option.map_eq_none_iff, get_none]
theorem x5l {a : α} {v : β} {l : List (α × β)} (h : at? a l = some v) : (a, v) ∈ l := by
 unfold at? at h
 rw [Option.map_eq_some_iff] at h
 obtain ⟨⟨i, u⟩, h1, rfl⟩ := h
 exact List.mem_of_getElem? (get_some h1)
theorem z4o {γ δ : Type} {f : γ → δ} {l : List γ} (hn : (l.map f).Nodup) {i j : Nat} {x y : γ} (hi : l[i]? = some x) (hj : l[j]? = some y) (e : f x = f y) : i = j := by
 obtain ⟨hil, hi⟩ := List.getElem?_eq_some_iff.1 hi
 obtain ⟨hjl, hj⟩ := List.getElem?_eq_some_iff.1 hj
 have hp := List.pairwise_iff_getElem.1 (List.pairwise_map.1 hn)
 rcases Nat.lt_trichotomy i j with h | h | h
 ·exact absurd (by rw [hi, hj]; exact e) (hp i j hil hjl h)
 ·exact h
 ·exact absurd (by rw [hi, hj]; exact e.symm) (hp j i hjl hil h)
theorem x3f {a : α} {v : β} {l : List (α × β)} (hn : (l.map Prod.fst).Nodup) (h : (a, v) ∈ l) : at? a l = some v := by
 cases hc : at? a l with
 | none => exact absurd rfl (y3m.1 hc _ h)
 | some u =>
  obtain ⟨i, hi⟩ := List.mem_iff_getElem?.1 (x5l hc)
  obtain ⟨j, hj⟩ := List.mem_iff_getElem?.1 h
  obtain rfl := z4o hn hi hj rfl
  rw [hi] at hj
  injection hj with hj
  injection hj with _ hj
  rw [hj]
theorem q2t {P : Program} {k t e : TypeId} {ke : α → Value} {ve : β → Value} (K : x0h P k ke) (ht : P.underlying t = some (.map k e)) {w : World} {b : Nat} {l : List (α × β)} (h : Is w b ke ve l) (a : α)
  {z : Value} (hz : (zeroValue e).run P w = .ok z w) :
  (Instr.lookup t (.map (some b)) (ke a) true).run P w = .ok (.tuple #[((at? a l).map ve).getD z, .bool (at? a l).isSome]) w := by
 obtain ⟨es, clock, hb, E⟩ := h
 unfold Instr.lookup
 simp only [Sem.run_bind, run_underlying ht, Result.andThen, MapKept.run_getObj_map hb, Sem.run_pure, K.check, z5h K w a es.toList l E.read]
 unfold at?
 cases get a l with
 | none => simp [hz]
 | some x => simp
theorem look_nil {P : Program} {k t e : TypeId} {ke : α → Value} (K : x0h P k ke) (ht : P.underlying t = some (.map k e)) (w : World) (a : α)
  {z : Value} (hz : (zeroValue e).run P w = .ok z w) :
  (Instr.lookup t (.map none) (ke a) true).run P w = .ok (.tuple #[z, .bool false]) w := by
 unfold Instr.lookup
 have := z5h (ve := fun x : Unit => .bool true) K w a [] [] rfl
 simp only [Sem.run_bind, run_underlying ht, Result.andThen, Sem.run_pure, K.check, this, get, hz, Option.map_none]
 simp
omit [DecidableEq α] in
theorem q9i {P : Program} {k t e : TypeId} {ke : α → Value} {ve : β → Value} (ht : P.underlying t = some (.map k e)) {w : World} {b : Nat} {l : List (α × β)} (h : Is w b ke ve l) (ty : TypeId) :
  (Builtin.len_ #[t] ty #[.map (some b)]).run P w = .ok (.int .i64 l.length) w := by
 obtain ⟨es, clock, hb, E⟩ := h
 have hs : es.size = l.length := by simpa using congrArg List.length E.read
 simp [Builtin.len_, run_underlying ht, MapKept.run_getObj_map hb, goInt, Result.andThen, hs]
def put (a : α) (v : β) (l : List (α × β)) : List (α × β) :=
 match get a l with
 | some (i, _) => l.set i (a, v)
 | none => l ++ [(a, v)]
theorem q3x {a : α} {v : β} {l : List (α × β)} (hn : (l.map Prod.fst).Nodup) : ((put a v l).map Prod.fst).Nodup := by
 unfold put
 split
 ·rename_i i u h
  have hi := get_some h
  have : (l.set i (a, v)).map Prod.fst = l.map Prod.fst := by
   rw [List.map_set]
   apply List.ext_getElem?
   intro j
   by_cases hj : j = i
   ·subst hj
    obtain ⟨hlt, _⟩ := List.getElem?_eq_some_iff.1 hi
    rw [List.getElem?_set_self (by simpa using hlt), List.getElem?_map, hi]
    rfl
   ·rw [List.getElem?_set_ne (fun e => hj e.symm)]
  rw [this]; exact hn
 ·rename_i h
  have := get_none.1 h
  rw [List.map_append, List.nodup_append]
  refine ⟨hn, by simp, ?_⟩
  intro x hx y hy
  obtain ⟨p, hp, rfl⟩ := List.mem_map.1 hx
  simp at hy
  subst hy
  exact this p hp
theorem y4e {a : α} {v : β} {l : List (α × β)} (hn : (l.map Prod.fst).Nodup) (p : α × β) : p ∈ put a v l ↔ p = (a, v) ∨ (p ∈ l ∧ p.1 ≠ a) := by
 unfold put
 split
 ·rename_i i u h
  have hi := get_some h
  obtain ⟨hlt, hie⟩ := List.getElem?_eq_some_iff.1 hi
  rw [List.mem_iff_getElem?]
  constructor
  ·rintro ⟨j, hj⟩
   by_cases e : j = i
   ·subst e
    rw [List.getElem?_set_self hlt] at hj
    exact Or.inl (by injection hj with hj; exact hj.symm)
   ·rw [List.getElem?_set_ne (fun x => e x.symm)] at hj
    refine Or.inr ⟨List.mem_of_getElem? hj, fun e2 => e ?_⟩
    exact z4o hn hj hi e2
  ·rintro (rfl | ⟨hp, hne⟩)
   ·exact ⟨i, List.getElem?_set_self hlt⟩
   ·obtain ⟨j, hj⟩ := List.mem_iff_getElem?.1 hp
    refine ⟨j, ?_⟩
    rw [List.getElem?_set_ne]
    ·exact hj
    ·rintro rfl
     rw [hi] at hj
     injection hj with hj
     exact hne (by rw [← hj])
 ·rename_i h
  have := get_none.1 h
  simp only [List.mem_append, List.mem_singleton]
  constructor
  ·rintro (h1 | rfl)
   ·exact Or.inr ⟨h1, this p h1⟩
   ·exact Or.inl rfl
  ·rintro (rfl | ⟨h1, _⟩)
   ·exact Or.inr rfl
   ·exact Or.inl h1
theorem y9h {a : α} {v : β} {l : List (α × β)} (h : ∀ p ∈ l, p.1 ≠ a) : put a v l = l ++ [(a, v)] := by
 unfold put
 rw [get_none.2 h]
theorem k0x {P : Program} {k t e : TypeId} {ke : α → Value} {ve : β → Value} (K : x0h P k ke) (ht : P.underlying t = some (.map k e)) {w : World} {b : Nat} {l : List (α × β)} (h : Is w b ke ve l) (a : α) (v : β) :
  ∃ w', (Instr.mapUpdate t (.map (some b)) (ke a) (ve v)).run P w = .ok () w' ∧ Is w' b ke ve (put a v l) ∧ w.mapTurned w' b := by
 obtain ⟨es, clock, hb, E⟩ := h
 have hs : es.size = l.length := by simpa using congrArg List.length E.read
 unfold Instr.mapUpdate
 simp only [Sem.run_bind, run_underlying ht, Result.andThen, MapKept.run_getObj_map hb, K.check, z5h K w a es.toList l E.read]
 have hk := q3x (a := a) (v := v) E.keys
 unfold put at hk ⊢
 cases hg : get a l with
 | none =>
  simp only [hg, Option.map_none] at hk ⊢
  refine ⟨_, MapKept.run_setObj_map _ hb, ⟨_, _, heap_setBlock_same hb _, ?_, hk, ?_, ?_⟩, ⟨_, _, _, _, hb, rfl⟩⟩
  ·simp [E.read]
  ·rw [Array.toList_push, List.map_append, List.nodup_append]
   refine ⟨E.born, by simp, ?_⟩
   intro x hx y hy
   obtain ⟨e0, he, rfl⟩ := List.mem_map.1 hx
   simp at hy
   subst hy
   have := E.old e0 he
   omega
  ·intro e0 he
   simp at he
   rcases he with he | rfl
   ·have := E.old e0 (by simpa using he); omega
   ·simp
 | some x =>
  obtain ⟨i, u⟩ := x
  have hi := get_some hg
  obtain ⟨hlt, hie⟩ := List.getElem?_eq_some_iff.1 hi
  have hei : ∃ e0, es[i]? = some e0 ∧ e0.key = ke a := by
   have h1 := congrArg (·[i]?) E.read
   simp [hi] at h1
   obtain ⟨e0, h2, h3, _⟩ := h1
   exact ⟨e0, h2, h3⟩
  obtain ⟨e0, he0, hke⟩ := hei
  simp only [hg, Option.map_some, he0, hke, Option.getD_some, Sem.run_bind, K.stays, Result.andThen] at hk ⊢
  refine ⟨_, MapKept.run_setObj_map _ hb, ⟨_, _, heap_setBlock_same hb _, ?_, hk, ?_, ?_⟩, ⟨_, _, _, _, hb, rfl⟩⟩
  ·apply List.ext_getElem?
   intro j
   have h1 := congrArg (·[j]?) E.read
   simp only [List.getElem?_map, Array.getElem?_toList] at h1 ⊢
   rw [Array.getElem?_modify]
   by_cases hj : i = j
   ·subst hj
    simp [he0, hlt]
   ·simp [hj, h1]
  ·have : ((es.modify i fun e => { key := ke a, val := ve v, born := e.born }).toList.map (·.born)) = es.toList.map (·.born) := by
    apply List.ext_getElem?
    intro j
    simp only [List.getElem?_map, Array.getElem?_toList, Array.getElem?_modify]
    by_cases hj : i = j
    ·subst hj; simp [he0]
    ·simp [hj]
   rw [this]; exact E.born
  ·intro e1 he1
   obtain ⟨j, hj⟩ := List.mem_iff_getElem?.1 he1
   simp only [Array.getElem?_toList, Array.getElem?_modify] at hj
   by_cases hij : i = j
   ·subst hij
    simp [he0] at hj
    rw [← hj]
    exact E.old e0 (by simpa using Array.mem_of_getElem? he0)
   ·simp [hij] at hj
    exact E.old e1 (by simpa using Array.mem_of_getElem? hj)
def del (a : α) (l : List (α × β)) : List (α × β) := l.filter fun p => decide (p.1 ≠ a)
theorem q9q {a : α} {l : List (α × β)} {p : α × β} : p ∈ del a l ↔ p ∈ l ∧ p.1 ≠ a := by simp [del]
theorem q1k {a : α} {l : List (α × β)} (hn : (l.map Prod.fst).Nodup) : ((del a l).map Prod.fst).Nodup := List.Nodup.sublist (List.filter_sublist.map _) hn
theorem x6e {a : α} {i : Nat} {u : β} : ∀ {l : List (α × β)}, (l.map Prod.fst).Nodup → get a l = some (i, u) → del a l = l.eraseIdx i
 | [], _, h => by simp [get] at h
 | p :: r, hn, h => by
  simp only [List.map_cons, List.nodup_cons] at hn
  unfold get at h
  by_cases hp : a = p.1
  ·simp [hp] at h
   obtain ⟨rfl, rfl⟩ := h
   have : del a r = r := by
    unfold del
    rw [List.filter_eq_self]
    intro q hq
    simp only [decide_eq_true_eq]
    intro e
    exact hn.1 (List.mem_map.2 ⟨q, hq, by rw [e, hp]⟩)
   unfold del at this ⊢
   simp only [List.filter_cons, hp, ne_eq, not_true_eq_false, decide_false, Bool.false_eq_true, if_false, List.eraseIdx_cons_zero]
   rw [← hp]; exact this
  ·simp only [hp, if_false, Option.map_eq_some_iff] at h
   obtain ⟨⟨j, u'⟩, h1, h2⟩ := h
   simp at h2
   obtain ⟨rfl, rfl⟩ := h2
   have := x6e hn.2 h1
   unfold del at this ⊢
   have hp2 : ¬ p.1 = a := fun e => hp e.symm
   rw [List.filter_cons, if_pos (by simpa using hp2), List.eraseIdx_cons_succ, this]
theorem x0s {a : α} {l : List (α × β)} (h : get a l = none) : del a l = l := by
 unfold del
 rw [List.filter_eq_self]
 intro q hq
 simpa using get_none.1 h q hq
theorem x0r {ke : α → Value} {ve : β → Value} {es : Array MapEntry} {clock : Nat} {l : List (α × β)} (E : k7o ke ve es clock l) {a : α} {i : Nat} {u : β} (hg : get a l = some (i, u)) :
  k7o ke ve (es.eraseIdxIfInBounds i) clock (del a l) := by
 have hs : es.size = l.length := by simpa using congrArg List.length E.read
 have hi := get_some hg
 obtain ⟨hlt, _⟩ := List.getElem?_eq_some_iff.1 hi
 have ht : (es.eraseIdxIfInBounds i).toList = es.toList.eraseIdx i := by
  have : i < es.size := by omega
  simp [Array.eraseIdxIfInBounds, this]
 refine ⟨?_, q1k E.keys, ?_, ?_⟩
 ·rw [ht, x6e E.keys hg, map_eraseIdx, E.read, map_eraseIdx]
 ·rw [ht]
  exact List.Nodup.sublist ((List.eraseIdx_sublist _ _).map _) E.born
 ·rw [ht]
  exact fun e he => E.old e ((List.eraseIdx_sublist _ _).subset he)
theorem q7s {P : Program} {k t e : TypeId} {ke : α → Value} {ve : β → Value} (K : x0h P k ke) (ht : P.underlying t = some (.map k e)) {w : World} {b : Nat} {l : List (α × β)} (h : Is w b ke ve l) (a : α) (ty : TypeId) :
  ∃ w', (Builtin.delete_ #[t, k] ty #[.map (some b), ke a]).run P w = .ok (.tuple #[]) w' ∧ Is w' b ke ve (del a l) ∧ w.mapTurned w' b := by
 obtain ⟨es, clock, hb, E⟩ := h
 cases hg : get a l with
 | none =>
  refine ⟨setBlock w b (.map es clock), ?_, ⟨es, clock, heap_setBlock_same hb _, by rw [x0s hg]; exact E⟩, ⟨_, _, _, _, hb, rfl⟩⟩
  simp [Builtin.delete_, run_underlying ht, MapKept.run_getObj_map hb, K.check, z5h K w a es.toList l E.read, hg, Result.andThen, fun o => MapKept.run_setObj_map (P := P) o hb, setBlock]
 | some x =>
  obtain ⟨i, u⟩ := x
  refine ⟨setBlock w b (.map (es.eraseIdxIfInBounds i) clock), ?_, ⟨_, _, heap_setBlock_same hb _, x0r E hg⟩, ⟨_, _, _, _, hb, rfl⟩⟩
  simp [Builtin.delete_, run_underlying ht, MapKept.run_getObj_map hb, K.check, z5h K w a es.toList l E.read, hg, Result.andThen, fun o => MapKept.run_setObj_map (P := P) o hb, setBlock]
def Ran (w : World) (b r : Nat) (ke : α → Value) (ve : β → Value) (l : List (α × β)) (left : α → Bool) : Prop :=
 ∃ es clock since seen c0, w.heap[b]? = some (.map es clock) ∧ w.heap[r]? = some (.mapIter (some b) since seen c0) ∧ k7o ke ve es clock l ∧ since ≤ c0 ∧ since ≤ clock ∧ (∀ e ∈ es.toList, e.born < since) ∧
  ∀ e ∈ es.toList, ∀ a, e.key = ke a → seen.contains e.born = !left a
omit [DecidableEq α] in
theorem Ran.is {w : World} {b r : Nat} {ke : α → Value} {ve : β → Value} {l : List (α × β)} {left : α → Bool} (h : Ran w b r ke ve l left) : Is w b ke ve l := by
 obtain ⟨es, clock, since, seen, c0, hb, hr, E, _⟩ := h
 exact ⟨es, clock, hb, E⟩
omit [DecidableEq α] in
theorem Ran.congr {w w' : World} {b r : Nat} {ke : α → Value} {ve : β → Value} {l : List (α × β)} {left : α → Bool} (h : Ran w b r ke ve l left) (h1 : w'.heap[b]? = w.heap[b]?) (h2 : w'.heap[r]? = w.heap[r]?) : Ran w' b r ke ve l left := by
 obtain ⟨es, clock, since, seen, c0, hb, hr, E⟩ := h
 exact ⟨es, clock, since, seen, c0, by rw [h1, hb], by rw [h2, hr], E⟩
omit [DecidableEq α] in
theorem Is.congr {w w' : World} {b : Nat} {ke : α → Value} {ve : β → Value} {l : List (α × β)} (h : Is w b ke ve l) (h1 : w'.heap[b]? = w.heap[b]?) : Is w' b ke ve l := by
 obtain ⟨es, clock, hb, E⟩ := h
 exact ⟨es, clock, by rw [h1, hb], E⟩
omit [DecidableEq α] in
theorem Is.keys {w : World} {b : Nat} {ke : α → Value} {ve : β → Value} {l : List (α × β)} (h : Is w b ke ve l) : (l.map Prod.fst).Nodup := by
 obtain ⟨es, clock, hb, E⟩ := h
 exact E.keys
omit [DecidableEq α] in
theorem Is.lt {w : World} {b : Nat} {ke : α → Value} {ve : β → Value} {l : List (α × β)} (h : Is w b ke ve l) : b < w.heap.size := by
 obtain ⟨es, clock, hb, E⟩ := h
 exact (aL hb)
omit [DecidableEq α] in
theorem y7h {P : Program} {k t e : TypeId} {ke : α → Value} {ve : β → Value} (ht : P.underlying t = some (.map k e)) {w : World} {b : Nat} {l : List (α × β)} (h : Is w b ke ve l) :
  ∃ w', (Instr.range t (.map (some b))).run P w = .ok (.pointer (some ⟨w.heap.size, 0, none⟩)) w' ∧ Ran w' b w.heap.size ke ve l (fun _ => true) ∧ ∃ o, w' = w.alloc o := by
 have hlt := h.lt
 obtain ⟨es, clock, hb, E⟩ := h
 refine ⟨_, run_range_map w t k e b es clock ht hb, ⟨es, clock, clock, #[], clock, ?_, heap_alloc_new _ _, E, Nat.le_refl _, Nat.le_refl _, E.old, by simp⟩, _, rfl⟩
 show (w.heap.push _)[b]? = _
 rw [Array.getElem?_push_lt hlt, ← hb, Array.getElem?_eq_getElem hlt]
theorem x1p {P : Program} {ke : α → Value} {ve : β → Value} (inj : ∀ a b, ke a = ke b → a = b) {w : World} {b r : Nat} {l : List (α × β)} {left : α → Bool} (hbr : b ≠ r) (h : Ran w b r ke ve l left) (ty : TypeId) :
  ((∀ p ∈ l, left p.1 = false) ∧ (Instr.next (.pointer (some ⟨r, 0, none⟩)) false ty).run P w = .ok (.tuple #[.bool false]) w) ∨
  ∃ a v, (a, v) ∈ l ∧ left a = true ∧ ∃ w', (Instr.next (.pointer (some ⟨r, 0, none⟩)) false ty).run P w = .ok (.tuple #[.bool true, ke a, ve v]) w' ∧
   Ran w' b r ke ve l (fun x => left x && decide (x ≠ a)) ∧ w.grownBy w' (some r) ∧ w'.heap.size = w.heap.size ∧ (Instr.entry (.pointer (some ⟨r, 0, none⟩))).run P w' = .ok (.tuple #[ke a, ve v]) w' := by
 obtain ⟨es, clock, since, seen, c0, hb, hr, E, hsc, hsk, hold, hleft⟩ := h
 have hmem : ∀ e ∈ es.toList, ∃ p ∈ l, e.key = ke p.1 ∧ e.val = ve p.2 := by
  intro e he
  have h1 : (e.key, e.val) ∈ l.map (fun p => (ke p.1, ve p.2)) := by rw [← E.read]; exact List.mem_map.2 ⟨e, he, rfl⟩
  obtain ⟨p, hp, h2⟩ := List.mem_map.1 h1
  simp at h2
  exact ⟨p, hp, h2.1.symm, h2.2.symm⟩
 have hmem2 : ∀ p ∈ l, ∃ e ∈ es.toList, e.key = ke p.1 ∧ e.val = ve p.2 := by
  intro p hp
  have h1 : (ke p.1, ve p.2) ∈ es.toList.map (fun e => (e.key, e.val)) := by rw [E.read]; exact List.mem_map.2 ⟨p, hp, rfl⟩
  obtain ⟨e, he, h2⟩ := List.mem_map.1 h1
  simp at h2
  exact ⟨e, he, h2.1, h2.2⟩
 rcases run_next_at (P := P) w ty r b since c0 seen es clock hr hb hold hsc with ⟨h0, hrun⟩ | ⟨e, he, w1, hw1, hrun⟩
 ·left
  refine ⟨?_, hrun⟩
  intro p hp
  obtain ⟨e, he, h1, _⟩ := hmem2 p hp
  cases hc : left p.1
  ·rfl
  ·exfalso
   have h2 := hleft e he p.1 h1
   rw [hc] at h2
   have h3 : e ∈ leftOf es seen := by
    unfold leftOf
    rw [Array.mem_filter]
    exact ⟨by simpa using he, by simp at h2 ⊢; exact h2⟩
   have := Array.size_pos_of_mem h3
   omega
 ·right
  have hin : e ∈ es.toList ∧ seen.contains e.born = false := by
   unfold leftOf at he
   simp at he ⊢
   exact he
  obtain ⟨p, hp, h1, h2⟩ := hmem e hin.1
  have hl := hleft e hin.1 p.1 h1
  rw [hin.2] at hl
  have hw : w1.heap = w.heap ∧ w1.os = w.os ∧ w1.tape = w.tape ∧ w1.output = w.output := by rcases hw1 with rfl | rfl <;> exact ⟨rfl, rfl, rfl, rfl⟩
  have hr1 : w1.heap[r]? = some (.mapIter (some b) since seen c0) := by rw [hw.1]; exact hr
  have hlt : r < w1.heap.size := (aL hr1)
  have hB : (setBlock w1 r (.mapIter (some b) since (seen.push e.born) clock)).heap[b]? = some (.map es clock) := by
   show (w1.heap.setIfInBounds r _)[b]? = _
   rw [Array.getElem?_setIfInBounds_ne (fun x => hbr x.symm), hw.1, hb]
  have hR : (setBlock w1 r (.mapIter (some b) since (seen.push e.born) clock)).heap[r]? = some (.mapIter (some b) since (seen.push e.born) clock) := by
   show (w1.heap.setIfInBounds r _)[r]? = _
   rw [Array.getElem?_setIfInBounds_self_of_lt hlt]
  refine ⟨p.1, p.2, hp, by cases hc : left p.1 <;> simp [hc] at hl ⊢, _, by rw [hrun, h1, h2], ⟨es, clock, since, _, clock, hB, hR, E, hsk, hsk, hold, ?_⟩, ?_, ?_, ?_⟩
  ·intro e1 he1 a ha
   rw [Array.contains_push, hleft e1 he1 a ha]
   by_cases hx : a = p.1
   ·subst hx
    have : e1.born = e.born := by
     obtain ⟨i, hi⟩ := List.mem_iff_getElem?.1 he1
     obtain ⟨j, hj⟩ := List.mem_iff_getElem?.1 hin.1
     have hl1 : ∀ {i : Nat} {x : MapEntry}, es.toList[i]? = some x → x.key = ke p.1 → ∃ q, l[i]? = some q ∧ q.1 = p.1 := by
      intro i x hx hkx
      have h3 := congrArg (·[i]?) E.read
      simp only [List.getElem?_map, hx, Option.map_some] at h3
      cases hq : l[i]? with
      | none => rw [hq] at h3; simp at h3
      | some q =>
       rw [hq] at h3
       simp at h3
       exact ⟨q, rfl, inj _ _ (by rw [← h3.1, hkx])⟩
     obtain ⟨q1, hq1, hk1⟩ := hl1 hi ha
     obtain ⟨q2, hq2, hk2⟩ := hl1 hj h1
     obtain rfl := z4o E.keys hq1 hq2 (by rw [hk1, hk2])
     rw [hi] at hj
     injection hj with hj
     rw [hj]
    simp [this]
   ·have : e1.born ≠ e.born := by
     intro hbn
     obtain ⟨i, hi⟩ := List.mem_iff_getElem?.1 he1
     obtain ⟨j, hj⟩ := List.mem_iff_getElem?.1 hin.1
     obtain rfl := z4o E.born hi hj hbn
     rw [hi] at hj
     injection hj with hj
     subst hj
     exact hx (inj _ _ (by rw [← ha, h1]))
    simp [hx, this]
  ·exact ⟨hw.2.1, hw.2.2.1, hw.2.2.2, by simp [setBlock, hw.1], fun i _ hi => by
    show (w1.heap.setIfInBounds r _)[i]? = _
    rw [Array.getElem?_setIfInBounds_ne (fun x => hi (by rw [x])), hw.1]⟩
  ·simp [setBlock, hw.1]
  ·rw [run_entry_at _ r b since seen es clock e hR hB hin.1 E.born, h1, h2]
theorem q7r {P : Program} {k t e : TypeId} {ke : α → Value} {ve : β → Value} (K : x0h P k ke) (ht : P.underlying t = some (.map k e)) {w : World} {b r : Nat} {l : List (α × β)} {left : α → Bool} (hbr : b ≠ r) (h : Ran w b r ke ve l left) (a : α) (ty : TypeId) :
  ∃ w', (Builtin.delete_ #[t, k] ty #[.map (some b), ke a]).run P w = .ok (.tuple #[]) w' ∧ Ran w' b r ke ve (del a l) left ∧ w.mapTurned w' b := by
 obtain ⟨es, clock, since, seen, c0, hb, hr, E, hsc, hsk, hold, hleft⟩ := h
 cases hg : get a l with
 | none =>
  refine ⟨setBlock w b (.map es clock), ?_, ⟨es, clock, since, seen, c0, heap_setBlock_same hb _, ?_, by rw [x0s hg]; exact E, hsc, hsk, hold, hleft⟩, ⟨_, _, _, _, hb, rfl⟩⟩
  ·simp [Builtin.delete_, run_underlying ht, MapKept.run_getObj_map hb, K.check, z5h K w a es.toList l E.read, hg, Result.andThen, fun o => MapKept.run_setObj_map (P := P) o hb, setBlock]
  ·rw [heap_setBlock_other hb _ (fun x => hbr x.symm), hr]
 | some x =>
  obtain ⟨i, u⟩ := x
  have E' := x0r E hg
  have hsub : ∀ e0 ∈ (es.eraseIdxIfInBounds i).toList, e0 ∈ es.toList := by
   intro e0 he0
   have hs : es.size = l.length := by simpa using congrArg List.length E.read
   obtain ⟨hlt, _⟩ := List.getElem?_eq_some_iff.1 (get_some hg)
   have ht : (es.eraseIdxIfInBounds i).toList = es.toList.eraseIdx i := by
    have : i < es.size := by omega
    simp [Array.eraseIdxIfInBounds, this]
   rw [ht] at he0
   exact (List.eraseIdx_sublist _ _).subset he0
  refine ⟨setBlock w b (.map (es.eraseIdxIfInBounds i) clock), ?_, ⟨_, _, since, seen, c0, heap_setBlock_same hb _, ?_, E', hsc, hsk, fun e0 h0 => hold e0 (hsub e0 h0), fun e0 h0 => hleft e0 (hsub e0 h0)⟩, ⟨_, _, _, _, hb, rfl⟩⟩
  ·simp [Builtin.delete_, run_underlying ht, MapKept.run_getObj_map hb, K.check, z5h K w a es.toList l E.read, hg, Result.andThen, fun o => MapKept.run_setObj_map (P := P) o hb, setBlock]
  ·rw [heap_setBlock_other hb _ (fun x => hbr x.symm), hr]
theorem x7f {l : List (α × β)} {left : α → Bool} {a : α} {v : β} (hm : (a, v) ∈ l) (ha : left a = true) :
  (l.filter fun p => left p.1 && decide (p.1 ≠ a)).length < (l.filter fun p => left p.1).length := by
 have e : (l.filter fun p => left p.1 && decide (p.1 ≠ a)) = (l.filter fun p => left p.1).filter fun p => decide (p.1 ≠ a) := by
  rw [List.filter_filter]
  congr 1
  funext p
  rw [Bool.and_comm]
 rw [e, List.length_filter_lt_length_iff_exists]
 exact ⟨(a, v), List.mem_filter.2 ⟨hm, ha⟩, by simp⟩
theorem q9g {l : List (α × β)} {left : α → Bool} (a : α) : ((del a l).filter fun p => left p.1).length ≤ (l.filter fun p => left p.1).length :=
 (List.filter_sublist.filter _).length_le
def V (w : World) (v : Value) (ke : α → Value) (ve : β → Value) (l : List (α × β)) : Prop := (v = .map none ∧ l = []) ∨ ∃ b, v = .map (some b) ∧ Is w b ke ve l
theorem k5j {P : Program} {k t e : TypeId} {ke : α → Value} {ve : β → Value} (K : x0h P k ke) (ht : P.underlying t = some (.map k e)) {w : World} {m : Value} {l : List (α × β)} (h : V w m ke ve l) (a : α)
  {z : Value} (hz : (zeroValue e).run P w = .ok z w) :
  (Instr.lookup t m (ke a) true).run P w = .ok (.tuple #[((at? a l).map ve).getD z, .bool (at? a l).isSome]) w := by
 rcases h with ⟨rfl, rfl⟩ | ⟨b, rfl, h⟩
 ·rw [look_nil K ht w a hz]; rfl
 ·exact q2t K ht h a hz
omit [DecidableEq α] in
theorem k9k {P : Program} {k t e : TypeId} {ke : α → Value} {ve : β → Value} (ht : P.underlying t = some (.map k e)) {w : World} {m : Value} {l : List (α × β)} (h : V w m ke ve l) (ty : TypeId) :
  (Builtin.len_ #[t] ty #[m]).run P w = .ok (.int .i64 l.length) w := by
 rcases h with ⟨rfl, rfl⟩ | ⟨b, rfl, h⟩
 ·simp [Builtin.len_, run_underlying ht, goInt, Result.andThen]
 ·exact q9i ht h ty
section
variable {P : Program} (w : World) {ops : Array Oper} {rest : List Oper} {o : Oper} {a : Act} {Q : Exit → Act → World → Prop}
theorem z7a (hg : o.guard = none) (m x v : Operand) (t : TypeId) (hop : o.op = Op.mapUpdate t m x v) {k e : TypeId} {ke : α → Value} {ve : β → Value} (K : x0h P k ke) (ht : P.underlying t = some (.map k e))
  {l : List (α × β)} {b : Nat} (hm : a.eval m = .map (some b)) (h : Is w b ke ve l) (c : α) (u : β) (hx : a.eval x = ke c) (hv : a.eval v = ve u)
  (hK : ∀ w', Is w' b ke ve (put c u l) → w.mapTurned w' b → wpList P ops Q rest (a.put o.dst undef) w') :
  wpList P ops Q (o :: rest) a w := by
 refine wpList_plain hg fun K' hK' => ?_
 obtain ⟨w', hrun, r1, r2⟩ := k0x K ht h c u
 unfold Oper.wp
 simp [execOp, hop, hm, hx, hv, hrun, Result.andThen]
 exact hK' _ _ (hK w' r1 r2)
theorem x4y (hg : o.guard = none) (m x : Operand) (t k : TypeId) (hop : o.op = Op.call { callee := Callee.builtin Builtin.delete, args := #[m, x], argTypes := #[t, k] })
  {e : TypeId} {ke : α → Value} {ve : β → Value} (K : x0h P k ke) (ht : P.underlying t = some (.map k e)) {l : List (α × β)} {b : Nat} (hm : a.eval m = .map (some b)) (h : Is w b ke ve l) (c : α) (hx : a.eval x = ke c)
  (hK : ∀ w', Is w' b ke ve (del c l) → w.mapTurned w' b → wpList P ops Q rest (a.put o.dst (.tuple #[])) w') :
  wpList P ops Q (o :: rest) a w := by
 refine wpList_plain hg fun K' hK' => ?_
 obtain ⟨w', hrun, r1, r2⟩ := q7s K ht h c o.type
 unfold Oper.wp
 simp [execOp, hop, resolve, invoke, builtin, hm, hx, hrun, Result.andThen]
 exact hK' _ _ (hK w' r1 r2)
theorem x0d (hg : o.guard = none) (m x : Operand) (t k : TypeId) (hop : o.op = Op.call { callee := Callee.builtin Builtin.delete, args := #[m, x], argTypes := #[t, k] })
  {e : TypeId} {ke : α → Value} {ve : β → Value} (K : x0h P k ke) (ht : P.underlying t = some (.map k e)) {l : List (α × β)} {left : α → Bool} {b r : Nat} (hbr : b ≠ r) (hm : a.eval m = .map (some b)) (h : Ran w b r ke ve l left) (c : α) (hx : a.eval x = ke c)
  (hK : ∀ w', Ran w' b r ke ve (del c l) left → w.mapTurned w' b → wpList P ops Q rest (a.put o.dst (.tuple #[])) w') :
  wpList P ops Q (o :: rest) a w := by
 refine wpList_plain hg fun K' hK' => ?_
 obtain ⟨w', hrun, r1, r2⟩ := q7r K ht hbr h c o.type
 unfold Oper.wp
 simp [execOp, hop, resolve, invoke, builtin, hm, hx, hrun, Result.andThen]
 exact hK' _ _ (hK w' r1 r2)
omit [DecidableEq α] in
theorem z8z (hg : o.guard = none) (m : Operand) (t : TypeId) (hop : o.op = Op.call { callee := Callee.builtin Builtin.len, args := #[m], argTypes := #[t] })
  {k e : TypeId} {ke : α → Value} {ve : β → Value} (ht : P.underlying t = some (.map k e)) {l : List (α × β)} {mv : Value} (hm : a.eval m = mv) (h : V w mv ke ve l)
  (hK : wpList P ops Q rest (a.put o.dst (.int .i64 l.length)) w) :
  wpList P ops Q (o :: rest) a w := by
 refine wpList_plain hg fun K' hK' => ?_
 unfold Oper.wp
 simp [execOp, hop, resolve, invoke, builtin, hm, k9k ht h o.type, Result.andThen]
 exact hK' _ _ hK
omit [DecidableEq α] in
theorem z9q (hg : o.guard = none) (m : Operand) (t : TypeId) (hop : o.op = Op.range t m) {k e : TypeId} {ke : α → Value} {ve : β → Value} (ht : P.underlying t = some (.map k e)) {l : List (α × β)} {b : Nat} (hm : a.eval m = .map (some b)) (h : Is w b ke ve l)
  (hK : ∀ w', Ran w' b w.heap.size ke ve l (fun _ => true) → (∃ o, w' = w.alloc o) → wpList P ops Q rest (a.put o.dst (.pointer (some ⟨w.heap.size, 0, none⟩))) w') :
  wpList P ops Q (o :: rest) a w := by
 refine wpList_plain hg fun K' hK' => ?_
 obtain ⟨w', hrun, r1, r2⟩ := y7h (P := P) ht h
 unfold Oper.wp
 simp [execOp, hop, hm, hrun, Result.andThen]
 exact hK' _ _ (hK w' r1 r2)
theorem y1z (hg : o.guard = none) (it : Operand) (hop : o.op = Op.next it false) {ke : α → Value} {ve : β → Value} (inj : ∀ a b, ke a = ke b → a = b) {l : List (α × β)} {left : α → Bool} {b r : Nat} (hbr : b ≠ r) (hit : a.eval it = .pointer (some ⟨r, 0, none⟩)) (h : Ran w b r ke ve l left)
  (hDone : (∀ p ∈ l, left p.1 = false) → wpList P ops Q rest (a.put o.dst (.tuple #[.bool false])) w)
  (hMore : ∀ c v w', (c, v) ∈ l → left c = true → Ran w' b r ke ve l (fun x => left x && decide (x ≠ c)) → w.grownBy w' (some r) → w'.heap.size = w.heap.size → (Instr.entry (.pointer (some ⟨r, 0, none⟩))).run P w' = .ok (.tuple #[ke c, ve v]) w' →
   wpList P ops Q rest (a.put o.dst (.tuple #[.bool true, ke c, ve v])) w') :
  wpList P ops Q (o :: rest) a w := by
 refine wpList_plain hg fun K' hK' => ?_
 unfold Oper.wp
 rcases x1p (P := P) inj hbr h o.type with ⟨h0, hrun⟩ | ⟨c, v, hm, hl, w', hrun, r1, r2, r3, r4⟩
 ·simp [execOp, hop, hit, hrun, Result.andThen]
  exact hK' _ _ (hDone h0)
 ·simp [execOp, hop, hit, hrun, Result.andThen]
  exact hK' _ _ (hMore c v w' hm hl r1 r2 r3 r4)
end
def two (p : Int × Int) : Value := .agg #[.int .i64 p.1, .int .i64 p.2]
def unit (_ : Unit) : Value := .agg #[]
theorem y1v (a b : Int × Int) (h : two a = two b) : a = b := by
 unfold two at h
 injection h with h
 simp at h
 exact Prod.ext h.1 h.2
end Mp
open Go Go.RowKit Go.ChangeMaps
structure Fr (S : Nat → Prop) (B : Nat) (w w' : World) : Prop where
 os : w'.os = w.os
 tape : w'.tape = w.tape
 output : w'.output = w.output
 size : w.heap.size ≤ w'.heap.size
 block : ∀ k, k < B → ¬ S k → w'.heap[k]? = w.heap[k]?
namespace Fr
variable {S T : Nat → Prop} {B : Nat} {u v w : World}
theorem refl (S : Nat → Prop) (B : Nat) (w : World) : Fr S B w w := ⟨rfl, rfl, rfl, Nat.le_refl _, fun _ _ _ => rfl⟩
theorem trans (h : Fr S B u v) (k : Fr S B v w) : Fr S B u w :=
 ⟨k.os.trans h.os, k.tape.trans h.tape, k.output.trans h.output, Nat.le_trans h.size k.size, fun i hi hs => (k.block i hi hs).trans (h.block i hi hs)⟩
theorem mono (h : Fr S B u v) {C : Nat} (hC : C ≤ B) (hS : ∀ k, k < C → S k → T k) : Fr T C u v :=
 ⟨h.os, h.tape, h.output, h.size, fun i hi hs => h.block i (by omega) fun x => hs (hS i hi x)⟩
theorem z0z {n : Nat} (h : Below n u v) (hB : B ≤ n) : Fr S B u v := ⟨h.os, h.tape, h.output, h.size, fun i hi _ => h.block i (by omega)⟩
theorem below (h : Fr S B u v) {C : Nat} (hC : C ≤ B) (hS : ∀ k, k < C → ¬ S k) : Below C u v := ⟨h.os, h.tape, h.output, h.size, fun i hi => h.block i (by omega) (hS i hi)⟩
theorem setCell (h : Fr S B u v) (a : Addr) (x : Value) (ha : S a.block ∨ B ≤ a.block) : Fr S B u (v.setCell a x) :=
 h.trans ⟨rfl, rfl, rfl, by simp [World.setCell], fun k hk hs => heap_setCell_other _ _ _ _ (by rintro rfl; rcases ha with ha | ha; exact hs ha; omega)⟩
theorem setRow (h : Fr S B u v) (b : Nat) (cs : Array Value) (ha : S b ∨ B ≤ b) : Fr S B u (v.setRow b cs) :=
 h.trans ⟨rfl, rfl, rfl, by simp [World.setRow], fun k hk hs => by
  have : k ≠ b := by rintro rfl; rcases ha with ha | ha; exact hs ha; omega
  simp [World.setRow, Array.getElem?_modify]
  exact fun e => absurd e.symm this⟩
theorem grown (h : Fr S B u v) {r : Option Nat} (hg : v.grownBy w r) (hv : B ≤ v.heap.size) (hr : ∀ b, r = some b → S b ∨ B ≤ b) : Fr S B u w :=
 h.trans ⟨hg.os, hg.tape, hg.output, hg.size, fun k hk hs => hg.block k (by omega) fun e => by rcases hr k e.symm with x | x; exact hs x; omega⟩
theorem turned (h : Fr S B u v) {b : Nat} (hg : v.mapTurned w b) (hv : B ≤ v.heap.size) (ha : S b ∨ B ≤ b) : Fr S B u w := h.grown hg.grown hv fun k e => by cases e; exact ha
theorem calls (h : Fr S B u v) (k : Below v.heap.size v w) (hv : B ≤ v.heap.size) : Fr S B u w := h.trans (z0z k hv)
end Fr
def Row (S : Nat → Prop) (w : World) (e : TypeId) (size : Nat) (v : Value) (n : Nat) (xs : List Value) : Prop := w.ownsRow 0 e size v n xs ∧ ∀ b, v.ownBlock = some b → S b
namespace Row
variable {S T : Nat → Prop} {w w' : World} {e : TypeId} {size : Nat} {v : Value} {n : Nat} {xs : List Value}
theorem nil (S : Nat → Prop) (w : World) (e : TypeId) (size : Nat) : Row S w e size (.slice none 0 0) 0 [] := ⟨⟨by simp, Or.inl ⟨rfl, rfl⟩⟩, fun _ h => by cases h⟩
theorem mono (h : Row S w e size v n xs) (hS : ∀ k, S k → T k) : Row T w e size v n xs := ⟨h.1, fun b hb => hS b (h.2 b hb)⟩
theorem lt (h : Row S w e size v n xs) (b : Nat) (hb : v.ownBlock = some b) : b < w.heap.size := by
 rcases h.1.2 with ⟨rfl, _⟩ | ⟨g, cap, cur, rfl, _, hg, _⟩
 ·cases hb
 ·injection hb with hb
  subst hb
  exact (aL hg)
theorem congr (h : Row S w e size v n xs) (hw : ∀ b, v.ownBlock = some b → w'.heap[b]? = w.heap[b]?) : Row S w' e size v n xs := by
 refine ⟨⟨h.1.1, ?_⟩, h.2⟩
 rcases h.1.2 with h1 | ⟨g, cap, cur, rfl, h2, hg, h3⟩
 ·exact Or.inl h1
 ·exact Or.inr ⟨g, cap, cur, rfl, h2, by rw [hw g rfl]; exact hg, h3⟩
theorem below {B : Nat} (h : Row S w e size v n xs) (hf : Below B w w') (hB : w.heap.size ≤ B) : Row S w' e size v n xs :=
 h.congr fun b hb => hf.block b (Nat.lt_of_lt_of_le (h.lt b hb) hB)
theorem q9y {base : Nat} (h : w.ownsRow base e size v n xs) (hS : ∀ k, base ≤ k → S k) : Row S w e size v n xs := by
 refine ⟨⟨h.1, ?_⟩, ?_⟩
 ·rcases h.2 with h1 | ⟨g, cap, cur, rfl, h2, hg, h3⟩
  ·exact Or.inl h1
  ·exact Or.inr ⟨g, cap, cur, rfl, Nat.zero_le _, hg, h3⟩
 ·intro b hb
  rcases h.2 with ⟨rfl, _⟩ | ⟨g, cap, cur, rfl, h2, hg, h3⟩
  ·cases hb
  ·injection hb with hb
   subst hb
   exact hS _ h2
theorem cases (h : Row S w e size v n xs) : (v = .slice none 0 0 ∧ n = 0 ∧ xs = []) ∨ ∃ g cap cur, v = .slice (some ⟨g, 0, none⟩) n cap ∧ S g ∧ w.heap[g]? = some (.cells cur e (0, 0)) ∧ n ≤ cap ∧ cap ≤ maxLen ∧ cur.size = cap * size ∧ cur.toList.take (n * size) = xs := by
 rcases h.1.2 with ⟨rfl, rfl⟩ | ⟨g, cap, cur, rfl, _, hg, h3⟩
 ·exact Or.inl ⟨rfl, rfl, List.length_eq_zero_iff.1 (by rw [h.1.1]; simp)⟩
 ·exact Or.inr ⟨g, cap, cur, rfl, h.2 g rfl, hg, h3⟩
theorem cell {g : Nat} {cur : Array Value} (hg : w.heap[g]? = some (.cells cur e (0, 0))) (ht : cur.toList.take (n * size) = xs) {j : Nat} {x : Value} (hx : xs[j]? = some x) : w.cell? ⟨g, j, none⟩ = some x := by
 have h1 : cur[j]? = some x := by
  rw [← ht] at hx
  have hj : j < n * size := by
   have := (lL hx)
   rw [List.length_take] at this
   omega
  rw [List.getElem?_take_of_lt hj] at hx
  simpa using hx
 exact cell_of_row w g j _ _ _ hg ▸ h1
end Row
theorem q7h {P : Program} {ops : Array Oper} {rest : List Oper} {o : Oper} {a : Act} {w : World} {Q : Exit → Act → World → Prop} (hgd : o.guard = none) (s x : Operand) (t : TypeId) (ho : o.op = .call { callee := .builtin .append, args := #[s, x], argTypes := #[t, t] })
  (e : TypeId) (z : Value) (size bytes : Nat) (ht : P.underlying t = some (.slice e)) (h2 : (P.info? e).map (fun i => (i.zero, i.size, i.bytes)) = some (some z, size, bytes)) (hzs : z.cells.size = size) (hsz : 0 < size) (hby : bytes ≤ 4096)
  (S : Nat → Prop) (v : Value) (n : Nat) (xs : List Value) (hs : a.eval s = v) (hown : Row S w e size v n xs)
  (m : Nat) (b cp : Nat) (cs : List Value) (hx : a.eval x = .slice (some ⟨b, 0, none⟩) m cp) (hu : ∀ j c, cs[j]? = some c → w.cell? ⟨b, j, none⟩ = some c) (hl : cs.length = m * size) (h1 : ∀ c ∈ cs, c.oneCell' = true) (hn : n + m ≤ 30000000000)
  (h : ∀ v' w', Row (fun k => S k ∨ k = w.heap.size) w' e size v' (n + m) (xs ++ cs) → w.grownBy w' v.ownBlock → wpList P ops Q rest (a.put o.dst v') w') : wpList P ops Q (o :: rest) a w := by
 obtain ⟨i, hi, hz0, hz1, hz2⟩ := info_parts h2
 refine wpList_append_own_at w hgd s x t ho 0 e i z size bytes ht hi hz0 hz1 hz2 hzs hsz v n xs hs hown.1 ⟨b, 0, none⟩ m cp cs hx hl (fun j u hj => ?_) h1 (by unfold maxLen; omega) ?_ (Nat.zero_le _) (fun v' w' h3 h4 h5 h6 => ?_)
 ·rw [Addr.add_mid, Nat.zero_add]
  exact hu j u hj
 ·have : (n + m) * bytes ≤ 30000000000 * 4096 := Nat.mul_le_mul (by omega) hby
  omega
 ·refine h v' w' ⟨h3, fun k hk => ?_⟩ h4
  rcases h6 with h6 | h6
  ·exact Or.inl (hown.2 k (by rw [← h6]; exact hk))
  ·rw [h6] at hk
   injection hk with hk
   exact Or.inr hk.symm
end Go.Proofs.YtbojijefenfbgaaGreatDoor
namespace Go.Proofs.YtbojijefenfbgaaGreatDoor
open Go Go.RowKit
namespace Ks
variable {P : Program} {ops : Array Oper} {rest : List Oper} {o : Oper} {a : Act} {w : World} {Q : Exit → Act → World → Prop}
theorem reg {id : Nat} {l : List Oper} (h : wpList P l.toArray Q l a w) : (Code.region id l.toArray false).wp P Q a w := wp_region_list h
theorem ret {K : Act → World → Prop} (h : Q .ret a w) : Exit.then K Q .ret a w := h
theorem norm {K : Act → World → Prop} (h : K a w) : Exit.then K Q .normal a w := h
theorem done {K : Act → World → Prop} (h : K a w) : wpList P ops (Exit.then K Q) [] a w := h
theorem val (hg : o.guard = none) (v : Value) (hv : (execOp a.eval o).run P w = .ok (.value v) w) (h : wpList P ops Q rest (a.put o.dst v) w) : wpList P ops Q (o :: rest) a w :=
 wpList_plain hg fun K hK => by
  unfold Oper.wp
  rw [hv]
  exact hK _ _ h
theorem v (x : Value) (h : wpList P ops Q rest (a.put o.dst x) w) (hg : o.guard = none := by rfl) (hv : (execOp a.eval o).run P w = .ok (.value x) w := by kernel_rfl) : wpList P ops Q (o :: rest) a w := val hg x hv h
theorem off (hw : Region.wanted o (yielded ops a.tmps) = false) (h : wpList P ops Q rest (a.put o.dst undef) w) : wpList P ops Q (o :: rest) a w :=
 wpList_step fun K hK => by
  rw [hw]
  exact hK _ _ h
theorem y8b (hw : Region.wanted o (yielded ops a.tmps) = true) (v : Value) (hv : (execOp a.eval o).run P w = .ok (.value v) w) (h : wpList P ops Q rest (a.put o.dst v) w) : wpList P ops Q (o :: rest) a w :=
 wpList_step fun K hK => by
  rw [hw]
  show o.wp P a w K Q
  unfold Oper.wp
  rw [hv]
  exact hK _ _ h
theorem z4h {ty : TypeId} {d : TypeDesc} (hu : P.underlying ty = some d) (hd : d.isRow = false) {w : World} {b off : Nat} {v : Value} (h : w.cell? ⟨b, off, none⟩ = some v) : (loadVar ty ⟨b, off, none⟩).run P w = .ok v w := by
 have h1 := run_underlying hu w
 cases d <;> simp [TypeDesc.isRow] at hd <;> simp [loadVar, isAgg, go_sem, h, h1]
theorem g (x : Value) (h : wpList P ops Q rest (a.put o.dst x) w) (hw : Region.wanted o (yielded ops a.tmps) = true := by kernel_rfl) (hv : (execOp a.eval o).run P w = .ok (.value x) w := by kernel_rfl) : wpList P ops Q (o :: rest) a w := y8b hw x hv h
theorem n (h : wpList P ops Q rest (a.put o.dst undef) w) (hw : Region.wanted o (yielded ops a.tmps) = false := by kernel_rfl) : wpList P ops Q (o :: rest) a w := off hw h
theorem cell (hg : o.guard = none) (ty : TypeId) (x : Operand) (ho : o.op = .load ty x) {d : TypeDesc} (hu : P.underlying ty = some d) (hd : d.isRow = false) (b off : Nat) (v : Value) (hx : a.eval x = .pointer (some ⟨b, off, none⟩)) (hc : w.cell? ⟨b, off, none⟩ = some v)
  (h : wpList P ops Q rest (a.put o.dst v) w) : wpList P ops Q (o :: rest) a w := by
 refine val hg v ?_ h
 have h1 := z4h hu hd hc
 unfold execOp
 simp only [ho, hx, Instr.loadAt, Instr.sureAddr, Sem.run_bind, Sem.run_pure, Result.andThen_ok, h1]
theorem row (hg : o.guard = none) (ty : TypeId) (x : Operand) (ho : o.op = .load ty x) (b : Nat) (hx : a.eval x = .pointer (some ⟨b, 0, none⟩)) {t : TypeId} {cs : Array Value} {fr : Nat × Nat} (hb : w.heap[b]? = some (.cells cs t fr)) {d : TypeDesc} (hu : P.underlying ty = some d) (hd : (match d with | .struct _ | .array _ _ => true | _ => false) = true) (hi : (P.info? ty).map (·.size) = some cs.size)
  (h : wpList P ops Q rest (a.put o.dst (.agg cs)) w) : wpList P ops Q (o :: rest) a w := by
 refine val hg _ ?_ h
 unfold execOp
 simp only [ho, hx, Instr.loadAt, Instr.sureAddr, Sem.run_bind, Sem.run_pure, Result.andThen_ok, run_loadVar_row w b t ty cs fr d hb hu hd hi]
theorem mid (hg : o.guard = none) (ty : TypeId) (x : Operand) (ho : o.op = .load ty x) (b off : Nat) (hx : a.eval x = .pointer (some ⟨b, off, none⟩)) (cs : List Value) {d : TypeDesc} (hc : w.rangeAt b off cs) (hu : P.underlying ty = some d) (hd : d.isRow = true) (hi : (P.info? ty).map (·.size) = some cs.length)
  (h : wpList P ops Q rest (a.put o.dst (.agg cs.toArray)) w) : wpList P ops Q (o :: rest) a w := by
 refine val hg _ ?_ h
 unfold execOp
 simp only [ho, hx, Instr.loadAt, Instr.sureAddr, Sem.run_bind, Sem.run_pure, Result.andThen_ok, run_loadVar_mid w b off ty cs d hc hu hd hi]
theorem store (hg : o.guard = none) (ty : TypeId) (x y : Operand) (ho : o.op = .store ty x y) (b off : Nat) (v : Value) (hx : a.eval x = .pointer (some ⟨b, off, none⟩)) (hy : a.eval y = v) {t : TypeId} {cs : Array Value} (hb : w.heap[b]? = some (.cells cs t (0, 0))) (ho1 : off < cs.size) (hi : (P.info? ty).map (·.size) = some 1) (hv : v.oneCell' = true) (cs' : Array Value) (hcs : cs.setIfInBounds off v = cs')
  (h : ∀ w', Hid (w'.heap[b]? = some (.cells cs' t (0, 0))) → Hid (∀ S B, (S b ∨ B ≤ b) → Fr S B w w') → Hid (∀ k, k ≠ b → w'.heap[k]? = w.heap[k]?) → Hid (w'.heap.size = w.heap.size) → wpList P ops Q rest (a.put o.dst undef) w') : wpList P ops Q (o :: rest) a w := by
 subst hcs
 refine wpList_plain hg fun K hK => ?_
 have hf : w.frozen? ⟨b, off, none⟩ = false := frozen_of_row w b off _ t hb
 obtain ⟨i, hii, his⟩ := Option.map_eq_some_iff.1 hi
 have hc : ∃ u, w.cell? ⟨b, off, none⟩ = some u := ⟨cs[off], by rw [cell_of_row w b off _ _ _ hb]; exact Array.getElem?_eq_getElem ho1⟩
 obtain ⟨u, hc⟩ := hc
 have h1 : (storeVar ty ⟨b, off, none⟩ v).run P w = .ok () (w.setCell ⟨b, off, none⟩ v) := by
  have hs : (sizeOf ty).run P w = .ok 1 w := by simp [sizeOf, typeInfo, hii, his]
  clear hx hy h hK ho
  cases v <;> simp [Value.oneCell'] at hv <;> first | (simp [storeVar, hs, go_sem, hc, hf]; done) | (simp [storeVar, hs, go_sem]; rw [run_store _ _ _ _ _ rfl]; simp [go_sem, hc, hf])
 unfold Oper.wp execOp
 simp only [ho, hx, hy, Instr.storeAt, Instr.sureAddr, Sem.run_bind, Sem.run_pure, Result.andThen_ok, h1]
 refine hK _ _ (h _ ?_ ?_ ?_ ?_)
 ·exact heap_setCell_same w b off _ t v hb
 ·exact fun S B hS => (Fr.refl S B w).setCell _ _ hS
 ·exact fun k hk => heap_setCell_other _ _ _ _ hk
 ·show (w.setCell ⟨b, off, none⟩ v).heap.size = w.heap.size
  simp [World.setCell]
theorem make (hg : o.guard = none) (t : TypeId) (ho : o.op = .makeMap t none) (h : ∀ w' b, Hid (b = w.heap.size) → Hid (w'.heap[b]? = some (.map #[] 0)) → Hid (Below w.heap.size w w') → Hid (w'.heap.size = w.heap.size + 1) → wpList P ops Q rest (a.put o.dst (.map (some b))) w') : wpList P ops Q (o :: rest) a w := by
 refine wpList_plain hg fun K hK => ?_
 have h1 := @run_makeMap P t w
 unfold Oper.wp execOp
 simp only [ho, Sem.run_bind, Option.map_none, h1, Result.andThen_ok, Sem.run_pure]
 exact hK _ _ (h _ _ rfl (heap_alloc_new _ _) ((Below.refl _ _).alloc (Nat.le_refl _) _) (by show (w.heap.push _).size = _; simp))
theorem box (hg : o.guard = none) (t : TypeId) (x : Operand) (ho : o.op = .box t x) (cs : Array Value) (hx : (a.eval x).cells = cs) (h : ∀ w' b, Hid (b = w.heap.size) → Hid (w'.heap[b]? = some (.cells cs t (0, 0))) → Hid (Below w.heap.size w w') → Hid (w'.heap.size = w.heap.size + 1) → wpList P ops Q rest (a.put o.dst (.pointer (some ⟨b, 0, none⟩))) w') : wpList P ops Q (o :: rest) a w :=
 Great.wpList_boxTo hg t x ho _ rfl _ rfl cs hx (h _ _ rfl (heap_alloc_new _ _) ((Below.refl _ _).alloc (Nat.le_refl _) _) (by show (w.heap.push _).size = _; simp))
theorem alloc (hg : o.guard = none) (t : TypeId) (ho : o.op = .alloc t) (z : Value) (hz : (P.info? t).map (fun i => i.zero) = some (some z)) (cs : Array Value) (hcs : z.cells = cs) (h : ∀ w' b, Hid (b = w.heap.size) → Hid (w'.heap[b]? = some (.cells cs t (0, 0))) → Hid (Below w.heap.size w w') → Hid (w'.heap.size = w.heap.size + 1) → wpList P ops Q rest (a.put o.dst (.pointer (some ⟨b, 0, none⟩))) w') : wpList P ops Q (o :: rest) a w := by
 subst hcs
 refine wpList_plain hg fun K hK => ?_
 obtain ⟨i, hi, hzi⟩ := Option.map_eq_some_iff.1 hz
 unfold Oper.wp
 simp [execOp, ho, Instr.alloc, zeroValue, typeInfo, hi, hzi, newVar, newRow, Result.andThen]
 exact hK _ _ (h _ _ rfl (heap_alloc_new _ _) ((Below.refl _ _).alloc (Nat.le_refl _) _) (by show (w.heap.push _).size = _; simp))
theorem whole (hg : o.guard = none) (ty : TypeId) (x y : Operand) (ho : o.op = .store ty x y) (b : Nat) (cs : Array Value) (hx : a.eval x = .pointer (some ⟨b, 0, none⟩)) (hy : a.eval y = .agg cs) {t : TypeId} {old : Array Value} (hb : w.heap[b]? = some (.cells old t (0, 0))) (hi : (P.info? ty).map (·.size) = some cs.size) (hold : old.size = cs.size) (h1 : cs.all (·.oneCell') = true)
  (h : ∀ w', Hid (w'.heap[b]? = some (.cells cs t (0, 0))) → Hid (∀ S B, (S b ∨ B ≤ b) → Fr S B w w') → Hid (∀ k, k ≠ b → w'.heap[k]? = w.heap[k]?) → Hid (w'.heap.size = w.heap.size) → wpList P ops Q rest (a.put o.dst undef) w') : wpList P ops Q (o :: rest) a w := by
 refine wpList_store_row hg ty x y ho b cs hx hy t old hb hi hold h1 (h _ ?_ ?_ ?_ ?_)
 ·exact setRow_heap _ _ _ _ _ _ hb
 ·exact fun S B hS => (Fr.refl S B w).setRow _ _ hS
 ·intro k hk
  show (w.setRow b cs).heap[k]? = w.heap[k]?
  simp [World.setRow, Array.getElem?_modify]
  exact fun e => absurd e.symm hk
 ·show (w.setRow b cs).heap.size = w.heap.size
  simp [World.setRow]
theorem decl {os : Oper} (hg : o.guard = none) (T : TypeId) (ho : o.op = .alloc T) (z : Value) (hz : (P.info? T).map (fun i => i.zero) = some (some z)) (hgs : os.guard = none) (x y : Operand) (hs : os.op = .store T x y) (cs : Array Value) (hx : ∀ b, (a.put o.dst (.pointer (some ⟨b, 0, none⟩))).eval x = .pointer (some ⟨b, 0, none⟩)) (hy : ∀ b, (a.put o.dst (.pointer (some ⟨b, 0, none⟩))).eval y = .agg cs)
  (hi : (P.info? T).map (·.size) = some cs.size) (hold : z.cells.size = cs.size) (h1 : cs.all (·.oneCell') = true)
  (h : ∀ w' b, Hid (w.heap.size ≤ b) → Hid (w'.heap[b]? = some (.cells cs T (0, 0))) → Hid (Below w.heap.size w w') → wpList P ops Q rest ((a.put o.dst (.pointer (some ⟨b, 0, none⟩))).put os.dst undef) w') : wpList P ops Q (o :: os :: rest) a w := by
 refine alloc hg T ho z hz _ rfl ?_
 intro w1 b Hb HR HB HS
 refine whole hgs T x y hs b cs (hx b) (hy b) HR.out hi hold h1 ?_
 intro w2 HR2 H2 H3 H4
 refine h w2 b (Nat.le_of_eq Hb.out.symm) HR2.out (HB.out.trans ?_)
 exact (H2.out (fun _ => False) w.heap.size (Or.inr (Nat.le_of_eq Hb.out.symm))).below (Nat.le_refl _) (fun _ _ h => h)
theorem call (hg : o.guard = none) (f : FuncId) (args : Array Value) (hv : (execOp a.eval o).run P w = .ok (.enter f args) w) {R : Value → World → Prop} (hc : Calls P f args w fun e w' => ∃ v, e = .returned v ∧ R v w')
  (h : ∀ v w', R v w' → wpList P ops Q rest (a.put o.dst v) w') : wpList P ops Q (o :: rest) a w :=
 wpList_plain hg fun K hK => by
  unfold Oper.wp
  rw [hv]
  refine hc.mono ?_
  rintro e w' ⟨v, rfl, hr⟩
  exact hK _ _ (h v w' hr)
theorem z4k (hw : Region.wanted o (yielded ops a.tmps) = true) (ty : TypeId) (x : Operand) (ho : o.op = .load ty x) {d : TypeDesc} (hu : P.underlying ty = some d) (hd : d.isRow = false) (b off : Nat) (v : Value) (hx : a.eval x = .pointer (some ⟨b, off, none⟩)) (hc : w.cell? ⟨b, off, none⟩ = some v)
  (h : wpList P ops Q rest (a.put o.dst v) w) : wpList P ops Q (o :: rest) a w := by
 refine y8b hw v ?_ h
 have h1 := z4h hu hd hc
 unfold execOp
 simp only [ho, hx, Instr.loadAt, Instr.sureAddr, Sem.run_bind, Sem.run_pure, Result.andThen_ok, h1]
theorem k3c (hw : Region.wanted o (yielded ops a.tmps) = true) (f : FuncId) (args : Array Value) (hv : (execOp a.eval o).run P w = .ok (.enter f args) w) {R : Value → World → Prop} (hc : Calls P f args w fun e w' => ∃ v, e = .returned v ∧ R v w')
  (h : ∀ v w', R v w' → wpList P ops Q rest (a.put o.dst v) w') : wpList P ops Q (o :: rest) a w :=
 wpList_step fun K hK => by
  rw [hw]
  show o.wp P a w K Q
  unfold Oper.wp
  rw [hv]
  refine hc.mono ?_
  rintro e w' ⟨v, rfl, hr⟩
  exact hK _ _ (h v w' hr)
theorem pure (hw : Region.wanted o (yielded ops a.tmps) = true) (f : FuncId) (args : Array Value) (hv : (execOp a.eval o).run P w = .ok (.enter f args) w) {v : Value} (hc : Calls P f args w fun e w' => e = .returned v ∧ Below w.heap.size w w')
  (h : ∀ w', Below w.heap.size w w' → wpList P ops Q rest (a.put o.dst v) w') : wpList P ops Q (o :: rest) a w :=
 k3c hw f args hv (R := fun u w' => u = v ∧ Below w.heap.size w w') (hc.mono fun e w' hx => ⟨_, hx.1, rfl, hx.2⟩) fun u w' ⟨e, hb⟩ => by
  subst e
  exact h w' hb
theorem fin (h : Q .normal a w) : wpList P ops Q [] a w := h
theorem inb {id : Nat} {K : Act → World → Prop} (h : K a w) : Exit.inBlock id (Exit.then K Q) .normal a w := h
theorem k8t {id : Nat} {K : Act → World → Prop} (h : Q .normal a w) : Exit.then K (Exit.inBlock id Q) (.exit id) a w := by
 show (if id = id then _ else _)
 rw [if_pos rfl]
 exact h
theorem z3r {id : Nat} {K L : Act → World → Prop} (h : Q .normal a w) : Exit.then K (Exit.then L (Exit.inBlock id Q)) (.exit id) a w := k8t (K := L) h
theorem least (p : Nat → Prop) (h : ∃ n, p n) : ∃ n, p n ∧ ∀ m, p m → n ≤ m := by
 obtain ⟨n, hn⟩ := h
 induction n using Nat.strongRecOn with
 | _ n ih =>
  by_cases hc : ∃ m, m < n ∧ p m
  ·obtain ⟨m, hm, hp⟩ := hc
   exact ih m hm hp
  ·exact ⟨n, hn, fun m hp => Nat.le_of_not_lt fun hlt => hc ⟨m, hlt, hp⟩⟩
theorem loop {c : Code} (I : Nat → Act → World → Prop) (n : Nat) (h : I n a w) (round : ∀ n a w, I n a w → c.wp P (Exit.then (fun a' w' => ∃ m, m < n ∧ I m a' w') Q) a w) : (Code.loop c).wp P Q a w := by
 have hx : ∀ a w, ∃ n : Nat, (∃ n, I n a w) → I n a w ∧ ∀ m, I m a w → n ≤ m := fun a w => by
  by_cases h : ∃ n, I n a w
  ·obtain ⟨n, h1, h2⟩ := least (fun n => I n a w) h
   exact ⟨n, fun _ => ⟨h1, h2⟩⟩
  ·exact ⟨0, fun h' => absurd h' h⟩
 have hm : ∃ μ : Act → World → Nat, ∀ a w, (∃ n, I n a w) → I (μ a w) a w ∧ ∀ m, I m a w → μ a w ≤ m := ⟨fun a w => Classical.choose (hx a w), fun a w => Classical.choose_spec (hx a w)⟩
 obtain ⟨μ, hμ⟩ := hm
 refine wp_loop (fun a w => ∃ n, I n a w) μ ⟨n, h⟩ ?_
 intro a w hI
 refine wp_mono (round _ _ _ (hμ a w hI).1) ?_
 intro e a' w' hq
 cases e with
 | normal =>
  obtain ⟨m, hlt, hI'⟩ := hq
  exact ⟨⟨m, hI'⟩, Nat.lt_of_le_of_lt ((hμ a' w' ⟨m, hI'⟩).2 m hI') hlt⟩
 | _ => exact hq
theorem entry (hg : o.guard = none) (it : Operand) (ho : o.op = .entry it) (r : Nat) (v : Value) (hit : a.eval it = .pointer (some ⟨r, 0, none⟩)) (hen : (Instr.entry (.pointer (some ⟨r, 0, none⟩))).run P w = .ok v w) (h : wpList P ops Q rest (a.put o.dst v) w) : wpList P ops Q (o :: rest) a w := by
 refine val hg v ?_ h
 unfold execOp
 simp only [ho, hit, hen, Sem.run_bind, Result.andThen_ok]
 rfl
theorem y7g (hg : o.guard = none) (m : Operand) (t : TypeId) (ho : o.op = Op.range t m) {k e : TypeId} (ht : P.underlying t = some (.map k e)) (hm : a.eval m = .map none)
  (h : ∀ w' r, Hid (r = w.heap.size) → Hid (w'.heap[r]? = some (.mapIter none 0 #[] 0)) → Hid (Below w.heap.size w w') → wpList P ops Q rest (a.put o.dst (.pointer (some ⟨r, 0, none⟩))) w') : wpList P ops Q (o :: rest) a w := by
 refine wpList_plain hg fun K' hK' => ?_
 have h1 := run_range_nilMap (P := P) w t k e ht
 unfold Oper.wp
 simp [execOp, ho, hm, h1, Result.andThen]
 exact hK' _ _ (h _ _ rfl (heap_alloc_new _ _) ((Below.refl _ _).alloc (Nat.le_refl _) _))
theorem x1o (hg : o.guard = none) (it : Operand) (ho : o.op = Op.next it false) (r : Nat) (hit : a.eval it = .pointer (some ⟨r, 0, none⟩)) {x y : Nat} {s : Array Nat} (hr : w.heap[r]? = some (.mapIter none x s y)) (h : wpList P ops Q rest (a.put o.dst (.tuple #[.bool false])) w) : wpList P ops Q (o :: rest) a w := by
 refine val hg _ ?_ h
 have h1 : (Instr.next (.pointer (some ⟨r, 0, none⟩)) false o.type).run P w = .ok (.tuple #[.bool false]) w := by
  simp only [Instr.next, getObj, Sem.run_bind, Sem.run, hr, Result.andThen]
  rfl
 unfold execOp
 simp only [ho, hit, h1, Sem.run_bind, Result.andThen_ok]
 rfl
end Ks
end Go.Proofs.YtbojijefenfbgaaGreatDoor

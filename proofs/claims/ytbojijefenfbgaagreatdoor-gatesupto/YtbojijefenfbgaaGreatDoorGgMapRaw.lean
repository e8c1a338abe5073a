/- Maps told as lists of pairs: look-up, store, deletion, length and ranging, for keys whose equality is known. -/
import Derived.Maps.RangeWalk
import Derived.Maps.OwnSet
namespace Go.Proofs.YtbojijefenfbgaaGreatDoor
open Go.RowKit Go.ChangeMaps
namespace Mp
variable {α β : Type} [DecidableEq α]
structure KeyP (P : Program) (k : TypeId) (ke : α → Value) : Prop where
 und : ∃ d, P.underlying k = some d ∧ ∀ a b, Instr.sameNow d (ke a) (ke b) = none
 eq : ∀ (w : World) (a b : α), (Op.equal k (ke a) (ke b)).run P w = .ok (decide (a = b)) w
 inj : ∀ a b, ke a = ke b → a = b
 check : ∀ (w : World) (em : Bool) (a : α), (Instr.checkKey em 10000 k (ke a)).run P w = .ok () w
 stays : ∀ (w : World) (a : α), (Instr.keyThatStays (ke a) (ke a)).run P w = .ok (ke a) w
structure Ents (ke : α → Value) (ve : β → Value) (es : Array MapEntry) (clock : Nat) (l : List (α × β)) : Prop where
 read : es.toList.map (fun e => (e.key, e.val)) = l.map (fun p => (ke p.1, ve p.2))
 keys : (l.map Prod.fst).Nodup
 born : (es.toList.map (·.born)).Nodup
 old : ∀ e ∈ es.toList, e.born < clock
def Is (w : World) (b : Nat) (ke : α → Value) (ve : β → Value) (l : List (α × β)) : Prop :=
 ∃ es clock, w.heap[b]? = some (.map es clock) ∧ Ents ke ve es clock l
def get (a : α) : List (α × β) → Option (Nat × β)
 | [] => none
 | p :: r => if a = p.1 then some (0, p.2) else (get a r).map fun x => (x.1 + 1, x.2)
theorem find_ask {P : Program} {k : TypeId} {ke : α → Value} {ve : β → Value} (K : KeyP P k ke) (w : World) (a : α) : ∀ (es : List MapEntry) (l : List (α × β)) (i : Nat),
  es.map (fun e => (e.key, e.val)) = l.map (fun p => (ke p.1, ve p.2)) →
  (Instr.findAsking k (ke a) es i).run P w = .ok ((get a l).map fun x => (x.1 + i, ve x.2)) w
 | [], [], i, _ => by simp [Instr.findAsking, get]
 | [], p :: r, i, h => by simp at h
 | e :: es, [], i, h => by simp at h
 | e :: es, p :: r, i, h => by
  simp only [List.map_cons, List.cons.injEq, Prod.mk.injEq] at h
  obtain ⟨⟨h1, h2⟩, h3⟩ := h
  simp only [Instr.findAsking, Sem.run_bind, h1, K.eq, Result.andThen, decide_eq_true_eq, get]
  by_cases hp : a = p.1
  ·simp [hp, h2]
  ·simp only [hp, if_false]
   rw [find_ask K w a es r (i + 1) h3]
   cases get a r <;> simp
   omega
theorem find_run {P : Program} {k : TypeId} {ke : α → Value} {ve : β → Value} (K : KeyP P k ke) (w : World) (a : α) (es : List MapEntry) (l : List (α × β))
  (h : es.map (fun e => (e.key, e.val)) = l.map (fun p => (ke p.1, ve p.2))) :
  (Instr.findKey k (ke a) es).run P w = .ok ((get a l).map fun x => (x.1, ve x.2)) w := by
 obtain ⟨d, hd, hn⟩ := K.und
 unfold Instr.findKey
 simp only [Sem.run_bind, run_underlying hd, Result.andThen]
 cases es with
 | nil =>
  cases l with
  | nil => simp [Instr.findNow, get]
  | cons p r => simp at h
 | cons e es =>
  cases l with
  | nil => simp at h
  | cons p r =>
   have h1 : e.key = ke p.1 := by simp at h; exact h.1.1
   simp only [Instr.findNow, h1, hn]
   rw [find_ask K w a (e :: es) (p :: r) 0 h]
   simp
theorem get_none {a : α} : ∀ {l : List (α × β)}, get a l = none ↔ ∀ p ∈ l, p.1 ≠ a
 | [] => by simp [get]
 | p :: r => by
  unfold get
  by_cases h : a = p.1
  ·simp [h]
  ·simp only [h, if_false, Option.map_eq_none_iff, get_none (l := r), List.mem_cons]
   constructor
   ·rintro h1 q (rfl | hq)
    ·exact fun e => h e.symm
    ·exact h1 q hq
   ·exact fun h1 q hq => h1 q (Or.inr hq)
theorem get_some {a : α} {i : Nat} {v : β} : ∀ {l : List (α × β)}, get a l = some (i, v) → l[i]? = some (a, v)
 | [], h => by simp [get] at h
 | p :: r, h => by
  unfold get at h
  by_cases hp : a = p.1
  ·simp [hp] at h
   obtain ⟨rfl, rfl⟩ := h
   simp [hp]
  ·simp only [hp, if_false, Option.map_eq_some_iff] at h
   obtain ⟨⟨j, u⟩, h1, h2⟩ := h
   simp at h2
   obtain ⟨rfl, rfl⟩ := h2
   simpa using get_some h1
def at? (a : α) (l : List (α × β)) : Option β := (get a l).map Prod.snd
theorem at?_none {a : α} {l : List (α × β)} : at? a l = none ↔ ∀ p ∈ l, p.1 ≠ a := by unfold at?; rw [Option.map_eq_none_iff, get_none]
theorem at?_mem {a : α} {v : β} {l : List (α × β)} (h : at? a l = some v) : (a, v) ∈ l := by
 unfold at? at h
 rw [Option.map_eq_some_iff] at h
 obtain ⟨⟨i, u⟩, h1, rfl⟩ := h
 exact List.mem_of_getElem? (get_some h1)
theorem nodup_at {γ δ : Type} {f : γ → δ} {l : List γ} (hn : (l.map f).Nodup) {i j : Nat} {x y : γ} (hi : l[i]? = some x) (hj : l[j]? = some y) (e : f x = f y) : i = j := by
 obtain ⟨hil, hi⟩ := List.getElem?_eq_some_iff.1 hi
 obtain ⟨hjl, hj⟩ := List.getElem?_eq_some_iff.1 hj
 have hp := List.pairwise_iff_getElem.1 (List.pairwise_map.1 hn)
 rcases Nat.lt_trichotomy i j with h | h | h
 ·exact absurd (by rw [hi, hj]; exact e) (hp i j hil hjl h)
 ·exact h
 ·exact absurd (by rw [hi, hj]; exact e.symm) (hp j i hjl hil h)
theorem look_run {P : Program} {k t e : TypeId} {ke : α → Value} {ve : β → Value} (K : KeyP P k ke) (ht : P.underlying t = some (.map k e)) {w : World} {b : Nat} {l : List (α × β)} (h : Is w b ke ve l) (a : α)
  {z : Value} (hz : (zeroValue e).run P w = .ok z w) :
  (Instr.lookup t (.map (some b)) (ke a) true).run P w = .ok (.tuple #[((at? a l).map ve).getD z, .bool (at? a l).isSome]) w := by
 obtain ⟨es, clock, hb, E⟩ := h
 unfold Instr.lookup
 simp only [Sem.run_bind, run_underlying ht, Result.andThen, MapKept.run_getObj_map hb, Sem.run_pure, K.check, find_run K w a es.toList l E.read]
 unfold at?
 cases get a l with
 | none => simp [hz]
 | some x => simp
theorem look_nil {P : Program} {k t e : TypeId} {ke : α → Value} (K : KeyP P k ke) (ht : P.underlying t = some (.map k e)) (w : World) (a : α)
  {z : Value} (hz : (zeroValue e).run P w = .ok z w) :
  (Instr.lookup t (.map none) (ke a) true).run P w = .ok (.tuple #[z, .bool false]) w := by
 unfold Instr.lookup
 have := find_run (ve := fun x : Unit => .bool true) K w a [] [] rfl
 simp only [Sem.run_bind, run_underlying ht, Result.andThen, Sem.run_pure, K.check, this, get, hz, Option.map_none]
 simp
omit [DecidableEq α] in
theorem len_run {P : Program} {k t e : TypeId} {ke : α → Value} {ve : β → Value} (ht : P.underlying t = some (.map k e)) {w : World} {b : Nat} {l : List (α × β)} (h : Is w b ke ve l) (ty : TypeId) :
  (Builtin.len_ #[t] ty #[.map (some b)]).run P w = .ok (.int .i64 l.length) w := by
 obtain ⟨es, clock, hb, E⟩ := h
 have hs : es.size = l.length := by simpa using congrArg List.length E.read
 simp [Builtin.len_, run_underlying ht, MapKept.run_getObj_map hb, goInt, Result.andThen, hs]
def put (a : α) (v : β) (l : List (α × β)) : List (α × β) :=
 match get a l with
 | some (i, _) => l.set i (a, v)
 | none => l ++ [(a, v)]
theorem put_keys {a : α} {v : β} {l : List (α × β)} (hn : (l.map Prod.fst).Nodup) : ((put a v l).map Prod.fst).Nodup := by
 unfold put
 split
 ·rename_i i u h
  have hi := get_some h
  have : (l.set i (a, v)).map Prod.fst = l.map Prod.fst := by
   rw [List.map_set]
   apply List.ext_getElem?
   intro j
   by_cases hj : j = i
   ·subst hj
    obtain ⟨hlt, _⟩ := List.getElem?_eq_some_iff.1 hi
    rw [List.getElem?_set_self (by simpa using hlt), List.getElem?_map, hi]
    rfl
   ·rw [List.getElem?_set_ne (fun e => hj e.symm)]
  rw [this]; exact hn
 ·rename_i h
  have := get_none.1 h
  rw [List.map_append, List.nodup_append]
  refine ⟨hn, by simp, ?_⟩
  intro x hx y hy
  obtain ⟨p, hp, rfl⟩ := List.mem_map.1 hx
  simp at hy
  subst hy
  exact this p hp
theorem mem_put {a : α} {v : β} {l : List (α × β)} (hn : (l.map Prod.fst).Nodup) (p : α × β) : p ∈ put a v l ↔ p = (a, v) ∨ (p ∈ l ∧ p.1 ≠ a) := by
 unfold put
 split
 ·rename_i i u h
  have hi := get_some h
  obtain ⟨hlt, hie⟩ := List.getElem?_eq_some_iff.1 hi
  rw [List.mem_iff_getElem?]
  constructor
  ·rintro ⟨j, hj⟩
   by_cases e : j = i
   ·subst e
    rw [List.getElem?_set_self hlt] at hj
    exact Or.inl (by injection hj with hj; exact hj.symm)
   ·rw [List.getElem?_set_ne (fun x => e x.symm)] at hj
    refine Or.inr ⟨List.mem_of_getElem? hj, fun e2 => e ?_⟩
    exact nodup_at hn hj hi e2
  ·rintro (rfl | ⟨hp, hne⟩)
   ·exact ⟨i, List.getElem?_set_self hlt⟩
   ·obtain ⟨j, hj⟩ := List.mem_iff_getElem?.1 hp
    refine ⟨j, ?_⟩
    rw [List.getElem?_set_ne]
    ·exact hj
    ·rintro rfl
     rw [hi] at hj
     injection hj with hj
     exact hne (by rw [← hj])
 ·rename_i h
  have := get_none.1 h
  simp only [List.mem_append, List.mem_singleton]
  constructor
  ·rintro (h1 | rfl)
   ·exact Or.inr ⟨h1, this p h1⟩
   ·exact Or.inl rfl
  ·rintro (rfl | ⟨h1, _⟩)
   ·exact Or.inr rfl
   ·exact Or.inl h1
theorem put_new {a : α} {v : β} {l : List (α × β)} (h : ∀ p ∈ l, p.1 ≠ a) : put a v l = l ++ [(a, v)] := by
 unfold put
 rw [get_none.2 h]
theorem put_run {P : Program} {k t e : TypeId} {ke : α → Value} {ve : β → Value} (K : KeyP P k ke) (ht : P.underlying t = some (.map k e)) {w : World} {b : Nat} {l : List (α × β)} (h : Is w b ke ve l) (a : α) (v : β) :
  ∃ w', (Instr.mapUpdate t (.map (some b)) (ke a) (ve v)).run P w = .ok () w' ∧ Is w' b ke ve (put a v l) ∧ w.mapTurned w' b := by
 obtain ⟨es, clock, hb, E⟩ := h
 have hs : es.size = l.length := by simpa using congrArg List.length E.read
 unfold Instr.mapUpdate
 simp only [Sem.run_bind, run_underlying ht, Result.andThen, MapKept.run_getObj_map hb, K.check, find_run K w a es.toList l E.read]
 have hk := put_keys (a := a) (v := v) E.keys
 unfold put at hk ⊢
 cases hg : get a l with
 | none =>
  simp only [hg, Option.map_none] at hk ⊢
  refine ⟨_, MapKept.run_setObj_map _ hb, ⟨_, _, heap_setBlock_same hb _, ?_, hk, ?_, ?_⟩, ⟨_, _, _, _, hb, rfl⟩⟩
  ·simp [E.read]
  ·rw [Array.toList_push, List.map_append, List.nodup_append]
   refine ⟨E.born, by simp, ?_⟩
   intro x hx y hy
   obtain ⟨e0, he, rfl⟩ := List.mem_map.1 hx
   simp at hy
   subst hy
   have := E.old e0 he
   omega
  ·intro e0 he
   simp at he
   rcases he with he | rfl
   ·have := E.old e0 (by simpa using he); omega
   ·simp
 | some x =>
  obtain ⟨i, u⟩ := x
  have hi := get_some hg
  obtain ⟨hlt, hie⟩ := List.getElem?_eq_some_iff.1 hi
  have hei : ∃ e0, es[i]? = some e0 ∧ e0.key = ke a := by
   have h1 := congrArg (·[i]?) E.read
   simp [hi] at h1
   obtain ⟨e0, h2, h3, _⟩ := h1
   exact ⟨e0, h2, h3⟩
  obtain ⟨e0, he0, hke⟩ := hei
  simp only [hg, Option.map_some, he0, hke, Option.getD_some, Sem.run_bind, K.stays, Result.andThen] at hk ⊢
  refine ⟨_, MapKept.run_setObj_map _ hb, ⟨_, _, heap_setBlock_same hb _, ?_, hk, ?_, ?_⟩, ⟨_, _, _, _, hb, rfl⟩⟩
  ·apply List.ext_getElem?
   intro j
   have h1 := congrArg (·[j]?) E.read
   simp only [List.getElem?_map, Array.getElem?_toList] at h1 ⊢
   rw [Array.getElem?_modify]
   by_cases hj : i = j
   ·subst hj
    simp [he0, hlt]
   ·simp [hj, h1]
  ·have : ((es.modify i fun e => { key := ke a, val := ve v, born := e.born }).toList.map (·.born)) = es.toList.map (·.born) := by
    apply List.ext_getElem?
    intro j
    simp only [List.getElem?_map, Array.getElem?_toList, Array.getElem?_modify]
    by_cases hj : i = j
    ·subst hj; simp [he0]
    ·simp [hj]
   rw [this]; exact E.born
  ·intro e1 he1
   obtain ⟨j, hj⟩ := List.mem_iff_getElem?.1 he1
   simp only [Array.getElem?_toList, Array.getElem?_modify] at hj
   by_cases hij : i = j
   ·subst hij
    simp [he0] at hj
    rw [← hj]
    exact E.old e0 (by simpa using Array.mem_of_getElem? he0)
   ·simp [hij] at hj
    exact E.old e1 (by simpa using Array.mem_of_getElem? hj)
def del (a : α) (l : List (α × β)) : List (α × β) := l.filter fun p => decide (p.1 ≠ a)
theorem mem_del {a : α} {l : List (α × β)} {p : α × β} : p ∈ del a l ↔ p ∈ l ∧ p.1 ≠ a := by simp [del]
theorem del_keys {a : α} {l : List (α × β)} (hn : (l.map Prod.fst).Nodup) : ((del a l).map Prod.fst).Nodup := List.Nodup.sublist (List.filter_sublist.map _) hn
theorem del_get {a : α} {i : Nat} {u : β} : ∀ {l : List (α × β)}, (l.map Prod.fst).Nodup → get a l = some (i, u) → del a l = l.eraseIdx i
 | [], _, h => by simp [get] at h
 | p :: r, hn, h => by
  simp only [List.map_cons, List.nodup_cons] at hn
  unfold get at h
  by_cases hp : a = p.1
  ·simp [hp] at h
   obtain ⟨rfl, rfl⟩ := h
   have : del a r = r := by
    unfold del
    rw [List.filter_eq_self]
    intro q hq
    simp only [decide_eq_true_eq]
    intro e
    exact hn.1 (List.mem_map.2 ⟨q, hq, by rw [e, hp]⟩)
   unfold del at this ⊢
   simp only [List.filter_cons, hp, ne_eq, not_true_eq_false, decide_false, Bool.false_eq_true, if_false, List.eraseIdx_cons_zero]
   rw [← hp]; exact this
  ·simp only [hp, if_false, Option.map_eq_some_iff] at h
   obtain ⟨⟨j, u'⟩, h1, h2⟩ := h
   simp at h2
   obtain ⟨rfl, rfl⟩ := h2
   have := del_get hn.2 h1
   unfold del at this ⊢
   have hp2 : ¬ p.1 = a := fun e => hp e.symm
   rw [List.filter_cons, if_pos (by simpa using hp2), List.eraseIdx_cons_succ, this]
theorem del_none {a : α} {l : List (α × β)} (h : get a l = none) : del a l = l := by
 unfold del
 rw [List.filter_eq_self]
 intro q hq
 simpa using get_none.1 h q hq
theorem del_ents {ke : α → Value} {ve : β → Value} {es : Array MapEntry} {clock : Nat} {l : List (α × β)} (E : Ents ke ve es clock l) {a : α} {i : Nat} {u : β} (hg : get a l = some (i, u)) :
  Ents ke ve (es.eraseIdxIfInBounds i) clock (del a l) := by
 have hs : es.size = l.length := by simpa using congrArg List.length E.read
 have hi := get_some hg
 obtain ⟨hlt, _⟩ := List.getElem?_eq_some_iff.1 hi
 have ht : (es.eraseIdxIfInBounds i).toList = es.toList.eraseIdx i := by
  have : i < es.size := by omega
  simp [Array.eraseIdxIfInBounds, this]
 refine ⟨?_, del_keys E.keys, ?_, ?_⟩
 ·rw [ht, del_get E.keys hg, map_eraseIdx, E.read, map_eraseIdx]
 ·rw [ht]
  exact List.Nodup.sublist ((List.eraseIdx_sublist _ _).map _) E.born
 ·rw [ht]
  exact fun e he => E.old e ((List.eraseIdx_sublist _ _).subset he)
theorem del_run {P : Program} {k t e : TypeId} {ke : α → Value} {ve : β → Value} (K : KeyP P k ke) (ht : P.underlying t = some (.map k e)) {w : World} {b : Nat} {l : List (α × β)} (h : Is w b ke ve l) (a : α) (ty : TypeId) :
  ∃ w', (Builtin.delete_ #[t, k] ty #[.map (some b), ke a]).run P w = .ok (.tuple #[]) w' ∧ Is w' b ke ve (del a l) ∧ w.mapTurned w' b := by
 obtain ⟨es, clock, hb, E⟩ := h
 cases hg : get a l with
 | none =>
  refine ⟨setBlock w b (.map es clock), ?_, ⟨es, clock, heap_setBlock_same hb _, by rw [del_none hg]; exact E⟩, ⟨_, _, _, _, hb, rfl⟩⟩
  simp [Builtin.delete_, run_underlying ht, MapKept.run_getObj_map hb, K.check, find_run K w a es.toList l E.read, hg, Result.andThen, fun o => MapKept.run_setObj_map (P := P) o hb, setBlock]
 | some x =>
  obtain ⟨i, u⟩ := x
  refine ⟨setBlock w b (.map (es.eraseIdxIfInBounds i) clock), ?_, ⟨_, _, heap_setBlock_same hb _, del_ents E hg⟩, ⟨_, _, _, _, hb, rfl⟩⟩
  simp [Builtin.delete_, run_underlying ht, MapKept.run_getObj_map hb, K.check, find_run K w a es.toList l E.read, hg, Result.andThen, fun o => MapKept.run_setObj_map (P := P) o hb, setBlock]
def Ran (w : World) (b r : Nat) (ke : α → Value) (ve : β → Value) (l : List (α × β)) (left : α → Bool) : Prop :=
 ∃ es clock since seen c0, w.heap[b]? = some (.map es clock) ∧ w.heap[r]? = some (.mapIter (some b) since seen c0) ∧ Ents ke ve es clock l ∧ since ≤ c0 ∧ since ≤ clock ∧ (∀ e ∈ es.toList, e.born < since) ∧
  ∀ e ∈ es.toList, ∀ a, e.key = ke a → seen.contains e.born = !left a
omit [DecidableEq α] in
theorem Ran.is {w : World} {b r : Nat} {ke : α → Value} {ve : β → Value} {l : List (α × β)} {left : α → Bool} (h : Ran w b r ke ve l left) : Is w b ke ve l := by
 obtain ⟨es, clock, since, seen, c0, hb, hr, E, _⟩ := h
 exact ⟨es, clock, hb, E⟩
omit [DecidableEq α] in
theorem Ran.congr {w w' : World} {b r : Nat} {ke : α → Value} {ve : β → Value} {l : List (α × β)} {left : α → Bool} (h : Ran w b r ke ve l left) (h1 : w'.heap[b]? = w.heap[b]?) (h2 : w'.heap[r]? = w.heap[r]?) : Ran w' b r ke ve l left := by
 obtain ⟨es, clock, since, seen, c0, hb, hr, E⟩ := h
 exact ⟨es, clock, since, seen, c0, by rw [h1, hb], by rw [h2, hr], E⟩
omit [DecidableEq α] in
theorem Is.congr {w w' : World} {b : Nat} {ke : α → Value} {ve : β → Value} {l : List (α × β)} (h : Is w b ke ve l) (h1 : w'.heap[b]? = w.heap[b]?) : Is w' b ke ve l := by
 obtain ⟨es, clock, hb, E⟩ := h
 exact ⟨es, clock, by rw [h1, hb], E⟩
omit [DecidableEq α] in
theorem Is.keys {w : World} {b : Nat} {ke : α → Value} {ve : β → Value} {l : List (α × β)} (h : Is w b ke ve l) : (l.map Prod.fst).Nodup := by
 obtain ⟨es, clock, hb, E⟩ := h
 exact E.keys
omit [DecidableEq α] in
theorem Is.lt {w : World} {b : Nat} {ke : α → Value} {ve : β → Value} {l : List (α × β)} (h : Is w b ke ve l) : b < w.heap.size := by
 obtain ⟨es, clock, hb, E⟩ := h
 exact (Array.getElem?_eq_some_iff.1 hb).1
omit [DecidableEq α] in
theorem Is.made (w : World) (ke : α → Value) (ve : β → Value) : Is (w.alloc (.map #[] 0)) w.heap.size ke ve [] :=
 ⟨#[], 0, heap_alloc_new _ _, by simp, by simp, by simp, by simp⟩
omit [DecidableEq α] in
theorem range_run {P : Program} {k t e : TypeId} {ke : α → Value} {ve : β → Value} (ht : P.underlying t = some (.map k e)) {w : World} {b : Nat} {l : List (α × β)} (h : Is w b ke ve l) :
  ∃ w', (Instr.range t (.map (some b))).run P w = .ok (.pointer (some ⟨w.heap.size, 0, none⟩)) w' ∧ Ran w' b w.heap.size ke ve l (fun _ => true) ∧ ∃ o, w' = w.alloc o := by
 have hlt := h.lt
 obtain ⟨es, clock, hb, E⟩ := h
 refine ⟨_, run_range_map w t k e b es clock ht hb, ⟨es, clock, clock, #[], clock, ?_, heap_alloc_new _ _, E, Nat.le_refl _, Nat.le_refl _, E.old, by simp⟩, _, rfl⟩
 show (w.heap.push _)[b]? = _
 rw [Array.getElem?_push_lt hlt, ← hb, Array.getElem?_eq_getElem hlt]
theorem next_run {P : Program} {ke : α → Value} {ve : β → Value} (inj : ∀ a b, ke a = ke b → a = b) {w : World} {b r : Nat} {l : List (α × β)} {left : α → Bool} (hbr : b ≠ r) (h : Ran w b r ke ve l left) (ty : TypeId) :
  ((∀ p ∈ l, left p.1 = false) ∧ (Instr.next (.pointer (some ⟨r, 0, none⟩)) false ty).run P w = .ok (.tuple #[.bool false]) w) ∨
  ∃ a v, (a, v) ∈ l ∧ left a = true ∧ ∃ w', (Instr.next (.pointer (some ⟨r, 0, none⟩)) false ty).run P w = .ok (.tuple #[.bool true, ke a, ve v]) w' ∧
   Ran w' b r ke ve l (fun x => left x && decide (x ≠ a)) ∧ w.grownBy w' (some r) ∧ w'.heap.size = w.heap.size ∧ (Instr.entry (.pointer (some ⟨r, 0, none⟩))).run P w' = .ok (.tuple #[ke a, ve v]) w' := by
 obtain ⟨es, clock, since, seen, c0, hb, hr, E, hsc, hsk, hold, hleft⟩ := h
 have hmem : ∀ e ∈ es.toList, ∃ p ∈ l, e.key = ke p.1 ∧ e.val = ve p.2 := by
  intro e he
  have h1 : (e.key, e.val) ∈ l.map (fun p => (ke p.1, ve p.2)) := by rw [← E.read]; exact List.mem_map.2 ⟨e, he, rfl⟩
  obtain ⟨p, hp, h2⟩ := List.mem_map.1 h1
  simp at h2
  exact ⟨p, hp, h2.1.symm, h2.2.symm⟩
 have hmem2 : ∀ p ∈ l, ∃ e ∈ es.toList, e.key = ke p.1 ∧ e.val = ve p.2 := by
  intro p hp
  have h1 : (ke p.1, ve p.2) ∈ es.toList.map (fun e => (e.key, e.val)) := by rw [E.read]; exact List.mem_map.2 ⟨p, hp, rfl⟩
  obtain ⟨e, he, h2⟩ := List.mem_map.1 h1
  simp at h2
  exact ⟨e, he, h2.1, h2.2⟩
 rcases run_next_at (P := P) w ty r b since c0 seen es clock hr hb hold hsc with ⟨h0, hrun⟩ | ⟨e, he, w1, hw1, hrun⟩
 ·left
  refine ⟨?_, hrun⟩
  intro p hp
  obtain ⟨e, he, h1, _⟩ := hmem2 p hp
  cases hc : left p.1
  ·rfl
  ·exfalso
   have h2 := hleft e he p.1 h1
   rw [hc] at h2
   have h3 : e ∈ leftOf es seen := by
    unfold leftOf
    rw [Array.mem_filter]
    exact ⟨by simpa using he, by simp at h2 ⊢; exact h2⟩
   have := Array.size_pos_of_mem h3
   omega
 ·right
  have hin : e ∈ es.toList ∧ seen.contains e.born = false := by
   unfold leftOf at he
   simp at he ⊢
   exact he
  obtain ⟨p, hp, h1, h2⟩ := hmem e hin.1
  have hl := hleft e hin.1 p.1 h1
  rw [hin.2] at hl
  have hw : w1.heap = w.heap ∧ w1.os = w.os ∧ w1.tape = w.tape ∧ w1.output = w.output := by rcases hw1 with rfl | rfl <;> exact ⟨rfl, rfl, rfl, rfl⟩
  have hr1 : w1.heap[r]? = some (.mapIter (some b) since seen c0) := by rw [hw.1]; exact hr
  have hlt : r < w1.heap.size := (Array.getElem?_eq_some_iff.1 hr1).1
  have hB : (setBlock w1 r (.mapIter (some b) since (seen.push e.born) clock)).heap[b]? = some (.map es clock) := by
   show (w1.heap.setIfInBounds r _)[b]? = _
   rw [Array.getElem?_setIfInBounds_ne (fun x => hbr x.symm), hw.1, hb]
  have hR : (setBlock w1 r (.mapIter (some b) since (seen.push e.born) clock)).heap[r]? = some (.mapIter (some b) since (seen.push e.born) clock) := by
   show (w1.heap.setIfInBounds r _)[r]? = _
   rw [Array.getElem?_setIfInBounds_self_of_lt hlt]
  refine ⟨p.1, p.2, hp, by cases hc : left p.1 <;> simp [hc] at hl ⊢, _, by rw [hrun, h1, h2], ⟨es, clock, since, _, clock, hB, hR, E, hsk, hsk, hold, ?_⟩, ?_, ?_, ?_⟩
  ·intro e1 he1 a ha
   rw [Array.contains_push, hleft e1 he1 a ha]
   by_cases hx : a = p.1
   ·subst hx
    have : e1.born = e.born := by
     obtain ⟨i, hi⟩ := List.mem_iff_getElem?.1 he1
     obtain ⟨j, hj⟩ := List.mem_iff_getElem?.1 hin.1
     have hl1 : ∀ {i : Nat} {x : MapEntry}, es.toList[i]? = some x → x.key = ke p.1 → ∃ q, l[i]? = some q ∧ q.1 = p.1 := by
      intro i x hx hkx
      have h3 := congrArg (·[i]?) E.read
      simp only [List.getElem?_map, hx, Option.map_some] at h3
      cases hq : l[i]? with
      | none => rw [hq] at h3; simp at h3
      | some q =>
       rw [hq] at h3
       simp at h3
       exact ⟨q, rfl, inj _ _ (by rw [← h3.1, hkx])⟩
     obtain ⟨q1, hq1, hk1⟩ := hl1 hi ha
     obtain ⟨q2, hq2, hk2⟩ := hl1 hj h1
     obtain rfl := nodup_at E.keys hq1 hq2 (by rw [hk1, hk2])
     rw [hi] at hj
     injection hj with hj
     rw [hj]
    simp [this]
   ·have : e1.born ≠ e.born := by
     intro hbn
     obtain ⟨i, hi⟩ := List.mem_iff_getElem?.1 he1
     obtain ⟨j, hj⟩ := List.mem_iff_getElem?.1 hin.1
     obtain rfl := nodup_at E.born hi hj hbn
     rw [hi] at hj
     injection hj with hj
     subst hj
     exact hx (inj _ _ (by rw [← ha, h1]))
    simp [hx, this]
  ·exact ⟨hw.2.1, hw.2.2.1, hw.2.2.2, by simp [setBlock, hw.1], fun i _ hi => by
    show (w1.heap.setIfInBounds r _)[i]? = _
    rw [Array.getElem?_setIfInBounds_ne (fun x => hi (by rw [x])), hw.1]⟩
  ·simp [setBlock, hw.1]
  ·rw [run_entry_at _ r b since seen es clock e hR hB hin.1 E.born, h1, h2]
theorem del_ran {P : Program} {k t e : TypeId} {ke : α → Value} {ve : β → Value} (K : KeyP P k ke) (ht : P.underlying t = some (.map k e)) {w : World} {b r : Nat} {l : List (α × β)} {left : α → Bool} (hbr : b ≠ r) (h : Ran w b r ke ve l left) (a : α) (ty : TypeId) :
  ∃ w', (Builtin.delete_ #[t, k] ty #[.map (some b), ke a]).run P w = .ok (.tuple #[]) w' ∧ Ran w' b r ke ve (del a l) left ∧ w.mapTurned w' b := by
 obtain ⟨es, clock, since, seen, c0, hb, hr, E, hsc, hsk, hold, hleft⟩ := h
 cases hg : get a l with
 | none =>
  refine ⟨setBlock w b (.map es clock), ?_, ⟨es, clock, since, seen, c0, heap_setBlock_same hb _, ?_, by rw [del_none hg]; exact E, hsc, hsk, hold, hleft⟩, ⟨_, _, _, _, hb, rfl⟩⟩
  ·simp [Builtin.delete_, run_underlying ht, MapKept.run_getObj_map hb, K.check, find_run K w a es.toList l E.read, hg, Result.andThen, fun o => MapKept.run_setObj_map (P := P) o hb, setBlock]
  ·rw [heap_setBlock_other hb _ (fun x => hbr x.symm), hr]
 | some x =>
  obtain ⟨i, u⟩ := x
  have E' := del_ents E hg
  have hsub : ∀ e0 ∈ (es.eraseIdxIfInBounds i).toList, e0 ∈ es.toList := by
   intro e0 he0
   have hs : es.size = l.length := by simpa using congrArg List.length E.read
   obtain ⟨hlt, _⟩ := List.getElem?_eq_some_iff.1 (get_some hg)
   have ht : (es.eraseIdxIfInBounds i).toList = es.toList.eraseIdx i := by
    have : i < es.size := by omega
    simp [Array.eraseIdxIfInBounds, this]
   rw [ht] at he0
   exact (List.eraseIdx_sublist _ _).subset he0
  refine ⟨setBlock w b (.map (es.eraseIdxIfInBounds i) clock), ?_, ⟨_, _, since, seen, c0, heap_setBlock_same hb _, ?_, E', hsc, hsk, fun e0 h0 => hold e0 (hsub e0 h0), fun e0 h0 => hleft e0 (hsub e0 h0)⟩, ⟨_, _, _, _, hb, rfl⟩⟩
  ·simp [Builtin.delete_, run_underlying ht, MapKept.run_getObj_map hb, K.check, find_run K w a es.toList l E.read, hg, Result.andThen, fun o => MapKept.run_setObj_map (P := P) o hb, setBlock]
  ·rw [heap_setBlock_other hb _ (fun x => hbr x.symm), hr]
theorem left_lt {l : List (α × β)} {left : α → Bool} {a : α} {v : β} (hm : (a, v) ∈ l) (ha : left a = true) :
  (l.filter fun p => left p.1 && decide (p.1 ≠ a)).length < (l.filter fun p => left p.1).length := by
 have e : (l.filter fun p => left p.1 && decide (p.1 ≠ a)) = (l.filter fun p => left p.1).filter fun p => decide (p.1 ≠ a) := by
  rw [List.filter_filter]
  congr 1
  funext p
  rw [Bool.and_comm]
 rw [e, List.length_filter_lt_length_iff_exists]
 exact ⟨(a, v), List.mem_filter.2 ⟨hm, ha⟩, by simp⟩
theorem left_le {l : List (α × β)} {left : α → Bool} (a : α) : ((del a l).filter fun p => left p.1).length ≤ (l.filter fun p => left p.1).length :=
 (List.filter_sublist.filter _).length_le
def V (w : World) (v : Value) (ke : α → Value) (ve : β → Value) (l : List (α × β)) : Prop := (v = .map none ∧ l = []) ∨ ∃ b, v = .map (some b) ∧ Is w b ke ve l
theorem look_v {P : Program} {k t e : TypeId} {ke : α → Value} {ve : β → Value} (K : KeyP P k ke) (ht : P.underlying t = some (.map k e)) {w : World} {m : Value} {l : List (α × β)} (h : V w m ke ve l) (a : α)
  {z : Value} (hz : (zeroValue e).run P w = .ok z w) :
  (Instr.lookup t m (ke a) true).run P w = .ok (.tuple #[((at? a l).map ve).getD z, .bool (at? a l).isSome]) w := by
 rcases h with ⟨rfl, rfl⟩ | ⟨b, rfl, h⟩
 ·rw [look_nil K ht w a hz]; rfl
 ·exact look_run K ht h a hz
omit [DecidableEq α] in
theorem len_v {P : Program} {k t e : TypeId} {ke : α → Value} {ve : β → Value} (ht : P.underlying t = some (.map k e)) {w : World} {m : Value} {l : List (α × β)} (h : V w m ke ve l) (ty : TypeId) :
  (Builtin.len_ #[t] ty #[m]).run P w = .ok (.int .i64 l.length) w := by
 rcases h with ⟨rfl, rfl⟩ | ⟨b, rfl, h⟩
 ·simp [Builtin.len_, run_underlying ht, goInt, Result.andThen]
 ·exact len_run ht h ty
section
variable {P : Program} (w : World) {ops : Array Oper} {rest : List Oper} {o : Oper} {a : Act} {Q : Exit → Act → World → Prop}
theorem wpList_put (hg : o.guard = none) (m x v : Operand) (t : TypeId) (hop : o.op = Op.mapUpdate t m x v) {k e : TypeId} {ke : α → Value} {ve : β → Value} (K : KeyP P k ke) (ht : P.underlying t = some (.map k e))
  {l : List (α × β)} {b : Nat} (hm : a.eval m = .map (some b)) (h : Is w b ke ve l) (c : α) (u : β) (hx : a.eval x = ke c) (hv : a.eval v = ve u)
  (hK : ∀ w', Is w' b ke ve (put c u l) → w.mapTurned w' b → wpList P ops Q rest (a.put o.dst undef) w') :
  wpList P ops Q (o :: rest) a w := by
 refine wpList_plain hg fun K' hK' => ?_
 obtain ⟨w', hrun, r1, r2⟩ := put_run K ht h c u
 unfold Oper.wp
 simp [execOp, hop, hm, hx, hv, hrun, Result.andThen]
 exact hK' _ _ (hK w' r1 r2)
theorem wpList_del (hg : o.guard = none) (m x : Operand) (t k : TypeId) (hop : o.op = Op.call { callee := Callee.builtin Builtin.delete, args := #[m, x], argTypes := #[t, k] })
  {e : TypeId} {ke : α → Value} {ve : β → Value} (K : KeyP P k ke) (ht : P.underlying t = some (.map k e)) {l : List (α × β)} {b : Nat} (hm : a.eval m = .map (some b)) (h : Is w b ke ve l) (c : α) (hx : a.eval x = ke c)
  (hK : ∀ w', Is w' b ke ve (del c l) → w.mapTurned w' b → wpList P ops Q rest (a.put o.dst (.tuple #[])) w') :
  wpList P ops Q (o :: rest) a w := by
 refine wpList_plain hg fun K' hK' => ?_
 obtain ⟨w', hrun, r1, r2⟩ := del_run K ht h c o.type
 unfold Oper.wp
 simp [execOp, hop, resolve, invoke, builtin, hm, hx, hrun, Result.andThen]
 exact hK' _ _ (hK w' r1 r2)
theorem wpList_delr (hg : o.guard = none) (m x : Operand) (t k : TypeId) (hop : o.op = Op.call { callee := Callee.builtin Builtin.delete, args := #[m, x], argTypes := #[t, k] })
  {e : TypeId} {ke : α → Value} {ve : β → Value} (K : KeyP P k ke) (ht : P.underlying t = some (.map k e)) {l : List (α × β)} {left : α → Bool} {b r : Nat} (hbr : b ≠ r) (hm : a.eval m = .map (some b)) (h : Ran w b r ke ve l left) (c : α) (hx : a.eval x = ke c)
  (hK : ∀ w', Ran w' b r ke ve (del c l) left → w.mapTurned w' b → wpList P ops Q rest (a.put o.dst (.tuple #[])) w') :
  wpList P ops Q (o :: rest) a w := by
 refine wpList_plain hg fun K' hK' => ?_
 obtain ⟨w', hrun, r1, r2⟩ := del_ran K ht hbr h c o.type
 unfold Oper.wp
 simp [execOp, hop, resolve, invoke, builtin, hm, hx, hrun, Result.andThen]
 exact hK' _ _ (hK w' r1 r2)
omit [DecidableEq α] in
theorem wpList_len (hg : o.guard = none) (m : Operand) (t : TypeId) (hop : o.op = Op.call { callee := Callee.builtin Builtin.len, args := #[m], argTypes := #[t] })
  {k e : TypeId} {ke : α → Value} {ve : β → Value} (ht : P.underlying t = some (.map k e)) {l : List (α × β)} {mv : Value} (hm : a.eval m = mv) (h : V w mv ke ve l)
  (hK : wpList P ops Q rest (a.put o.dst (.int .i64 l.length)) w) :
  wpList P ops Q (o :: rest) a w := by
 refine wpList_plain hg fun K' hK' => ?_
 unfold Oper.wp
 simp [execOp, hop, resolve, invoke, builtin, hm, len_v ht h o.type, Result.andThen]
 exact hK' _ _ hK
omit [DecidableEq α] in
theorem wpList_range (hg : o.guard = none) (m : Operand) (t : TypeId) (hop : o.op = Op.range t m) {k e : TypeId} {ke : α → Value} {ve : β → Value} (ht : P.underlying t = some (.map k e)) {l : List (α × β)} {b : Nat} (hm : a.eval m = .map (some b)) (h : Is w b ke ve l)
  (hK : ∀ w', Ran w' b w.heap.size ke ve l (fun _ => true) → (∃ o, w' = w.alloc o) → wpList P ops Q rest (a.put o.dst (.pointer (some ⟨w.heap.size, 0, none⟩))) w') :
  wpList P ops Q (o :: rest) a w := by
 refine wpList_plain hg fun K' hK' => ?_
 obtain ⟨w', hrun, r1, r2⟩ := range_run (P := P) ht h
 unfold Oper.wp
 simp [execOp, hop, hm, hrun, Result.andThen]
 exact hK' _ _ (hK w' r1 r2)
theorem wpList_next (hg : o.guard = none) (it : Operand) (hop : o.op = Op.next it false) {ke : α → Value} {ve : β → Value} (inj : ∀ a b, ke a = ke b → a = b) {l : List (α × β)} {left : α → Bool} {b r : Nat} (hbr : b ≠ r) (hit : a.eval it = .pointer (some ⟨r, 0, none⟩)) (h : Ran w b r ke ve l left)
  (hDone : (∀ p ∈ l, left p.1 = false) → wpList P ops Q rest (a.put o.dst (.tuple #[.bool false])) w)
  (hMore : ∀ c v w', (c, v) ∈ l → left c = true → Ran w' b r ke ve l (fun x => left x && decide (x ≠ c)) → w.grownBy w' (some r) → w'.heap.size = w.heap.size → (Instr.entry (.pointer (some ⟨r, 0, none⟩))).run P w' = .ok (.tuple #[ke c, ve v]) w' →
   wpList P ops Q rest (a.put o.dst (.tuple #[.bool true, ke c, ve v])) w') :
  wpList P ops Q (o :: rest) a w := by
 refine wpList_plain hg fun K' hK' => ?_
 unfold Oper.wp
 rcases next_run (P := P) inj hbr h o.type with ⟨h0, hrun⟩ | ⟨c, v, hm, hl, w', hrun, r1, r2, r3, r4⟩
 ·simp [execOp, hop, hit, hrun, Result.andThen]
  exact hK' _ _ (hDone h0)
 ·simp [execOp, hop, hit, hrun, Result.andThen]
  exact hK' _ _ (hMore c v w' hm hl r1 r2 r3 r4)
end
def two (p : Int × Int) : Value := .agg #[.int .i64 p.1, .int .i64 p.2]
def unit (_ : Unit) : Value := .agg #[]
theorem two_inj (a b : Int × Int) (h : two a = two b) : a = b := by
 unfold two at h
 injection h with h
 simp at h
 exact Prod.ext h.1 h.2
end Mp
end Go.Proofs.YtbojijefenfbgaaGreatDoor

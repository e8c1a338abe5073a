/- Towards: whatever script is handed in (of bulk at most 1048576), the statement Gates answers true: gates of the program's and of the document's, made, asked to admit, to close and how they stand, answer the same at every step and at the end.
  Conditions: the row's own ('upto': the bulk; 'laid': the program's table of round words starts as its text lays it, tied by the card). Rows of the package posternkeep: what their steps are in memory. The row of Turned: its contract. The row of Turned: its facts, one by one. -/
import Derived.Test.YtbojijefenfbgaaGreatDoorCards
import Derived.Test.YtbojijefenfbgaaGreatDoorTie
import Derived.ProofKit
import Derived.OpenShut
import Derived.Carry
import Derived.Deep.Slices
import Derived.Deep.DeepHandedRow
import Derived.Lib.LaidTab
import Derived.Test.YtbojijefenfbgaaGreatDoorTtTurnB
import Derived.ChangeMaps5
set_option maxRecDepth 100000
namespace Go.Proofs.YtbojijefenfbgaaGreatDoor.GatesP
open Go.ChangeShapes Go.WideShapes Go.ChangeAt Go.RowKit
theorem leaves {P : Program} {last : Machine} {w : World} {t : Trace} (h : aloneAtReturn P last w t) : leavingAtReturn P last w t := by
 obtain ⟨⟨h1, h2⟩, h3, h4⟩ := h
 refine ⟨h3, ⟨fun g hg => ⟨0, ?_⟩, h2⟩, h4⟩
 have := List.all_eq_true.1 h1 g hg
 show g.status = .finished
 exact eq_of_beq this
theorem q3c {p : Pinned} {s : OpenSpec} {c : OpenClaim} (hl : c.leaving = true) (ha : c.again = false) (hstart : c.start = .entering) (hst : c.stops = []) (h : ({ c with leaving := false } : OpenClaim).holds p s) : c.holds p s := by
 unfold OpenClaim.holds at h ⊢
 obtain ⟨a1, a2, a3, a4, a5, a6, a7, a8, f, fn, g1, g2, r, b1, b2, b3, b4, b5, k, c1, c2, c3, c4, c5, c6, m, l, q, n1, v1, e1, L, hL, all⟩ := h
 refine ⟨?_, a2, a3, a4, a5, a6, a7, a8, f, fn, g1, g2, r, b1, b2, b3, b4, b5, k, c1, c2, c3, c4, c5, c6, m, l, q, n1, v1, e1, L, hL, fun os x y H enc inj => ?_⟩
 ·cases c
  simp only at hl ha
  subst hl ha
  exact a1
 ·have A := all os x y H enc inj
  unfold OpenClaim.form at A ⊢
  simp only [hstart, hst] at A ⊢
  intro F
  obtain ⟨q1, q2, q3, q4, q5⟩ := A F
  refine ⟨q1, q2, q3, q4, fun w tape i hf => ?_⟩
  obtain ⟨n, v, w', d1, d2, d3, d4, ⟨j, last, d5, d6, d7⟩, d8⟩ := q5 w tape i hf
  refine ⟨n, v, w', d1, d2, d3, d4, ⟨j, last, d5, d6, ?_⟩, d8⟩
  unfold OpenClaim.atReturn at d7 ⊢
  rw [hl]
  exact leaves d7
theorem own : ownKnob Tryz.prog.godebug = none := by kernel_rfl
theorem laidOut : laidOutB Tryz.prog = true := by kernel_rfl
theorem j0t : Tryz.prog.globalNamed "postern/hash.roundWords" = some 0 := by kernel_rfl
theorem q1u : (Tryz.prog.globals[0]?).map (·.type) = some 179 := by kernel_rfl
theorem q1e : Tryz.prog.cellsOf 179 = 80 := by kernel_rfl
theorem k3f : Tryz.prog.cellsOf 159 = 1 := by kernel_rfl
def x9q : List Int := Sha.K.map un
theorem q9e : (Rows.laid_postern_hash_roundWords : DataW Unit) = Lib.tabData .u64 x9q := by kernel_rfl
theorem table {W : World} (h : laidMetH Tryz.prog Rows.gatesRow.laid W) : Hs.z0j W := by
 have h1 : laidMetH Tryz.prog [("postern/hash.roundWords", Rows.laid_postern_hash_roundWords)] W := h
 rw [q9e] at h1
 have ht : Lib.TabIs Tryz.prog W "postern/hash.roundWords" .u64 x9q := Lib.tabIs_of_head (rest := []) j0t q1u Tryz.underlying179 Tryz.underlying159 k3f q1e h1
 intro k hk
 have hk' : k < x9q.length := by unfold x9q; rw [List.length_map, Sha.q0i]; exact hk
 have hc := ht.cell j0t k hk'
 rw [hc]
 unfold x9q Sha.kAt
 simp [List.getElem_map, show k < Sha.K.length from hk]
theorem q3d {H : Type} (d : DataW H) : 1 ≤ Rows.uptoBulk d := by
 cases d with
 | lit l => cases l <;> simp [Rows.uptoBulk]
 | _ => simp [Rows.uptoBulk]
theorem q0z {H : Type} (l : List (DataW H)) : l.length ≤ Rows.uptoBulkAll l := by
 induction l with
 | nil => simp
 | cons d r ih =>
  have := q3d d
  simp only [List.length_cons, Rows.uptoBulkAll]
  omega
theorem collect {α : Type} {Q : Nat → α → Prop} : ∀ (n : Nat), (∀ i, i < n → ∃ a, Q i a) → ∃ l : List α, l.length = n ∧ ∀ (i : Nat) (a : α), l[i]? = some a → Q i a
 | 0, _ => ⟨[], rfl, fun i a h => by simp at h⟩
 | n + 1, h => by
  obtain ⟨l, hl, hq⟩ := collect n fun i hi => h i (by omega)
  obtain ⟨a, ha⟩ := h n (by omega)
  refine ⟨l ++ [a], by simp [hl], fun i b hb => ?_⟩
  by_cases hi : i < n
  ·rw [List.getElem?_append_left (by omega)] at hb
   exact hq i b hb
  ·have hlt := (lL hb)
   simp [hl] at hlt
   obtain rfl : i = n := by omega
   rw [List.getElem?_append_right (by omega), hl, Nat.sub_self] at hb
   simp at hb
   rw [← hb]
   exact ha
theorem k3d : Tryz.prog.cellsOf 3 = 1 := by kernel_rfl
theorem x5s {w : World} {base : Nat} {a : Addr} {n : Nat} {cs : List Value} (h : w.cells? base a n = some cs) : cs.length = n ∧ ∀ (j : Nat) (v : Value), cs[j]? = some v → w.cell? (a.add j) = some v := by
 unfold World.cells? at h
 split at h
 ·have hl := mapM_some_length h
  simp at hl
  refine ⟨hl, fun j v hv => ?_⟩
  have hj : j < n := by rw [← hl]; exact (lL hv)
  have := mapM_some_get h j j (by simp [hj])
  rw [this, hv]
 ·cases h
noncomputable def y0y (os : Os) : World :=
 { World.holding Tryz.prog os ⟨#[], #[], []⟩ with heap := (World.holding Tryz.prog os ⟨#[], #[], []⟩).heap.modify 0 fun
   | .cells _ t frozen => .cells (Own.z0f 80 k9d) t frozen
   | o => o }
end Go.Proofs.YtbojijefenfbgaaGreatDoor.GatesP
namespace Go.Proofs.YtbojijefenfbgaaGreatDoor.MetP
open Go.ChangeShapes Go.WideShapes Go.ChangeAt Go.RowKit
theorem x5r : Tryz.prog.cellsOf 81 = 4 := by kernel_rfl
theorem four : ∀ {cs : List Value}, cs.length = 4 → ∃ a b c d, cs = [a, b, c, d]
 | [a, b, c, d], _ => ⟨a, b, c, d, rfl⟩
theorem x8c {H : Type} {enc : TypeId × Value → H} {w : World} {base : Nat} {spare : Nat → Bool} {held : Bool} {fuel : Nat} {cs : List Value} {x : DataW H × List MemPlace} (h : DataW.trod enc Tryz.prog w base spare held fuel 81 cs = some x) : ∃ o : Tn.S4, cs = Tn.s4C o ∧ o.In := by
 obtain ⟨xs, n, _, _, hl, hlen, hf⟩ := DataW.trod_struct Tryz.underlying81 h
 rw [x5r] at hl
 obtain ⟨a, b, c, d, rfl⟩ := four hl
 have hlen' : xs.length = 4 := hlen
 have at' : ∀ k, k < 4 → ∃ y, xs[k]? = some y := fun k hk => ⟨_, List.getElem?_eq_getElem (by omega)⟩
 obtain ⟨y0, z0⟩ := at' 0 (by omega)
 obtain ⟨y1, z1⟩ := at' 1 (by omega)
 obtain ⟨y2, z2⟩ := at' 2 (by omega)
 obtain ⟨y3, z3⟩ := at' 3 (by omega)
 have f0 : DataW.trod enc Tryz.prog w base spare held n 3 (([a, b, c, d].drop 0).take (Tryz.prog.cellsOf 3)) = some y0 := (hf 0 _ rfl).trans z0
 have f1 : DataW.trod enc Tryz.prog w base spare held n 3 (([a, b, c, d].drop 1).take (Tryz.prog.cellsOf 3)) = some y1 := (hf 1 _ rfl).trans z1
 have f2 : DataW.trod enc Tryz.prog w base spare held n 3 (([a, b, c, d].drop 2).take (Tryz.prog.cellsOf 3)) = some y2 := (hf 2 _ rfl).trans z2
 have f3 : DataW.trod enc Tryz.prog w base spare held n 3 (([a, b, c, d].drop 3).take (Tryz.prog.cellsOf 3)) = some y3 := (hf 3 _ rfl).trans z3
 simp only [GatesP.k3d, List.drop_succ_cons, List.drop_zero, List.take_succ_cons, List.take_zero] at f0 f1 f2 f3
 obtain ⟨n0, e0, _, w0⟩ := DataW.trod_int Tryz.underlying3 f0
 obtain ⟨n1, e1, _, w1⟩ := DataW.trod_int Tryz.underlying3 f1
 obtain ⟨n2, e2, _, w2⟩ := DataW.trod_int Tryz.underlying3 f2
 obtain ⟨n3, e3, _, w3⟩ := DataW.trod_int Tryz.underlying3 f3
 simp only [List.cons.injEq, and_true] at e0 e1 e2 e3
 have hw : ∀ {n : Int}, Lit.wf (.int .i64 n) = true → Tn.I64 n := fun {n} w => by
  simp [Lit.wf, IntKind.min, IntKind.max, IntKind.signed, IntKind.bits] at w
  exact ⟨by omega, by omega⟩
 refine ⟨⟨n0, n1, n2, n3⟩, ?_, ?_⟩
 ·rw [e0, e1, e2, e3]
  rfl
 ·exact ⟨hw w0, hw w1, hw w2, hw w3⟩
def k7y (W : World) (a0 : Option Addr) (ss : List Tn.S4) : Prop := (ss = [] ∨ ∃ sb so, a0 = some ⟨sb, so, none⟩ ∧ sb < W.heap.size ∧ ∀ (i : Nat) (o : Tn.S4), ss[i]? = some o → W.rangeAt sb (so + i * 4) (Tn.s4C o)) ∧ ∀ o ∈ ss, o.In
theorem k7y.scr {W : World} {a0 : Option Addr} {ss : List Tn.S4} (h : k7y W a0 ss) : ∀ w', Below W.heap.size W w' → ∀ O, (∀ b i, O b i → W.heap.size ≤ b) → Tn.q6z O w' a0 ss := by
 intro w' hb O hO
 refine ⟨?_, h.2⟩
 rcases h.1 with e | ⟨sb, so, e, h1, h2⟩
 ·exact Or.inl e
 ·exact Or.inr ⟨sb, so, e, Nat.lt_of_lt_of_le h1 hb.size, fun i hi => by have := hO sb i hi; omega, fun i o ho => z1v (h2 i o ho) hb h1⟩
theorem k6o {H : Type} {enc : TypeId × Value → H} {W : World} {a0 : Option Addr} {len cap : Nat} {d : DataW H} {p : List MemPlace} {fuel : Nat} (hf : DataW.trod enc Tryz.prog W 0 (fun _ => true) true fuel 56 (Value.cells (.slice a0 len cap)).toList = some (d, p)) (hbd : Rows.uptoBulk d ≤ 1048576) : ∃ ss : List Tn.S4, len = ss.length ∧ k7y W a0 ss ∧ ss.length ≤ 1000000000000 := by
 rcases DataW.trod_slice Tryz.underlying56 hf with ⟨hcs, hx⟩ | ⟨a, len', cap', elems, rest, n, _, hcs, hx, _, hl, hm, hlen, hel, _⟩
 ·simp [Value.cells] at hcs
  obtain ⟨rfl, rfl, rfl⟩ := hcs
  exact ⟨[], rfl, ⟨Or.inl rfl, by simp⟩, by simp⟩
 ·simp [Value.cells] at hcs
  obtain ⟨rfl, rfl, rfl⟩ := hcs
  simp only [Prod.mk.injEq] at hx
  obtain ⟨rfl, _⟩ := hx
  simp only [Rows.uptoBulk] at hbd
  have hb1 := GatesP.q0z (elems.map (·.1))
  rw [List.length_map, hlen] at hb1
  obtain ⟨ss, hsl, hss⟩ := GatesP.collect (Q := fun i (o : Tn.S4) => (∀ (j : Nat) (v : Value), (Tn.s4C o)[j]? = some v → W.cell? ((a.add (i * 4)).add j) = some v) ∧ o.In) len fun i hi => by
   have h1 := hel i hi
   rw [List.getElem?_eq_getElem (by omega), Option.bind_eq_some_iff, x5r] at h1
   obtain ⟨cs, hc1, hc2⟩ := h1
   obtain ⟨o, rfl, ho⟩ := x8c hc2
   exact ⟨o, (GatesP.x5s hc1).2, ho⟩
  refine ⟨ss, hsl.symm, ⟨?_, fun o ho => ?_⟩, by omega⟩
  ·by_cases hl0 : len = 0
   ·exact .inl (List.length_eq_zero_iff.1 (by omega))
   ·obtain ⟨b, off, spot⟩ := a
    obtain ⟨o0, ho0⟩ : ∃ o, ss[0]? = some o := ⟨_, List.getElem?_eq_getElem (by omega)⟩
    have hspot : spot = none := by simpa [Addr.add] using World.cell?_spot ((hss 0 o0 ho0).1 0 _ rfl)
    subst hspot
    have hall : ∀ (i : Nat) (o : Tn.S4), ss[i]? = some o → W.rangeAt b (off + i * 4) (Tn.s4C o) := fun i o hi j v hv => by
     have := (hss i o hi).1 j v hv
     rw [Addr.add_mid, Addr.add_mid] at this
     exact this
    exact .inr ⟨b, off, rfl, block_lt_of_cell (hall 0 o0 ho0 0 _ rfl), hall⟩
  ·obtain ⟨i, hi⟩ := List.getElem?_of_mem ho
   exact (hss i o hi).2
end Go.Proofs.YtbojijefenfbgaaGreatDoor.MetP
namespace Go.Proofs.YtbojijefenfbgaaGreatDoor.TurnP
open Go.ChangeShapes Go.WideShapes Go.ChangeAt Go.RowKit Go.ChangeMaps MetP
theorem k6u {W : World} (h : laidMetH Tryz.prog Rows.turnedRow.laid W) : Hs.z0j W := GatesP.table h
theorem x6a (H : Type) (enc : TypeId × Value → H) (W : World) (base : Nat) (args : Array Value) (ds gs : List (DataW H)) (before : List MemPlace)
  (hval : ∀ (j : Nat) t v, Tryz.f9.params[j]? = some t → args[j]? = some v → Value.okWide Tryz.prog W .any base t v)
  (hW : DataW.Whole enc Tryz.prog Tryz.f9.params.toList Rows.turnedSpec.vars false W args.toList ds gs before)
  (hk : Rows.uptoSmall H (ds ++ gs) = true) (hL : laidMetH Tryz.prog Rows.turnedRow.laid W) :
  Calls Tryz.prog 9 args W fun e W' => ∃ v, e = .returned v ∧ Rows.turnedSpec.post enc Tryz.prog Tryz.f9 false true false false W args v W' := by
 have hW' := hW
 obtain ⟨p, q, hA0, hV, rfl, hfz, hnd⟩ := hW
 have hA : DataW.TrodAll enc Tryz.prog W 0 (fun _ => true) true Tryz.f9.params.toList args.toList ds p := hA0
 rw [Tryz.params9] at hA hval
 obtain ⟨v0, vs0, d0, ds0, p0, q0, hargs, rfl, rfl, h0, r0⟩ := trodAll_cons hA
 obtain ⟨v1, vs1, d1, ds1, p1, q1, rfl, rfl, rfl, h1, r1⟩ := trodAll_cons r0
 obtain ⟨v2, vs2, d2, ds2, p2, q2, rfl, rfl, rfl, h2, r2⟩ := trodAll_cons r1
 obtain ⟨rfl, rfl, rfl⟩ := trodAll_nil r2
 obtain rfl : args = #[v0, v1, v2] := by cases args; simp_all
 obtain ⟨rfl, rfl⟩ := trodVars_none hV
 obtain ⟨s, rfl, rfl, rfl, ws⟩ := open_string Tryz.underlying9 (hval 0 9 v0 rfl rfl) h0
 obtain ⟨a0, len, cap, rfl⟩ := okWide_slice Tryz.underlying56 (hval 1 56 v1 rfl rfl)
 obtain ⟨tv, rfl, rfl, rfl, wn⟩ := open_int Tryz.underlying3 (hval 2 3 v2 rfl rfl) h2
 have htv : Tn.I64 tv := by
  simp [Lit.wf, IntKind.min, IntKind.max, IntKind.signed, IntKind.bits] at wn
  exact ⟨by omega, by omega⟩
 have h1k := h1
 obtain ⟨fuel, hf⟩ := h1
 clear hA0
 simp only [List.append_nil, List.nil_append] at hW' hk
 have htab := k6u hL
 have hlt : ∀ x ∈ p1, x.block < W.heap.size := fun x hx => hW'.lt x (by simpa using hx)
 unfold Rows.uptoSmall at hk
 have hbd := of_decide_eq_true hk
 have fin : ∀ (W' : World), Below W.heap.size W W' → Rows.turnedSpec.post enc Tryz.prog Tryz.f9 false true false false W #[.string s, .slice a0 len cap, .int .i64 tv] (.bool true) W' := by
  intro W' hnx
  refine ⟨_, _, _, [], p1, [], hW', ?_, ?_, rfl, hnx.frame _, fun h => by cases h⟩
  ·exact trodAll_mk1 (shut_bool Tryz.underlying4 true)
  ·have h3 := trodAll_mk3 (shut_string Tryz.underlying9 ws) (Below.trod GatesP.laidOut (by kernel_rfl) (of_decide_eq_true (by kernel_rfl)) h1k hnx hlt) (shut_int Tryz.underlying3 wn)
   rw [List.nil_append, List.append_nil] at h3
   exact h3
 obtain ⟨ss, hsl, hp, h2'⟩ := k6o hf (by
  simp only [Rows.uptoBulkAll] at hbd
  omega)
 rw [hsl] at fin ⊢
 refine (Tn.q5b s.data.toList a0 cap ss tv htv W htab hp.scr h2').mono fun e W' ⟨he, hb⟩ => ?_
 subst he
 exact ⟨_, rfl, fin W' hb⟩
theorem k9j (os : Os) : laidMet Tryz.prog Rows.turnedRow.laid ((GatesP.y0y os).forCall (fun _ _ => 0) ⟨#[], #[.string ⟨#[]⟩, .slice none 0 0, .int .i64 0], []⟩).memory :=
 laidMet_of_run' 8 (by kernel_rfl) (by kernel_rfl)
theorem k6g (os : Os) {H : Type} (enc : TypeId × Value → H) : ∃ places, DataW.whole enc Tryz.prog ((GatesP.y0y os).forCall (fun _ _ => 0) ⟨#[], #[.string ⟨#[]⟩, .slice none 0 0, .int .i64 0], []⟩).memory Tryz.f9.params.toList Rows.turnedSpec.vars false #[Value.string ⟨#[]⟩, .slice none 0 0, .int .i64 0].toList 8 = some ([.lit (.string []), .nil, .lit (.int .i64 0)], [], places) :=
 ⟨[], by kernel_rfl⟩
theorem q9l (os : Os) (started : os.Started) (H : Type) (enc : TypeId × Value → H) (F : Stop.Interp) :
  ReturnsInHanded {} Tryz.checked os 9 .any ((Rows.OpenSpec.upto Rows.turnedSpec).preRow enc Tryz.prog Tryz.f9 Rows.turnedUptoRow.domain false Rows.turnedUptoRow.laid) (((Rows.OpenSpec.upto Rows.turnedSpec).at F).post enc Tryz.prog Tryz.f9 false true false false) := by
 obtain ⟨places, hx⟩ := k6g os enc
 refine returnsInHanded_of_row (C := Tryz.checked) (s := Rows.OpenSpec.upto Rows.turnedSpec) GatesP.own started (by kernel_rfl) Tryz.func9
  (witness_row_at (enc := enc) (C := Tryz.checked) false (GatesP.y0y os) #[.string ⟨#[]⟩, .slice none 0 0, .int .i64 0] rfl (by kernel_rfl) (by kernel_rfl) (by kernel_rfl)
   (OpenSpec.preRow_of_cond 8 hx (by kernel_rfl) (fun k hk => by cases hk; kernel_rfl) (by kernel_rfl) (k9j os))) ?_
 intro W base args ds gs before hval hW _ hcond _ hL _ _
 exact x6a H enc W base args ds gs before hval hW (hcond _ rfl) hL
end Go.Proofs.YtbojijefenfbgaaGreatDoor.TurnP
namespace Go.Proofs.YtbojijefenfbgaaGreatDoor.TurnP
def z2s : OpenClaim := { Rows.turnedUptoRow with leaving := false }
theorem z7j {a b : Bool} (h : a = true) (k : b = true) : (a && b) = true := by rw [h, k]; rfl
theorem k1 : (z2s.wf (OpenSpec.ofChange (Rows.OpenSpec.upto Rows.turnedSpec).bare)) = true := by kernel_rfl
theorem k2 : (laidOutB Tryz.pinned.checked.prog) = true := by kernel_rfl
theorem k3 : (mapsRowed Tryz.pinned.checked.prog) = true := by kernel_rfl
theorem k4 : (Tryz.f9.params.all (Tryz.pinned.checked.prog.readableRec ·)) = true := by kernel_rfl
theorem k5 : (namedTie Tryz.pinned.checked.prog z2s.named ((Rows.OpenSpec.upto Rows.turnedSpec).bare).vars) = true := by kernel_rfl
theorem k6 : ((z2s.stops == [])) = true := by kernel_rfl
theorem k7 : ((Tryz.pinned.checked.prog.stops == [])) = true := by kernel_rfl
theorem k8 : ((z2s.knobs == [])) = true := by kernel_rfl
theorem k9 : ((Tryz.pinned.checked.prog.stopKnobs == [])) = true := by kernel_rfl
theorem k10 : ((z2s.inPlace == Tryz.pinned.checked.prog.inPlace 9)) = true := by kernel_rfl
theorem k11 : ((z2s.unfollowed == Tryz.pinned.checked.prog.unfollowed 9)) = true := by kernel_rfl
theorem k12 : ((z2s.recurses == Tryz.pinned.checked.prog.recurses 9)) = true := by kernel_rfl
theorem k13 : ((z2s.named == Tryz.pinned.checked.prog.varsNamed 9)) = true := by kernel_rfl
theorem q8d : joinedFacts Tryz.pinned.checked.prog 9 Tryz.f9 (Rows.OpenSpec.upto Rows.turnedSpec).bare z2s = true := by
 unfold joinedFacts
 refine z7j ?_ (by kernel_rfl)
 refine z7j ?_ (by kernel_rfl)
 refine z7j ?_ (by kernel_rfl)
 refine z7j ?_ (by kernel_rfl)
 refine z7j ?_ (by kernel_rfl)
 refine z7j ?_ (by kernel_rfl)
 refine z7j ?_ (by kernel_rfl)
 refine z7j ?_ (by kernel_rfl)
 refine z7j ?_ (by kernel_rfl)
 refine z7j ?_ (by kernel_rfl)
 refine z7j ?_ (by kernel_rfl)
 refine z7j ?_ (by kernel_rfl)
 refine z7j ?_ (by kernel_rfl)
 refine z7j ?_ (by kernel_rfl)
 refine z7j ?_ (by kernel_rfl)
 refine z7j ?_ (by kernel_rfl)
 refine z7j ?_ (by kernel_rfl)
 refine z7j ?_ (by kernel_rfl)
 refine z7j ?_ (by kernel_rfl)
 exact (z7j (z7j (z7j (z7j (z7j (z7j (z7j (z7j (z7j (z7j (z7j (z7j k1 k2) k3) k4) k5) k6) k7) k8) k9) k10) k11) k12) k13)
end Go.Proofs.YtbojijefenfbgaaGreatDoor.TurnP

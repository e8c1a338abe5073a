/- Walk of the package posternkeep's alike. A town's gates meet: what each then knows. -/
import Derived.Test.YtbojijefenfbgaaGreatDoorMmShort
import Derived.Test.YtbojijefenfbgaaGreatDoorMmTownE
namespace Go.Proofs.YtbojijefenfbgaaGreatDoor
open Go Go.RowKit
namespace Tn
open Mp Bk Tk Gw Gt
theorem q4j {l : List Field} {a b c d e : String × TypeId × Nat} (h : l.map (fun f => (f.name, f.type, f.offset)) = [a, b, c, d, e]) : ∃ f g k m n : Field, l = [f, g, k, m, n] ∧ (f.name, f.type, f.offset) = a ∧ (g.name, g.type, g.offset) = b ∧ (k.name, k.type, k.offset) = c ∧ (m.name, m.type, m.offset) = d ∧ (n.name, n.type, n.offset) = e := by
 match l, h with
 | [], h => simp at h
 | [f], h => simp at h
 | [f, g], h => simp at h
 | [f, g, k], h => simp at h
 | [f, g, k, m], h => simp at h
 | [f, g, k, m, n], h =>
  simp only [List.map_cons, List.map_nil, List.cons.injEq, and_true] at h
  exact ⟨f, g, k, m, n, rfl, h.1, h.2.1, h.2.2.1, h.2.2.2.1, h.2.2.2.2⟩
 | f :: g :: k :: m :: n :: q :: r, h => simp at h
set_option maxRecDepth 100000 in
theorem q7q (x : It) (w : World) : (Op.equalIn 10000 73 (.agg (itC x).toArray) (.agg (itC x).toArray)).run Tryz.prog w = .ok true w := by
 have hs := run_equalIn_struct (P := Tryz.prog) w 9999 73 (itC x).toArray (itC x).toArray (by kernel_rfl) (by kernel_rfl)
 have hf : (Tryz.prog.fieldsOf 73).toList.map (fun f => (f.name, f.type, f.offset)) = [("Gate", 3, 0), ("Admission", 3, 1), ("Epoch", 3, 2), ("Serial", 3, 3), ("Gone", 4, 4)] := by kernel_rfl
 obtain ⟨f, g, k, m, n, hl, h1, h2, h3, h4, h5⟩ := q4j hf
 injection h1 with f1 h1
 injection h1 with f2 f3
 injection h2 with g1 h2
 injection h2 with g2 g3
 injection h3 with k1 h3
 injection h3 with k2 k3
 injection h4 with m1 h4
 injection h4 with m2 m3
 injection h5 with n1 h5
 injection h5 with n2 n3
 have p0 := run_part_plain (P := Tryz.prog) w (e := 3) (xs := (itC x).toArray) (off := 0) (v := .int .i64 x.gate) (by kernel_rfl) rfl
 have p1 := run_part_plain (P := Tryz.prog) w (e := 3) (xs := (itC x).toArray) (off := 1) (v := .int .i64 x.adm) (by kernel_rfl) rfl
 have p2 := run_part_plain (P := Tryz.prog) w (e := 3) (xs := (itC x).toArray) (off := 2) (v := .int .i64 x.epoch) (by kernel_rfl) rfl
 have p3 := run_part_plain (P := Tryz.prog) w (e := 3) (xs := (itC x).toArray) (off := 3) (v := .int .i64 x.serial) (by kernel_rfl) rfl
 have p4 := run_part_plain (P := Tryz.prog) w (e := 4) (xs := (itC x).toArray) (off := 4) (v := .bool x.gone) (by kernel_rfl) rfl
 have e3 : ∀ x : Int, (Op.equalIn 9999 3 (.int .i64 x) (.int .i64 x)).run Tryz.prog w = .ok true w := fun x => by
  simp [go_sem]
 have e4 : ∀ x : Bool, (Op.equalIn 9999 4 (.bool x) (.bool x)).run Tryz.prog w = .ok true w := fun x => by
  simp [go_sem]
 show (Op.equalIn (9999 + 1) _ _ _).run _ w = _
 rw [hs, hl]
 simp [Op.eqFields, f1, g1, k1, m1, n1, f2, g2, k2, m2, n2, f3, g3, k3, m3, n3, p0, p1, p2, p3, p4, e3, e4, Result.andThen_ok]
theorem Row.few {S : Nat → Prop} {w : World} {e : TypeId} {sz : Nat} {v : Value} {n : Nat} {xs : List Value} (h : Row S w e sz v n xs) : n ≤ maxLen := by
 rcases h.1.2 with ⟨_, rfl⟩ | ⟨g, cap, cur, _, _, _, h1, h2, _⟩
 ·exact Nat.zero_le _
 ·exact Nat.le_trans h1 h2
def told (s : St) : List UInt8 := if 0 < s.floor then s.order else []
theorem y4n {S : Nat → Prop} {w : World} {g : Nat} {s : St} (h : z0h S w g s) (hI : Inv s) : Calls Tryz.prog 28 #[.pointer (some ⟨g, 0, none⟩), .agg #[.int .i64 0, .slice none 0 0], .int .i64 1000000] w fun e w' => ∃ u, e = .returned u ∧ (∃ hv, u = .tuple #[.agg #[str (told s), hv], .int .i64 0] ∧ Row (fun k => w.heap.size ≤ k) w' 73 5 hv s.l.length (itL s.l)) ∧ Below w.heap.size w w' := by
 have ht := x2i h hI 0 (.slice none 0 0) [] 1000000 (z1h.nil (fun _ => False) w) (by decide) (fun p hp => by cases hp) rfl
 have e : z6y s.l (([] : List (Sn × Value)).map Prod.fst) 1000000 = s.l := by
  have hf : (s.l.filter fun x => !has (([] : List (Sn × Value)).map Prod.fst) x.key) = s.l := List.filter_eq_self.2 fun x _ => rfl
  unfold z6y
  rw [hf, List.take_of_length_le (by have := hI.few; omega)]
 rw [e] at ht
 exact ht
def al1 (g g' b5 b7 i : Nat) (f : Nat → Value) : Act := { tmps := #[.pointer (some ⟨g, 0, none⟩), .pointer (some ⟨g', 0, none⟩), f 2, f 3, .bool false, .pointer (some ⟨b5, 0, none⟩), f 6, .pointer (some ⟨b7, 0, none⟩), f 8, .int .i64 (i : Int), f 10, f 11, f 12, f 13, f 14, f 15, f 16, f 17, f 18, f 19, f 20, f 21, f 22, f 23, f 24, f 25, f 26, f 27, f 28, f 29, f 30, f 31, f 32, f 33, f 34, f 35, f 36, f 37, f 38, f 39, f 40, f 41, f 42, f 43, f 44, f 45, f 46, f 47, f 48, f 49, f 50, f 51, f 52, f 53, f 54, f 55, f 56, f 57, f 58, f 59, f 60, f 61, f 62, f 63, f 64, f 65, f 66, f 67, f 68, f 69, f 70, f 71, f 72, f 73, f 74, f 75, f 76, f 77, f 78, f 79, f 80, f 81, f 82, f 83, f 84, f 85, f 86, f 87, f 88, f 89, f 90, f 91, f 92, f 93, f 94, f 95, f 96, f 97, f 98, f 99, f 100, f 101, f 102, f 103, f 104, f 105, f 106, f 107, f 108, f 109, f 110, f 111, f 112, f 113, f 114, f 115, f 116, f 117, f 118, f 119, f 120, f 121, f 122, f 123, f 124, f 125, f 126, f 127, f 128, f 129, f 130, f 131, f 132, f 133, f 134, f 135, f 136, f 137, f 138, f 139, f 140, f 141, f 142, f 143], defers := [] }
def al2 (g g' : Nat) (v1 v2 : Value) (i : Nat) (f : Nat → Value) : Act := { tmps := #[.pointer (some ⟨g, 0, none⟩), .pointer (some ⟨g', 0, none⟩), f 2, f 3, .bool false, f 5, f 6, f 7, f 8, f 9, v1, v2, .int .i64 (i : Int), f 13, f 14, f 15, f 16, f 17, f 18, f 19, f 20, f 21, f 22, f 23, f 24, f 25, f 26, f 27, f 28, f 29, f 30, f 31, f 32, f 33, f 34, f 35, f 36, f 37, f 38, f 39, f 40, f 41, f 42, f 43, f 44, f 45, f 46, f 47, f 48, f 49, f 50, f 51, f 52, f 53, f 54, f 55, f 56, f 57, f 58, f 59, f 60, f 61, f 62, f 63, f 64, f 65, f 66, f 67, f 68, f 69, f 70, f 71, f 72, f 73, f 74, f 75, f 76, f 77, f 78, f 79, f 80, f 81, f 82, f 83, f 84, f 85, f 86, f 87, f 88, f 89, f 90, f 91, f 92, f 93, f 94, f 95, f 96, f 97, f 98, f 99, f 100, f 101, f 102, f 103, f 104, f 105, f 106, f 107, f 108, f 109, f 110, f 111, f 112, f 113, f 114, f 115, f 116, f 117, f 118, f 119, f 120, f 121, f 122, f 123, f 124, f 125, f 126, f 127, f 128, f 129, f 130, f 131, f 132, f 133, f 134, f 135, f 136, f 137, f 138, f 139, f 140, f 141, f 142, f 143], defers := [] }
set_option maxRecDepth 10000 in
set_option maxHeartbeats 1000000 in
theorem q9x {S T : Nat → Prop} {w : World} {g g' : Nat} {s t : St} (h : z0h S w g s) (h' : z0h T w g' t) (hI : Inv s) (hJ : Inv t) (hl : s.l = t.l) (hf : s.floor = t.floor) (ho : told s = told t) : Calls Tryz.prog 27 #[.pointer (some ⟨g, 0, none⟩), .pointer (some ⟨g', 0, none⟩)] w fun e w' => ∃ v, e = .returned v ∧ v = .bool true ∧ Below w.heap.size w w' := by
 go_enter Tryz.func27, Tryz.ntmps27
 refine wp_seq ?_
 refine Ks.reg ?_
 refine Ks.v (.bool false) ?_
 simp only [zD]
 refine Ks.done ?_
 refine wp_seq ?_
 refine Ks.reg ?_
 refine Ks.v (.pointer (some ⟨g, 0, none⟩)) ?_
 simp only [zD]
 refine Ks.v (.agg #[.int .i64 0, .slice none 0 0]) ?_
 simp only [zD]
 refine Ks.call rfl 28 #[.pointer (some ⟨g, 0, none⟩), .agg #[.int .i64 0, .slice none 0 0], .int .i64 1000000] (by kernel_rfl) (y4n h hI) ?_
 rintro _ w1 ⟨⟨hv, rfl, hrow⟩, hb1⟩
 have hone : hv.oneCell' = true := Row.one hrow
 simp only [zD]
 refine Ks.v (.tuple #[.agg #[str (told s), hv], .int .i64 0]) ?_
 simp only [zD]
 refine Ks.v (.agg #[str (told s), hv]) ?_
 simp only [zD]
 refine Ks.v (.int .i64 0) ?_
 simp only [zD]
 refine Ks.alloc rfl _ rfl (.agg #[.string ⟨#[]⟩, .slice none 0 0]) (by kernel_rfl) #[.string ⟨#[]⟩, .slice none 0 0] rfl ?_
 intro w2 b5 Hb5 HX2 HB2 HS2
 simp only [zD]
 refine Ks.whole rfl _ _ _ rfl b5 #[str (told s), hv] rfl rfl HX2.out (by kernel_rfl) rfl (by
  simp [Value.oneCell'] at hone ⊢
  exact ⟨rfl, hone⟩) ?_
 intro w3 HR3 HF3 HO3 HS3
 have hb23 : Below w1.heap.size w1 w3 := HB2.out.trans ((HF3.out (fun _ => False) w1.heap.size (Or.inr (Nat.le_of_eq Hb5.out.symm))).below (Nat.le_refl _) fun _ _ h => h)
 have hB3 : Below w.heap.size w w3 := hb1.trans (hb23.mono hb1.size)
 have hrow3 := (hrow.below hb23 (Nat.le_refl _)).mono (T := fun _ => True) fun _ _ => trivial
 have H3 : Hid (z0h T w3 g' t) := h'.below hB3
 clear HX2 HB2 HS2 HF3 HO3 HS3 hb23 hrow hb1 Hb5
 simp only [Act.put]
 refine Ks.v (.int .i64 0) ?_
 simp only [zD]
 refine Ks.done ?_
 refine wp_seq ?_
 refine Ks.reg ?_
 refine Ks.v (.pointer (some ⟨g', 0, none⟩)) ?_
 simp only [zD]
 refine Ks.v (.agg #[.int .i64 0, .slice none 0 0]) ?_
 simp only [zD]
 refine Ks.call rfl 28 #[.pointer (some ⟨g', 0, none⟩), .agg #[.int .i64 0, .slice none 0 0], .int .i64 1000000] (by kernel_rfl) (y4n H3.out hJ) ?_
 rintro _ w4 ⟨⟨hv', rfl, hrow'⟩, hb4⟩
 have hone' : hv'.oneCell' = true := Row.one hrow'
 have HR4 : Hid (w4.heap[b5]? = _) := (hb4.block b5 (Array.getElem?_eq_some_iff.1 HR3.out).1).trans HR3.out
 have hrow4 := hrow3.below hb4 (Nat.le_refl _)
 have hB4 : Below w.heap.size w w4 := hB3.trans (hb4.mono hB3.size)
 clear hb4 hrow3 HR3 hB3
 rw [← hl] at hrow'
 rw [← ho]
 generalize told s = od at HR4 ⊢
 simp only [zD]
 refine Ks.v (.tuple #[.agg #[str od, hv'], .int .i64 0]) ?_
 simp only [zD]
 refine Ks.v (.agg #[str od, hv']) ?_
 simp only [zD]
 refine Ks.v (.int .i64 0) ?_
 simp only [zD]
 refine Ks.alloc rfl _ rfl (.agg #[.string ⟨#[]⟩, .slice none 0 0]) (by kernel_rfl) #[.string ⟨#[]⟩, .slice none 0 0] rfl ?_
 intro w5 b7 Hb7 HX5 HB5 HS5
 simp only [zD]
 refine Ks.whole rfl _ _ _ rfl b7 #[str od, hv'] rfl rfl HX5.out (by kernel_rfl) rfl (by
  simp [Value.oneCell'] at hone' ⊢
  exact ⟨rfl, hone'⟩) ?_
 intro w6 HR6 HF6 HO6 HS6
 have hb56 : Below w4.heap.size w4 w6 := HB5.out.trans ((HF6.out (fun _ => False) w4.heap.size (Or.inr (Nat.le_of_eq Hb7.out.symm))).below (Nat.le_refl _) fun _ _ h => h)
 have hB6 : Below w.heap.size w w6 := hB4.trans (hb56.mono hB4.size)
 have HX6 : Hid (w6.heap[b5]? = some (.cells #[str od, hv] 66 (0, 0))) := (hb56.block b5 (Array.getElem?_eq_some_iff.1 HR4.out).1).trans HR4.out
 have hrow6 := hrow4.below hb56 (Nat.le_refl _)
 have hrow6' := (hrow'.below hb56 (Nat.le_refl _)).mono (T := fun _ => True) fun _ _ => trivial
 clear HX5 HB5 HS5 HF6 HO6 HS6 hb56 hrow' hrow4 HR4 Hb7 hB4 hone hone' H3
 obtain ⟨p1, c1, rfl, hcell1⟩ := Row.form hrow6
 obtain ⟨p2, c2, rfl, hcell2⟩ := Row.form hrow6'
 simp only [Act.put]
 refine Ks.v (.int .i64 0) ?_
 simp only [zD]
 refine Ks.done ?_
 refine wp_seq ?_
 refine wp_seq ?_
 refine Ks.reg ?_
 refine Ks.v (.int .i64 0) ?_
 simp only [zD]
 refine Ks.v (.bool false) ?_
 simp only [zD]
 refine Ks.v (.bool false) ?_
 simp only [zD]
 refine Ks.g (.int .i64 0) ?_
 simp only [zD]
 refine Ks.g (.bool false) ?_
 simp only [zD]
 refine Ks.v (.bool false) ?_
 simp only [zD]
 refine Ks.v (.bool false) ?_
 simp only [zD]
 refine Ks.g (.pointer (some ⟨b5, 0, none⟩)) ?_
 simp only [zD]
 refine Ks.z4k (by kernel_rfl) _ _ rfl Tryz.underlying9 rfl b5 0 (str od) rfl (z0b HX6.out 0 rfl) ?_
 simp only [zD]
 refine Ks.g (.pointer (some ⟨b7, 0, none⟩)) ?_
 simp only [zD]
 refine Ks.z4k (by kernel_rfl) _ _ rfl Tryz.underlying9 rfl b7 0 (str od) rfl (z0b HR6.out 0 rfl) ?_
 simp only [zD]
 refine Ks.y7p (by kernel_rfl) (.bool false) (by simp [execOp, go_sem, str]) ?_
 simp only [zD]
 refine Ks.v (.bool false) ?_
 simp only [zD]
 refine Ks.v (.bool false) ?_
 simp only [zD]
 refine Ks.g (.pointer (some ⟨b5, 1, none⟩)) ?_
 simp only [zD]
 refine Ks.z4k (by kernel_rfl) _ _ rfl Tryz.underlying64 rfl b5 1 (.slice p1 s.l.length c1) rfl (z0b HX6.out 1 rfl) ?_
 simp only [zD]
 refine Ks.g (.int .i64 (s.l.length : Int)) ?_
 simp only [zD]
 refine Ks.g (.pointer (some ⟨b7, 1, none⟩)) ?_
 simp only [zD]
 refine Ks.z4k (by kernel_rfl) _ _ rfl Tryz.underlying64 rfl b7 1 (.slice p2 s.l.length c2) rfl (z0b HR6.out 1 rfl) ?_
 simp only [zD]
 refine Ks.g (.int .i64 (s.l.length : Int)) ?_
 simp only [zD]
 refine Ks.y7p (by kernel_rfl) (.bool false) (by simp [execOp, go_sem]) ?_
 simp only [zD]
 refine Ks.v (.bool false) ?_
 simp only [zD]
 refine Ks.done ?_
 refine wp_cond_false rfl ?_
 refine wp_skip ?_
 refine Ks.norm ?_
 have hb5l := (Array.getElem?_eq_some_iff.1 HX6.out).1
 have hb7l := (Array.getElem?_eq_some_iff.1 HR6.out).1
 have hfew := hI.few
 refine Ks.cut (fun a' w' => Below w6.heap.size w6 w' ∧ ∃ f : Nat → Value, a' = al1 g g' b5 b7 s.l.length f) ?_ ?_
 ·refine wp_seq ?_
  refine Ks.reg ?_
  refine Ks.v (.int .i64 0) ?_
  simp only [zD]
  refine Ks.done ?_
  refine wp_block ?_
  refine Ks.loop (fun m a wr => ∃ (i : Nat) (f : Nat → Value), i ≤ s.l.length ∧ m = s.l.length - i ∧ Below w6.heap.size w6 wr ∧ a = al1 g g' b5 b7 i f) s.l.length ⟨0, fun j => Array.getD #[undef, undef, undef, undef, undef, undef, .int .i64 0, undef, .int .i64 0, undef, undef, undef, undef, undef, undef, .tuple #[.agg #[str od, .slice p1 s.l.length c1], .int .i64 0], .pointer (some ⟨g, 0, none⟩), .agg #[.int .i64 0, .slice none 0 0], .tuple #[.agg #[str od, .slice p1 s.l.length c1], .int .i64 0], .agg #[str od, .slice p1 s.l.length c1], .int .i64 0, .tuple #[.agg #[str od, .slice p2 s.l.length c2], .int .i64 0], .pointer (some ⟨g', 0, none⟩), .agg #[.int .i64 0, .slice none 0 0], .tuple #[.agg #[str od, .slice p2 s.l.length c2], .int .i64 0], .agg #[str od, .slice p2 s.l.length c2], .int .i64 0, .int .i64 0, .bool false, .bool false, .int .i64 0, .bool false, .bool false, .bool false, .pointer (some ⟨b5, 0, none⟩), str od, .pointer (some ⟨b7, 0, none⟩), str od, .bool false, .bool false, .bool false, .pointer (some ⟨b5, 1, none⟩), .slice p1 s.l.length c1, .int .i64 (s.l.length : Int), .pointer (some ⟨b7, 1, none⟩), .slice p2 s.l.length c2, .int .i64 (s.l.length : Int), .bool false, .bool false] j undef, Nat.zero_le _, rfl, Below.refl _ _, rfl⟩ ?_
  rintro m a wr ⟨i, f, hi, rfl, hb, rfl⟩
  have fin : ∀ (a' : Act) (w' : World) (i' : Nat), i < i' → i' ≤ s.l.length → Below w6.heap.size w6 w' → a' = al1 g g' b5 b7 i' (fun j => a'.tmps.getD j undef) → ∃ m, m < s.l.length - i ∧ ∃ (i : Nat) (f : Nat → Value), i ≤ s.l.length ∧ m = s.l.length - i ∧ Below w6.heap.size w6 w' ∧ a' = al1 g g' b5 b7 i f := fun a' w' i' q1 q2 q3 q4 => ⟨s.l.length - i', by omega, i', _, q2, rfl, q3, q4⟩
  have HXr : Hid (wr.heap[b5]? = some (.cells #[str od, .slice p1 s.l.length c1] 66 (0, 0))) := (hb.block b5 hb5l).trans HX6.out
  have HYr : Hid (wr.heap[b7]? = some (.cells #[str od, .slice p2 s.l.length c2] 66 (0, 0))) := (hb.block b7 hb7l).trans HR6.out
  unfold al1
  refine wp_seq ?_
  refine wp_seq ?_
  refine Ks.reg ?_
  refine Ks.v (.int .i64 (i : Int)) ?_
  simp only [zD]
  refine Ks.v (.pointer (some ⟨b5, 1, none⟩)) ?_
  simp only [zD]
  refine Ks.cell rfl _ _ rfl Tryz.underlying64 rfl b5 1 (.slice p1 s.l.length c1) rfl (z0b HXr.out 1 rfl) ?_
  simp only [zD]
  refine Ks.v (.int .i64 (s.l.length : Int)) ?_
  simp only [zD]
  refine Ks.v (.bool (decide ((i : Int) < s.l.length))) ?_
  simp only [zD]
  refine Ks.done ?_
  refine wp_cond_split rfl ?_ ?_
  ·intro hlt
   have hlt : i < s.l.length := by have := of_decide_eq_true hlt; omega
   obtain ⟨x, hx⟩ : ∃ x, s.l[i]? = some x := ⟨_, List.getElem?_eq_getElem hlt⟩
   obtain ⟨g1, cur1, rfl, hg1, ht1⟩ := hcell1 i hlt
   obtain ⟨g2, cur2, rfl, hg2, ht2⟩ := hcell2 i hlt
   have hgl1 := (Array.getElem?_eq_some_iff.1 hg1).1
   have hgl2 := (Array.getElem?_eq_some_iff.1 hg2).1
   have hr1 : wr.rangeAt g1 (i * 5) (itC x) := z1t (Row.range z5m hg1 ht1 hx) hb hgl1
   have hr2 : wr.rangeAt g2 (i * 5) (itC x) := z1t (Row.range z5m hg2 ht2 hx) hb hgl2
   have hs6 := hb.size
   refine wp_skip ?_
   refine Ks.norm ?_
   refine wp_seq ?_
   refine wp_block ?_
   refine wp_seq ?_
   refine Qt.z0r (by kernel_rfl) (by kernel_rfl) ?_
   refine Qg.val (by kernel_rfl) (.pointer (some ⟨b5, 1, none⟩)) (fun _ _ => by kernel_rfl) ?_
   simp only [zD]
   refine Qg.cell (by kernel_rfl) _ _ rfl Tryz.underlying64 rfl b5 1 (.slice (some ⟨g1, 0, none⟩) s.l.length c1) rfl (by omega) (z0b HXr.out 1 rfl) ?_
   simp only [zD]
   refine Qg.val (by kernel_rfl) (.int .i64 (i : Int)) (fun _ _ => by kernel_rfl) ?_
   simp only [zD]
   refine Qg.idx (by kernel_rfl) _ _ _ rfl 73 5 Tryz.underlying64 (by kernel_rfl) (by kernel_rfl) g1 s.l.length c1 i rfl rfl hlt ?_
   simp only [zD]
   refine Qg.mid (by kernel_rfl) _ _ rfl g1 (i * 5) rfl (itC x) (by omega) hr1 Tryz.underlying73 rfl (by kernel_rfl) ?_
   simp only [zD]
   refine Qg.val (by kernel_rfl) (.pointer (some ⟨b7, 1, none⟩)) (fun _ _ => by kernel_rfl) ?_
   simp only [zD]
   refine Qg.cell (by kernel_rfl) _ _ rfl Tryz.underlying64 rfl b7 1 (.slice (some ⟨g2, 0, none⟩) s.l.length c2) rfl (by omega) (z0b HYr.out 1 rfl) ?_
   simp only [zD]
   refine Qg.val (by kernel_rfl) (.int .i64 (i : Int)) (fun _ _ => by kernel_rfl) ?_
   simp only [zD]
   refine Qg.idx (by kernel_rfl) _ _ _ rfl 73 5 Tryz.underlying64 (by kernel_rfl) (by kernel_rfl) g2 s.l.length c2 i rfl rfl hlt ?_
   simp only [zD]
   refine Qg.mid (by kernel_rfl) _ _ rfl g2 (i * 5) rfl (itC x) (by omega) hr2 Tryz.underlying73 rfl (by kernel_rfl) ?_
   simp only [zD]
   refine Qg.val (by kernel_rfl) (.bool false) (fun w' _ => Ks.q7s _ _ _ _ rfl (itC x).toArray (itC x).toArray rfl rfl (by kernel_rfl) true (q7q x w')) ?_
   simp only [zD]
   refine wpQuiet_nil ?_
   intro w7 hb7
   refine Ks.norm ?_
   refine wp_cond_false rfl ?_
   refine wp_skip ?_
   refine Ks.inb ?_
   refine Ks.reg ?_
   refine Ks.v (.int .i64 (i : Int)) ?_
   simp only [zD]
   refine Ks.val rfl (.int .i64 ((i + 1 : Nat) : Int)) (by
    simp [execOp, go_sem]
    exact IntWalk.i64_in _ ⟨by omega, by omega⟩) ?_
   simp only [zD]
   refine Ks.v (.int .i64 ((i + 1 : Nat) : Int)) ?_
   simp only [zD]
   refine Ks.done ?_
   exact fin _ w7 (i + 1) (by omega) hlt (hb.trans (Below.mono hb7 hb.size)) rfl
  ·intro hlt
   obtain rfl : i = s.l.length := by have := of_decide_eq_false hlt; omega
   have finX : ∀ a' : Act, a' = al1 g g' b5 b7 s.l.length (fun j => a'.tmps.getD j undef) → Below w6.heap.size w6 wr ∧ ∃ f : Nat → Value, a' = al1 g g' b5 b7 s.l.length f := fun a' e => ⟨hb, _, e⟩
   refine wp_exit ?_
   refine Ks.z3d ?_
   exact finX _ rfl
 rintro a' w7 ⟨hb7, f7, rfl⟩
 have hB7 : Below w.heap.size w w7 := hB6.trans (hb7.mono hB6.size)
 have H7 : Hid (z0h S w7 g s) := h.below hB7
 have H7' : Hid (z0h T w7 g' t) := h'.below hB7
 clear hb7 hB6 hb5l hb7l hcell1 hcell2 hrow6 hrow6' HX6 HR6 h h'
 unfold al1
 refine wp_seq ?_
 refine Ks.reg ?_
 refine Ks.v (.pointer (some ⟨g, 0, none⟩)) ?_
 simp only [zD]
 refine Ks.call rfl 33 #[.pointer (some ⟨g, 0, none⟩)] (by kernel_rfl) (x1h H7.out hI) ?_
 rintro v1 w8 ⟨⟨l1, hi1, hA1⟩, hb8⟩
 have H8 : Hid (z0h T w8 g' t) := H7'.out.below hb8
 have H8s : Hid (z0h S w8 g s) := H7.out.below hb8
 have hB8 : Below w.heap.size w w8 := hB7.trans (hb8.mono hB7.size)
 clear H7 H7' hB7
 simp only [zD]
 refine Ks.v (v1) ?_
 simp only [zD]
 refine Ks.done ?_
 refine wp_seq ?_
 refine Ks.reg ?_
 refine Ks.v (.pointer (some ⟨g', 0, none⟩)) ?_
 simp only [zD]
 refine Ks.call rfl 33 #[.pointer (some ⟨g', 0, none⟩)] (by kernel_rfl) (x1h H8.out hJ) ?_
 rintro v2 w9 ⟨⟨l2, hi2, hA2⟩, hb9⟩
 have H9 : Hid (z0h T w9 g' t) := H8.out.below hb9
 have H9s : Hid (z0h S w9 g s) := H8s.out.below hb9
 have hB9 : Below w.heap.size w w9 := hB8.trans (hb9.mono hB8.size)
 have hA1' := (hA1.below hb9).mono (T := fun _ => True) fun _ _ => trivial
 have hA2' := hA2.mono (T := fun _ => True) fun _ _ => trivial
 rw [← hl] at hi2
 have hll := hi1.eq hi2
 have hlen : l2.length = l1.length := by
  have := congrArg List.length hll
  simpa using this.symm
 have hmax := Row.few hA1'.row
 clear H8 H8s hB8 hA1 hA2 hb9 hb8 hi1 hi2
 obtain ⟨p3, c3, rfl, hcell3⟩ := Row.form hA1'.row
 obtain ⟨p4, c4, rfl, hcell4⟩ := Row.form hA2'.row
 rw [hlen] at hcell4 ⊢
 simp only [zD]
 refine Ks.v (.slice p4 l1.length c4) ?_
 simp only [zD]
 refine Ks.done ?_
 refine wp_seq ?_
 refine wp_seq ?_
 refine Ks.reg ?_
 refine Ks.v (.slice p3 l1.length c3) ?_
 simp only [zD]
 refine Ks.v (.int .i64 (l1.length : Int)) ?_
 simp only [zD]
 refine Ks.v (.slice p4 l1.length c4) ?_
 simp only [zD]
 refine Ks.v (.int .i64 (l1.length : Int)) ?_
 simp only [zD]
 refine Ks.val rfl (.bool false) (by simp [execOp, go_sem]) ?_
 simp only [zD]
 refine Ks.done ?_
 refine wp_cond_false rfl ?_
 refine wp_skip ?_
 refine Ks.norm ?_
 refine Ks.cut (fun a' w' => Below w9.heap.size w9 w' ∧ ∃ f : Nat → Value, a' = al2 g g' (.slice p3 l1.length c3) (.slice p4 l1.length c4) l1.length f) ?_ ?_
 ·refine wp_seq ?_
  refine Ks.reg ?_
  refine Ks.v (.int .i64 0) ?_
  simp only [zD]
  refine Ks.done ?_
  refine wp_block ?_
  have start : ∀ a0 : Act, a0 = al2 g g' (.slice p3 l1.length c3) (.slice p4 l1.length c4) 0 (fun j => a0.tmps.getD j undef) → ∃ (i : Nat) (f : Nat → Value), i ≤ l1.length ∧ l1.length = l1.length - i ∧ Below w9.heap.size w9 w9 ∧ a0 = al2 g g' (.slice p3 l1.length c3) (.slice p4 l1.length c4) i f := fun a0 e => ⟨0, _, Nat.zero_le _, rfl, Below.refl _ _, e⟩
  refine Ks.loop (fun m a wr => ∃ (i : Nat) (f : Nat → Value), i ≤ l1.length ∧ m = l1.length - i ∧ Below w9.heap.size w9 wr ∧ a = al2 g g' (.slice p3 l1.length c3) (.slice p4 l1.length c4) i f) l1.length (start _ rfl) ?_
  rintro m a wr ⟨i, f, hi, rfl, hb, rfl⟩
  have fin : ∀ (a' : Act) (w' : World) (i' : Nat), i < i' → i' ≤ l1.length → Below w9.heap.size w9 w' → a' = al2 g g' (.slice p3 l1.length c3) (.slice p4 l1.length c4) i' (fun j => a'.tmps.getD j undef) → ∃ m, m < l1.length - i ∧ ∃ (i : Nat) (f : Nat → Value), i ≤ l1.length ∧ m = l1.length - i ∧ Below w9.heap.size w9 w' ∧ a' = al2 g g' (.slice p3 l1.length c3) (.slice p4 l1.length c4) i f := fun a' w' i' q1 q2 q3 q4 => ⟨l1.length - i', by omega, i', _, q2, rfl, q3, q4⟩
  unfold al2
  refine wp_seq ?_
  refine wp_seq ?_
  refine Ks.reg ?_
  refine Ks.v (.int .i64 (i : Int)) ?_
  simp only [zD]
  refine Ks.v (.slice p3 l1.length c3) ?_
  simp only [zD]
  refine Ks.v (.int .i64 (l1.length : Int)) ?_
  simp only [zD]
  refine Ks.v (.bool (decide ((i : Int) < l1.length))) ?_
  simp only [zD]
  refine Ks.done ?_
  refine wp_cond_split rfl ?_ ?_
  ·intro hlt
   have hlt : i < l1.length := by have := of_decide_eq_true hlt; omega
   obtain ⟨⟨tw, m1⟩, hx1⟩ : ∃ x, l1[i]? = some x := ⟨_, List.getElem?_eq_getElem hlt⟩
   obtain ⟨⟨tw', m2⟩, hx2⟩ : ∃ x, l2[i]? = some x := ⟨_, List.getElem?_eq_getElem (by omega)⟩
   obtain rfl : tw = tw' := by
    have e := congrArg (fun l => l[i]?) hll
    simp only [List.getElem?_map, hx1, hx2, Option.map_some] at e
    exact Option.some.inj e
   obtain ⟨g3, cur3, rfl, hg3, ht3⟩ := hcell3 i hlt
   obtain ⟨g4, cur4, rfl, hg4, ht4⟩ := hcell4 i hlt
   obtain ⟨q1, d1, e1, _⟩ := Row.form (hA1'.more _ (List.mem_of_getElem? hx1))
   obtain ⟨q2, d2, e2, _⟩ := Row.form (hA2'.more _ (List.mem_of_getElem? hx2))
   simp only at e1 e2
   subst e1 e2
   have hgl3 := (Array.getElem?_eq_some_iff.1 hg3).1
   have hgl4 := (Array.getElem?_eq_some_iff.1 hg4).1
   have hr3 := z1t (Row.range (f := fun p : Tw × Value => [.int .i64 p.1.epoch, .int .i64 p.1.serial, p.2]) (m := 3) (fun _ => rfl) hg3 ht3 hx1) hb hgl3
   have hr4 := z1t (Row.range (f := fun p : Tw × Value => [.int .i64 p.1.epoch, .int .i64 p.1.serial, p.2]) (m := 3) (fun _ => rfl) hg4 ht4 hx2) hb hgl4
   have hs9 := hb.size
   refine wp_skip ?_
   refine Ks.norm ?_
   refine wp_seq ?_
   refine wp_block ?_
   refine wp_seq ?_
   refine Qt.z0r (by kernel_rfl) (by kernel_rfl) ?_
   refine Qg.val (by kernel_rfl) (.slice (some ⟨g3, 0, none⟩) l1.length c3) (fun _ _ => by kernel_rfl) ?_
   simp only [zD]
   refine Qg.val (by kernel_rfl) (.int .i64 (i : Int)) (fun _ _ => by kernel_rfl) ?_
   simp only [zD]
   refine Qg.idx (by kernel_rfl) _ _ _ rfl 86 3 Tryz.underlying83 (by kernel_rfl) (by kernel_rfl) g3 l1.length c3 i rfl rfl hlt ?_
   simp only [zD]
   refine Qg.val (by kernel_rfl) (.pointer (some ⟨g3, i * 3 + 0, none⟩)) (fun _ _ => by kernel_rfl) ?_
   simp only [zD]
   refine Qg.cell (by kernel_rfl) _ _ rfl Tryz.underlying3 rfl g3 (i * 3 + 0) (.int .i64 tw.epoch) rfl (by omega) (hr3 0 _ rfl) ?_
   simp only [zD]
   refine Qg.val (by kernel_rfl) (.slice (some ⟨g4, 0, none⟩) l1.length c4) (fun _ _ => by kernel_rfl) ?_
   simp only [zD]
   refine Qg.val (by kernel_rfl) (.int .i64 (i : Int)) (fun _ _ => by kernel_rfl) ?_
   simp only [zD]
   refine Qg.idx (by kernel_rfl) _ _ _ rfl 86 3 Tryz.underlying83 (by kernel_rfl) (by kernel_rfl) g4 l1.length c4 i rfl rfl hlt ?_
   simp only [zD]
   refine Qg.val (by kernel_rfl) (.pointer (some ⟨g4, i * 3 + 0, none⟩)) (fun _ _ => by kernel_rfl) ?_
   simp only [zD]
   refine Qg.cell (by kernel_rfl) _ _ rfl Tryz.underlying3 rfl g4 (i * 3 + 0) (.int .i64 tw.epoch) rfl (by omega) (hr4 0 _ rfl) ?_
   simp only [zD]
   refine Qg.val (by kernel_rfl) (.bool false) (fun w' _ => by simp [execOp, go_sem]) ?_
   simp only [zD]
   refine Qg.val (by kernel_rfl) (.bool false) (fun _ _ => by kernel_rfl) ?_
   simp only [zD]
   refine Qg.val (by kernel_rfl) (.slice (some ⟨g3, 0, none⟩) l1.length c3) (fun _ _ => by kernel_rfl) ?_
   simp only [zD]
   refine Qg.val (by kernel_rfl) (.int .i64 (i : Int)) (fun _ _ => by kernel_rfl) ?_
   simp only [zD]
   refine Qg.idx (by kernel_rfl) _ _ _ rfl 86 3 Tryz.underlying83 (by kernel_rfl) (by kernel_rfl) g3 l1.length c3 i rfl rfl hlt ?_
   simp only [zD]
   refine Qg.val (by kernel_rfl) (.pointer (some ⟨g3, i * 3 + 1, none⟩)) (fun _ _ => by kernel_rfl) ?_
   simp only [zD]
   refine Qg.cell (by kernel_rfl) _ _ rfl Tryz.underlying3 rfl g3 (i * 3 + 1) (.int .i64 tw.serial) rfl (by omega) (hr3 1 _ rfl) ?_
   simp only [zD]
   refine Qg.val (by kernel_rfl) (.slice (some ⟨g4, 0, none⟩) l1.length c4) (fun _ _ => by kernel_rfl) ?_
   simp only [zD]
   refine Qg.val (by kernel_rfl) (.int .i64 (i : Int)) (fun _ _ => by kernel_rfl) ?_
   simp only [zD]
   refine Qg.idx (by kernel_rfl) _ _ _ rfl 86 3 Tryz.underlying83 (by kernel_rfl) (by kernel_rfl) g4 l1.length c4 i rfl rfl hlt ?_
   simp only [zD]
   refine Qg.val (by kernel_rfl) (.pointer (some ⟨g4, i * 3 + 1, none⟩)) (fun _ _ => by kernel_rfl) ?_
   simp only [zD]
   refine Qg.cell (by kernel_rfl) _ _ rfl Tryz.underlying3 rfl g4 (i * 3 + 1) (.int .i64 tw.serial) rfl (by omega) (hr4 1 _ rfl) ?_
   simp only [zD]
   refine Qg.val (by kernel_rfl) (.bool false) (fun w' _ => by simp [execOp, go_sem]) ?_
   simp only [zD]
   refine Qg.val (by kernel_rfl) (.bool false) (fun _ _ => by kernel_rfl) ?_
   simp only [zD]
   refine Qg.val (by kernel_rfl) (.bool false) (fun _ _ => by kernel_rfl) ?_
   simp only [zD]
   refine Qg.val (by kernel_rfl) (.slice (some ⟨g3, 0, none⟩) l1.length c3) (fun _ _ => by kernel_rfl) ?_
   simp only [zD]
   refine Qg.val (by kernel_rfl) (.int .i64 (i : Int)) (fun _ _ => by kernel_rfl) ?_
   simp only [zD]
   refine Qg.idx (by kernel_rfl) _ _ _ rfl 86 3 Tryz.underlying83 (by kernel_rfl) (by kernel_rfl) g3 l1.length c3 i rfl rfl hlt ?_
   simp only [zD]
   refine Qg.val (by kernel_rfl) (.pointer (some ⟨g3, i * 3 + 2, none⟩)) (fun _ _ => by kernel_rfl) ?_
   simp only [zD]
   refine Qg.cell (by kernel_rfl) _ _ rfl Tryz.underlying25 rfl g3 (i * 3 + 2) (.slice q1 tw.gates.length d1) rfl (by omega) (hr3 2 _ rfl) ?_
   simp only [zD]
   refine Qg.val (by kernel_rfl) (.int .i64 (tw.gates.length : Int)) (fun _ _ => by kernel_rfl) ?_
   simp only [zD]
   refine Qg.val (by kernel_rfl) (.slice (some ⟨g4, 0, none⟩) l1.length c4) (fun _ _ => by kernel_rfl) ?_
   simp only [zD]
   refine Qg.val (by kernel_rfl) (.int .i64 (i : Int)) (fun _ _ => by kernel_rfl) ?_
   simp only [zD]
   refine Qg.idx (by kernel_rfl) _ _ _ rfl 86 3 Tryz.underlying83 (by kernel_rfl) (by kernel_rfl) g4 l1.length c4 i rfl rfl hlt ?_
   simp only [zD]
   refine Qg.val (by kernel_rfl) (.pointer (some ⟨g4, i * 3 + 2, none⟩)) (fun _ _ => by kernel_rfl) ?_
   simp only [zD]
   refine Qg.cell (by kernel_rfl) _ _ rfl Tryz.underlying25 rfl g4 (i * 3 + 2) (.slice q2 tw.gates.length d2) rfl (by omega) (hr4 2 _ rfl) ?_
   simp only [zD]
   refine Qg.val (by kernel_rfl) (.int .i64 (tw.gates.length : Int)) (fun _ _ => by kernel_rfl) ?_
   simp only [zD]
   refine Qg.val (by kernel_rfl) (.bool false) (fun w' _ => by simp [execOp, go_sem]) ?_
   simp only [zD]
   refine Qg.val (by kernel_rfl) (.bool false) (fun _ _ => by kernel_rfl) ?_
   simp only [zD]
   refine wpQuiet_nil ?_
   intro w10 hb10
   refine Ks.norm ?_
   refine wp_cond_false rfl ?_
   refine wp_skip ?_
   refine Ks.inb ?_
   refine Ks.reg ?_
   refine Ks.v (.int .i64 (i : Int)) ?_
   simp only [zD]
   refine Ks.val rfl (.int .i64 ((i + 1 : Nat) : Int)) (by
    simp [execOp, go_sem]
    exact IntWalk.i64_in _ ⟨by omega, by unfold maxLen at hmax; omega⟩) ?_
   simp only [zD]
   refine Ks.v (.int .i64 ((i + 1 : Nat) : Int)) ?_
   simp only [zD]
   refine Ks.done ?_
   exact fin _ w10 (i + 1) (by omega) hlt (hb.trans (Below.mono hb10 hb.size)) rfl
  ·intro hlt
   obtain rfl : i = l1.length := by have := of_decide_eq_false hlt; omega
   have finX : ∀ a' : Act, a' = al2 g g' (.slice p3 l1.length c3) (.slice p4 l1.length c4) l1.length (fun j => a'.tmps.getD j undef) → Below w9.heap.size w9 wr ∧ ∃ f : Nat → Value, a' = al2 g g' (.slice p3 l1.length c3) (.slice p4 l1.length c4) l1.length f := fun a' e => ⟨hb, _, e⟩
   refine wp_exit ?_
   refine Ks.z3d ?_
   exact finX _ rfl
 rintro a' w11 ⟨hb11, f11, rfl⟩
 have H11 : Hid (z0h T w11 g' t) := H9.out.below hb11
 have H11s : Hid (z0h S w11 g s) := H9s.out.below hb11
 have hB11 : Below w.heap.size w w11 := hB9.trans (hb11.mono hB9.size)
 clear H9 H9s hB9 hb11 hcell3 hcell4 hA1' hA2'
 unfold al2
 refine wp_seq ?_
 refine Ks.reg ?_
 refine Ks.v (.pointer (some ⟨g, 0, none⟩)) ?_
 simp only [zD]
 refine Ks.call rfl 66 #[.pointer (some ⟨g, 0, none⟩)] (by kernel_rfl) (R := fun v w' => v = .agg (stC s) ∧ Below w11.heap.size w11 w') ((q5m H11s.out).mono fun e w' hx => ⟨_, hx.1, rfl, hx.2⟩) ?_
 rintro _ w12 ⟨rfl, hb12⟩
 simp only [zD]
 refine Ks.alloc rfl _ rfl (.agg #[.int .i64 0, .int .i64 0, .int .i64 0, .int .i64 0]) (by kernel_rfl) #[.int .i64 0, .int .i64 0, .int .i64 0, .int .i64 0] rfl ?_
 intro w13 b13 Hb13 HX13 HB13 HS13
 simp only [zD]
 refine Ks.whole rfl _ _ _ rfl b13 (stC s) rfl rfl HX13.out (by kernel_rfl) rfl (by kernel_rfl) ?_
 intro w14 HR14 HF14 HO14 HS14
 have hb14 : Below w12.heap.size w12 w14 := HB13.out.trans ((HF14.out (fun _ => False) w12.heap.size (Or.inr (Nat.le_of_eq Hb13.out.symm))).below (Nat.le_refl _) fun _ _ h => h)
 have hB14 : Below w.heap.size w w14 := (hB11.trans (hb12.mono hB11.size)).trans (hb14.mono (Nat.le_trans hB11.size hb12.size))
 have H14 : Hid (z0h T w14 g' t) := (H11.out.below hb12).below hb14
 clear hb12 hb14 hB11 H11 H11s HX13 HB13 HS13 HF14 HO14 HS14 Hb13
 simp only [Act.put]
 refine Ks.done ?_
 refine wp_seq ?_
 refine Ks.reg ?_
 refine Ks.v (.pointer (some ⟨g', 0, none⟩)) ?_
 simp only [zD]
 refine Ks.call rfl 66 #[.pointer (some ⟨g', 0, none⟩)] (by kernel_rfl) (R := fun v w' => v = .agg (stC t) ∧ Below w14.heap.size w14 w') ((q5m H14.out).mono fun e w' hx => ⟨_, hx.1, rfl, hx.2⟩) ?_
 rintro _ w15 ⟨rfl, hb15⟩
 simp only [zD]
 refine Ks.alloc rfl _ rfl (.agg #[.int .i64 0, .int .i64 0, .int .i64 0, .int .i64 0]) (by kernel_rfl) #[.int .i64 0, .int .i64 0, .int .i64 0, .int .i64 0] rfl ?_
 intro w16 b16 Hb16 HX16 HB16 HS16
 simp only [zD]
 refine Ks.whole rfl _ _ _ rfl b16 (stC t) rfl rfl HX16.out (by kernel_rfl) rfl (by kernel_rfl) ?_
 intro w17 HR17 HF17 HO17 HS17
 have hb17 : Below w15.heap.size w15 w17 := HB16.out.trans ((HF17.out (fun _ => False) w15.heap.size (Or.inr (Nat.le_of_eq Hb16.out.symm))).below (Nat.le_refl _) fun _ _ h => h)
 have hb147 : Below w14.heap.size w14 w17 := hb15.trans (hb17.mono hb15.size)
 have hB17 : Below w.heap.size w w17 := hB14.trans (hb147.mono hB14.size)
 have HR14' : Hid (w17.heap[b13]? = some (.cells (stC s) 129 (0, 0))) := (hb147.block b13 (Array.getElem?_eq_some_iff.1 HR14.out).1).trans HR14.out
 clear hb15 hb17 hb147 hB14 HR14 HX16 HB16 HS16 HF17 HO17 HS17 Hb16
 have e2 : s.l.length = t.l.length := by rw [hl]
 have e3 : (held s.l).length = (held t.l).length := by rw [hl]
 simp only [Act.put]
 refine Ks.done ?_
 refine wp_seq ?_
 refine Ks.reg ?_
 refine Ks.v (.pointer (some ⟨b13, 0, none⟩)) ?_
 simp only [zD]
 refine Ks.cell rfl _ _ rfl Tryz.underlying3 rfl b13 0 (.int .i64 s.floor) rfl (z0b HR14'.out 0 rfl) ?_
 simp only [zD]
 refine Ks.v (.pointer (some ⟨b16, 0, none⟩)) ?_
 simp only [zD]
 refine Ks.cell rfl _ _ rfl Tryz.underlying3 rfl b16 0 (.int .i64 t.floor) rfl (z0b HR17.out 0 rfl) ?_
 simp only [zD]
 refine Ks.val rfl (.bool true) (by simp [execOp, go_sem, hf]) ?_
 simp only [zD]
 refine Ks.v (.bool true) ?_
 simp only [zD]
 refine Ks.g (.pointer (some ⟨b13, 2, none⟩)) ?_
 simp only [zD]
 refine Ks.z4k (by kernel_rfl) _ _ rfl Tryz.underlying3 rfl b13 2 (.int .i64 s.l.length) rfl (z0b HR14'.out 2 rfl) ?_
 simp only [zD]
 refine Ks.g (.pointer (some ⟨b16, 2, none⟩)) ?_
 simp only [zD]
 refine Ks.z4k (by kernel_rfl) _ _ rfl Tryz.underlying3 rfl b16 2 (.int .i64 t.l.length) rfl (z0b HR17.out 2 rfl) ?_
 simp only [zD]
 refine Ks.y7p (by kernel_rfl) (.bool true) (by simp [execOp, go_sem, e2]) ?_
 simp only [zD]
 refine Ks.v (.bool true) ?_
 simp only [zD]
 refine Ks.v (.bool true) ?_
 simp only [zD]
 refine Ks.g (.pointer (some ⟨b13, 3, none⟩)) ?_
 simp only [zD]
 refine Ks.z4k (by kernel_rfl) _ _ rfl Tryz.underlying3 rfl b13 3 (.int .i64 (held s.l).length) rfl (z0b HR14'.out 3 rfl) ?_
 simp only [zD]
 refine Ks.g (.pointer (some ⟨b16, 3, none⟩)) ?_
 simp only [zD]
 refine Ks.z4k (by kernel_rfl) _ _ rfl Tryz.underlying3 rfl b16 3 (.int .i64 (held t.l).length) rfl (z0b HR17.out 3 rfl) ?_
 simp only [zD]
 refine Ks.y7p (by kernel_rfl) (.bool true) (by simp [execOp, go_sem, e3]) ?_
 simp only [zD]
 refine Ks.v (.bool true) ?_
 simp only [zD]
 refine Ks.v (.bool true) ?_
 simp only [zD]
 refine Ks.done ?_
 refine wp_ret ?_
 repeat (refine Ks.ret ?_)
 refine bodyPost_ret (v := .bool true) (by simp [results, Tryz.results27]) rfl ?_
 exact ⟨_, rfl, rfl, hB17⟩
end Tn
end Go.Proofs.YtbojijefenfbgaaGreatDoor
namespace Go.Proofs.YtbojijefenfbgaaGreatDoor
open Go Go.RowKit
namespace Tn
open Mp Bk Tk Gw Gt
def x3i : List Int := [0, 3, 6, 9]
def k9g : List Int := [0, 3, 6, 9, 15, 15]
theorem k1k : q1p k9g := by
 intro i j n m hi hj h1 h2
 have hjl : j < 6 := (List.getElem?_eq_some_iff.1 h2).1
 rcases (by omega : i = 0 ∨ i = 1 ∨ i = 2 ∨ i = 3) with rfl | rfl | rfl | rfl <;> rcases (by omega : j = 0 ∨ j = 1 ∨ j = 2 ∨ j = 3 ∨ j = 4 ∨ j = 5) with rfl | rfl | rfl | rfl | rfl | rfl <;> simp [k9g] at h1 h2 hj <;> omega
theorem x2x : q1p x3i := by
 intro i j n m hi hj h1 h2
 have hjl : j < 4 := (List.getElem?_eq_some_iff.1 h2).1
 rcases (by omega : i = 0 ∨ i = 1 ∨ i = 2 ∨ i = 3) with rfl | rfl | rfl | rfl <;> rcases (by omega : j = 0 ∨ j = 1 ∨ j = 2 ∨ j = 3) with rfl | rfl | rfl | rfl <;> simp [x3i] at h1 h2 hj <;> omega
theorem x7q (k : List UInt8) : news k 4 = [St.new 0 k, St.new 3 k, St.new 6 k, St.new 9 k] := rfl
theorem q0w {k : List UInt8} {ok : Int → Prop} {ord : Int → List UInt8} : Gts k ok ord x3i (fun _ => (0, 0)) (fun _ => 0) 0 (news k 4) := by
 refine ⟨rfl, fun s hs => ?_, fun n => Int.le_refl _⟩
 rw [x7q] at hs
 simp only [List.mem_cons, List.not_mem_nil, or_false] at hs
 rcases hs with rfl | rfl | rfl | rfl <;> exact Gt1.new (by omega) rfl
section
variable {k : List UInt8} {ok : Int → Prop} {ord : Int → List UInt8} {z1u : List Int} {N : Nat} {w w' : World} {lv : Value} {O : Nat → Nat → Prop} {ps : List (Nat × St)} {m : Nat} {P : Int × Int → Int × Int} {ow : Int → Int}
theorem z0t.start (hT : TIn O N w ps) (hp : ps.map Prod.snd = news k 4) (hr : Row (fun b => N ≤ b ∧ y6q O b) w 62 1 lv ps.length (ps.map ptr)) : z0t k ok ord x3i N w lv O ps 0 (fun _ => (0, 0)) (fun _ => 0) := by
 have hl : ps.length = 4 := by
  have := congrArg List.length hp
  simpa [news] using this
 refine ⟨hT, by rw [hp]; exact q0w, ?_, by omega⟩
 rw [← hl, List.take_of_length_le (Nat.le_refl _)]
 exact hr
theorem z0t.len (h : z0t k ok ord z1u N w lv O ps m P ow) : ps.length = z1u.length := by
 have := congrArg List.length h.gts.z1u
 simpa using this
theorem k0u {s t : St} (hs : Gt1 k ok ord P ow s) (ht : Gt1 k ok ord P ow t) (hf : s.floor = t.floor) : told s = told t := by
 unfold told
 rw [hf]
 split
 ·rename_i h0
  rcases hs.floor with e | ⟨_, e⟩
  ·omega
  ·rcases ht.floor with e' | ⟨_, e'⟩
   ·omega
   ·rw [e, e', hf]
 ·rfl
theorem z0t.spread (h : z0t k ok ord z1u N w lv O ps m P ow) (hO : Orders z0n k ok ord) {K : List St} {D : Nat → Nat → Prop} (hS : z4d K D (ps.map Prod.snd)) (hr : ∀ i, D i i) {i j : Nat} {p q : Nat × St} (hp : ps[i]? = some p) (hq : ps[j]? = some q) (most : Nat) (hm : 16000 ≤ most) :
  z4d K (fun a b => D a b ∨ (a = i ∧ b = j)) ((ps.set j (q.1, (z7z z0n q.2 (z1g p.2 q.2) (z1m p.2 q.2 most)).2)).map Prod.snd) := by
 obtain ⟨h1, h2, h3⟩ := h.at_ hp
 obtain ⟨g1, g2, g3⟩ := h.at_ hq
 obtain ⟨m1, m2, m3, m4, m5⟩ := Gt1.meets hO h2 g2 most
 rw [List.map_set]
 refine hS.meets hr h3 g3 m3 fun x => ?_
 rw [m5 x, x2w h2.town.inv g2.town.inv hm]
 constructor
 ·rintro (h | h)
  ·exact Or.inl h
  ·exact Or.inr h.1
 ·rintro (h | h)
  ·exact Or.inl h
  ·by_cases hx : x ∈ q.2.keys
   ·exact Or.inl hx
   ·exact Or.inr ⟨h, hx⟩
theorem z0t.same (h : z0t k ok ord z1u N w lv O ps m P ow) {K : List St} {D : Nat → Nat → Prop} (hS : z4d K D (ps.map Prod.snd)) (hD : ∀ i g, i < K.length → g < ps.length → D i g) {i j : Nat} {p q : Nat × St} (hp : ps[i]? = some p) (hq : ps[j]? = some q) : p.2.l = q.2.l ∧ p.2.floor = q.2.floor ∧ told p.2 = told q.2 := by
 obtain ⟨h1, h2, h3⟩ := h.at_ hp
 obtain ⟨g1, g2, g3⟩ := h.at_ hq
 obtain ⟨e1, e2⟩ := hS.same (fun i g hi hg => hD i g hi (by rwa [List.length_map] at hg)) (List.mem_of_getElem? h3) (List.mem_of_getElem? g3)
 exact ⟨h2.town.eq g2.town e1 e2, e1, k0u h2 g2 e1⟩
end
def Far (r i k a b : Nat) : Prop := 1 ≤ r ∨ a < i ∨ (a = i ∧ b < k) ∨ a = b
theorem Far.self (r i k a : Nat) : Far r i k a a := Or.inr (Or.inr (Or.inr rfl))
theorem used {k sl : List UInt8} (hk : z5w sl = k) {s : St} (hI : Inv s) (hs : s.key = k) {x : It} (hx : x ∈ s.l) (hg : x.gone = false) (c : Nat) : y7r s (tick sl x.epoch.toNat x.serial.toNat c) = (7, s) := by
 have hf := hI.fair x hx
 have he := hf.epoch
 have hse := hf.serial
 have e1 : z0f (tick sl x.epoch.toNat x.serial.toNat c) = x.epoch := by rw [x3f sl (by omega)]; omega
 have e2 : z0o (tick sl x.epoch.toNat x.serial.toNat c) = x.serial := by rw [y7s sl (by omega)]; omega
 show adm z0n s _ = _
 rw [x0e (R := z0n) (by rw [hs, ← hk]; exact y5m _ _ _ _), e1, e2, if_neg (by have := hf.floor hg; omega), if_pos ⟨x, List.mem_filter.2 ⟨hx, by simp [hg]⟩, rfl⟩]
end Tn
end Go.Proofs.YtbojijefenfbgaaGreatDoor

/- Walk of the package posternkeep's alike. A town's gates meet: what each then knows. News that are kept, and heard again. -/
import Derived.Test.YtbojijefenfbgaaGreatDoorTtTownE
import Derived.Test.YtbojijefenfbgaaGreatDoorTtQRelL
set_option maxRecDepth 100000
namespace Go.Proofs.YtbojijefenfbgaaGreatDoor
open Go Go.RowKit
namespace Tn
open Mp Bk Tk Gw Gt
theorem q2u {l : List Field} {a b c d e : String × TypeId × Nat} (h : l.map (fun f => (f.name, f.type, f.offset)) = [a, b, c, d, e]) : ∃ f g k m n : Field, l = [f, g, k, m, n] ∧ (f.name, f.type, f.offset) = a ∧ (g.name, g.type, g.offset) = b ∧ (k.name, k.type, k.offset) = c ∧ (m.name, m.type, m.offset) = d ∧ (n.name, n.type, n.offset) = e := by
 match l, h with
 | [], h => simp at h
 | [f], h => simp at h
 | [f, g], h => simp at h
 | [f, g, k], h => simp at h
 | [f, g, k, m], h => simp at h
 | [f, g, k, m, n], h =>
  simp only [List.map_cons, List.map_nil, List.cons.injEq, and_true] at h
  exact ⟨f, g, k, m, n, rfl, h.1, h.2.1, h.2.2.1, h.2.2.2.1, h.2.2.2.2⟩
 | f :: g :: k :: m :: n :: q :: r, h => simp at h
theorem q7z (x : It) (w : World) : (Op.equalIn 10000 73 (.agg (itC x).toArray) (.agg (itC x).toArray)).run Tryz.prog w = .ok true w := by
 have hs := run_equalIn_struct (P := Tryz.prog) w 9999 73 (itC x).toArray (itC x).toArray (by kernel_rfl) (by kernel_rfl)
 have hf : (Tryz.prog.fieldsOf 73).toList.map (fun f => (f.name, f.type, f.offset)) = [("Gate", 3, 0), ("Admission", 3, 1), ("Epoch", 3, 2), ("Serial", 3, 3), ("Gone", 4, 4)] := by kernel_rfl
 obtain ⟨f, g, k, m, n, hl, h1, h2, h3, h4, h5⟩ := q2u hf
 injection h1 with f1 h1
 injection h1 with f2 f3
 injection h2 with g1 h2
 injection h2 with g2 g3
 injection h3 with k1 h3
 injection h3 with k2 k3
 injection h4 with m1 h4
 injection h4 with m2 m3
 injection h5 with n1 h5
 injection h5 with n2 n3
 have p0 := run_part_plain (P := Tryz.prog) w (e := 3) (xs := (itC x).toArray) (off := 0) (v := .int .i64 x.gate) (by kernel_rfl) rfl
 have p1 := run_part_plain (P := Tryz.prog) w (e := 3) (xs := (itC x).toArray) (off := 1) (v := .int .i64 x.adm) (by kernel_rfl) rfl
 have p2 := run_part_plain (P := Tryz.prog) w (e := 3) (xs := (itC x).toArray) (off := 2) (v := .int .i64 x.epoch) (by kernel_rfl) rfl
 have p3 := run_part_plain (P := Tryz.prog) w (e := 3) (xs := (itC x).toArray) (off := 3) (v := .int .i64 x.serial) (by kernel_rfl) rfl
 have p4 := run_part_plain (P := Tryz.prog) w (e := 4) (xs := (itC x).toArray) (off := 4) (v := .bool x.gone) (by kernel_rfl) rfl
 have e3 : ∀ x : Int, (Op.equalIn 9999 3 (.int .i64 x) (.int .i64 x)).run Tryz.prog w = .ok true w := fun x => by
  simp [go_sem]
 have e4 : ∀ x : Bool, (Op.equalIn 9999 4 (.bool x) (.bool x)).run Tryz.prog w = .ok true w := fun x => by
  simp [go_sem]
 show (Op.equalIn (9999 + 1) _ _ _).run _ w = _
 rw [hs, hl]
 simp [Op.eqFields, f1, g1, k1, m1, n1, f2, g2, k2, m2, n2, f3, g3, k3, m3, n3, p0, p1, p2, p3, p4, e3, e4, Result.andThen_ok]
theorem Row.few {S : Nat → Prop} {w : World} {e : TypeId} {sz : Nat} {v : Value} {n : Nat} {xs : List Value} (h : Row S w e sz v n xs) : n ≤ maxLen := by
 rcases h.1.2 with ⟨_, rfl⟩ | ⟨g, cap, cur, _, _, _, h1, h2, _⟩
 ·exact Nat.zero_le _
 ·exact Nat.le_trans h1 h2
def told (s : St) : List UInt8 := if 0 < s.floor then s.order else []
theorem x2r {S : Nat → Prop} {w : World} {g : Nat} {s : St} (h : z0h S w g s) (hI : Inv s) : Calls Tryz.prog 28 #[.pointer (some ⟨g, 0, none⟩), .agg #[.int .i64 0, .slice none 0 0], .int .i64 1000000] w fun e w' => ∃ u, e = .returned u ∧ (∃ hv, u = .tuple #[.agg #[str (told s), hv], .int .i64 0] ∧ Row (fun k => w.heap.size ≤ k) w' 73 5 hv s.l.length (itL s.l)) ∧ Below w.heap.size w w' := by
 have ht := y4x h hI 0 (.slice none 0 0) [] 1000000 (z1e.nil (fun _ => False) w) (by decide) (fun p hp => by cases hp) rfl
 have e : z7f s.l (([] : List (Sn × Value)).map Prod.fst) 1000000 = s.l := by
  have hf : (s.l.filter fun x => !has (([] : List (Sn × Value)).map Prod.fst) x.key) = s.l := List.filter_eq_self.2 fun x _ => rfl
  unfold z7f
  rw [hf, List.take_of_length_le (by have := hI.few; omega)]
 rw [e] at ht
 exact ht
def al1 (g g' b5 b7 i : Nat) (f : Nat → Value) : Act := { tmps := #[.pointer (some ⟨g, 0, none⟩), .pointer (some ⟨g', 0, none⟩), f 2, f 3, .bool false, .pointer (some ⟨b5, 0, none⟩), f 6, .pointer (some ⟨b7, 0, none⟩), f 8, .int .i64 (i : Int), f 10, f 11, f 12, f 13, f 14, f 15, f 16, f 17, f 18, f 19, f 20, f 21, f 22, f 23, f 24, f 25, f 26, f 27, f 28, f 29, f 30, f 31, f 32, f 33, f 34, f 35, f 36, f 37, f 38, f 39, f 40, f 41, f 42, f 43, f 44, f 45, f 46, f 47, f 48, f 49, f 50, f 51, f 52, f 53, f 54, f 55, f 56, f 57, f 58, f 59, f 60, f 61, f 62, f 63, f 64, f 65, f 66, f 67, f 68, f 69, f 70, f 71, f 72, f 73, f 74, f 75, f 76, f 77, f 78, f 79, f 80, f 81, f 82, f 83, f 84, f 85, f 86, f 87, f 88, f 89, f 90, f 91, f 92, f 93, f 94, f 95, f 96, f 97, f 98, f 99, f 100, f 101, f 102, f 103, f 104, f 105, f 106, f 107, f 108, f 109, f 110, f 111, f 112, f 113, f 114, f 115, f 116, f 117, f 118, f 119, f 120, f 121, f 122, f 123, f 124, f 125, f 126, f 127, f 128, f 129, f 130, f 131, f 132, f 133, f 134, f 135, f 136, f 137, f 138, f 139, f 140, f 141, f 142, f 143], defers := [] }
def al2 (g g' : Nat) (v1 v2 : Value) (i : Nat) (f : Nat → Value) : Act := { tmps := #[.pointer (some ⟨g, 0, none⟩), .pointer (some ⟨g', 0, none⟩), f 2, f 3, .bool false, f 5, f 6, f 7, f 8, f 9, v1, v2, .int .i64 (i : Int), f 13, f 14, f 15, f 16, f 17, f 18, f 19, f 20, f 21, f 22, f 23, f 24, f 25, f 26, f 27, f 28, f 29, f 30, f 31, f 32, f 33, f 34, f 35, f 36, f 37, f 38, f 39, f 40, f 41, f 42, f 43, f 44, f 45, f 46, f 47, f 48, f 49, f 50, f 51, f 52, f 53, f 54, f 55, f 56, f 57, f 58, f 59, f 60, f 61, f 62, f 63, f 64, f 65, f 66, f 67, f 68, f 69, f 70, f 71, f 72, f 73, f 74, f 75, f 76, f 77, f 78, f 79, f 80, f 81, f 82, f 83, f 84, f 85, f 86, f 87, f 88, f 89, f 90, f 91, f 92, f 93, f 94, f 95, f 96, f 97, f 98, f 99, f 100, f 101, f 102, f 103, f 104, f 105, f 106, f 107, f 108, f 109, f 110, f 111, f 112, f 113, f 114, f 115, f 116, f 117, f 118, f 119, f 120, f 121, f 122, f 123, f 124, f 125, f 126, f 127, f 128, f 129, f 130, f 131, f 132, f 133, f 134, f 135, f 136, f 137, f 138, f 139, f 140, f 141, f 142, f 143], defers := [] }
set_option maxHeartbeats 1000000 in
theorem q7e {S T : Nat → Prop} {w : World} {g g' : Nat} {s t : St} (h : z0h S w g s) (h' : z0h T w g' t) (hI : Inv s) (hJ : Inv t) (hl : s.l = t.l) (hf : s.floor = t.floor) (ho : told s = told t) : Calls Tryz.prog 27 #[.pointer (some ⟨g, 0, none⟩), .pointer (some ⟨g', 0, none⟩)] w fun e w' => ∃ v, e = .returned v ∧ v = .bool true ∧ Below w.heap.size w w' := by
 go_enter Tryz.func27, Tryz.ntmps27
 refine wp_seq ?_
 refine Ks.reg ?_
 refine Ks.v (.bool false) ?_
 simp only [zD]
 refine Ks.done ?_
 refine wp_seq ?_
 refine Ks.reg ?_
 refine Ks.v (.pointer (some ⟨g, 0, none⟩)) ?_
 simp only [zD]
 refine Ks.v (.agg #[.int .i64 0, .slice none 0 0]) ?_
 simp only [zD]
 refine Ks.call rfl 28 #[.pointer (some ⟨g, 0, none⟩), .agg #[.int .i64 0, .slice none 0 0], .int .i64 1000000] (by kernel_rfl) (x2r h hI) ?_
 rintro _ w1 ⟨⟨hv, rfl, hrow⟩, hb1⟩
 have hone : hv.oneCell' = true := Row.one hrow
 simp only [zD]
 refine Ks.v (.tuple #[.agg #[str (told s), hv], .int .i64 0]) ?_
 simp only [zD]
 refine Ks.v (.agg #[str (told s), hv]) ?_
 simp only [zD]
 refine Ks.v (.int .i64 0) ?_
 simp only [zD]
 refine Ks.alloc rfl _ rfl (.agg #[.string ⟨#[]⟩, .slice none 0 0]) (by kernel_rfl) #[.string ⟨#[]⟩, .slice none 0 0] rfl ?_
 intro w2 b5 Hb5 HX2 HB2 HS2
 simp only [zD]
 refine Ks.whole rfl _ _ _ rfl b5 #[str (told s), hv] rfl rfl HX2.out (by kernel_rfl) rfl (by
  simp [Value.oneCell'] at hone ⊢
  exact ⟨rfl, hone⟩) ?_
 intro w3 HR3 HF3 HO3 HS3
 have hb23 : Below w1.heap.size w1 w3 := HB2.out.trans ((HF3.out (fun _ => False) w1.heap.size (Or.inr (Nat.le_of_eq Hb5.out.symm))).below (Nat.le_refl _) fun _ _ h => h)
 have hB3 : Below w.heap.size w w3 := hb1.trans (hb23.mono hb1.size)
 have hrow3 := (hrow.below hb23 (Nat.le_refl _)).mono (T := fun _ => True) fun _ _ => trivial
 have H3 : Hid (z0h T w3 g' t) := h'.below hB3
 clear HX2 HB2 HS2 HF3 HO3 HS3 hb23 hrow hb1 Hb5
 simp only [Act.put]
 refine Ks.v (.int .i64 0) ?_
 simp only [zD]
 refine Ks.done ?_
 refine wp_seq ?_
 refine Ks.reg ?_
 refine Ks.v (.pointer (some ⟨g', 0, none⟩)) ?_
 simp only [zD]
 refine Ks.v (.agg #[.int .i64 0, .slice none 0 0]) ?_
 simp only [zD]
 refine Ks.call rfl 28 #[.pointer (some ⟨g', 0, none⟩), .agg #[.int .i64 0, .slice none 0 0], .int .i64 1000000] (by kernel_rfl) (x2r H3.out hJ) ?_
 rintro _ w4 ⟨⟨hv', rfl, hrow'⟩, hb4⟩
 have hone' : hv'.oneCell' = true := Row.one hrow'
 have HR4 : Hid (w4.heap[b5]? = _) := (hb4.block b5 (aL HR3.out)).trans HR3.out
 have hrow4 := hrow3.below hb4 (Nat.le_refl _)
 have hB4 : Below w.heap.size w w4 := hB3.trans (hb4.mono hB3.size)
 clear hb4 hrow3 HR3 hB3
 rw [← hl] at hrow'
 rw [← ho]
 generalize told s = od at HR4 ⊢
 simp only [zD]
 refine Ks.v (.tuple #[.agg #[str od, hv'], .int .i64 0]) ?_
 simp only [zD]
 refine Ks.v (.agg #[str od, hv']) ?_
 simp only [zD]
 refine Ks.v (.int .i64 0) ?_
 simp only [zD]
 refine Ks.alloc rfl _ rfl (.agg #[.string ⟨#[]⟩, .slice none 0 0]) (by kernel_rfl) #[.string ⟨#[]⟩, .slice none 0 0] rfl ?_
 intro w5 b7 Hb7 HX5 HB5 HS5
 simp only [zD]
 refine Ks.whole rfl _ _ _ rfl b7 #[str od, hv'] rfl rfl HX5.out (by kernel_rfl) rfl (by
  simp [Value.oneCell'] at hone' ⊢
  exact ⟨rfl, hone'⟩) ?_
 intro w6 HR6 HF6 HO6 HS6
 have hb56 : Below w4.heap.size w4 w6 := HB5.out.trans ((HF6.out (fun _ => False) w4.heap.size (Or.inr (Nat.le_of_eq Hb7.out.symm))).below (Nat.le_refl _) fun _ _ h => h)
 have hB6 : Below w.heap.size w w6 := hB4.trans (hb56.mono hB4.size)
 have HX6 : Hid (w6.heap[b5]? = some (.cells #[str od, hv] 66 (0, 0))) := (hb56.block b5 (aL HR4.out)).trans HR4.out
 have hrow6 := hrow4.below hb56 (Nat.le_refl _)
 have hrow6' := (hrow'.below hb56 (Nat.le_refl _)).mono (T := fun _ => True) fun _ _ => trivial
 clear HX5 HB5 HS5 HF6 HO6 HS6 hb56 hrow' hrow4 HR4 Hb7 hB4 hone hone' H3
 obtain ⟨p1, c1, rfl, hcell1⟩ := Row.form hrow6
 obtain ⟨p2, c2, rfl, hcell2⟩ := Row.form hrow6'
 simp only [Act.put]
 refine Ks.v (.int .i64 0) ?_
 simp only [zD]
 refine Ks.done ?_
 refine wp_seq ?_
 refine wp_seq ?_
 refine Ks.reg ?_
 refine Ks.v (.int .i64 0) ?_
 simp only [zD]
 refine Ks.v (.bool false) ?_
 simp only [zD]
 refine Ks.v (.bool false) ?_
 simp only [zD]
 refine Ks.g (.int .i64 0) ?_
 simp only [zD]
 refine Ks.g (.bool false) ?_
 simp only [zD]
 refine Ks.v (.bool false) ?_
 simp only [zD]
 refine Ks.v (.bool false) ?_
 simp only [zD]
 refine Ks.g (.pointer (some ⟨b5, 0, none⟩)) ?_
 simp only [zD]
 refine Ks.z4k (by kernel_rfl) _ _ rfl Tryz.underlying9 rfl b5 0 (str od) rfl (z0c HX6.out 0 rfl) ?_
 simp only [zD]
 refine Ks.g (.pointer (some ⟨b7, 0, none⟩)) ?_
 simp only [zD]
 refine Ks.z4k (by kernel_rfl) _ _ rfl Tryz.underlying9 rfl b7 0 (str od) rfl (z0c HR6.out 0 rfl) ?_
 simp only [zD]
 refine Ks.y8b (by kernel_rfl) (.bool false) (by simp [execOp, go_sem, str]) ?_
 simp only [zD]
 refine Ks.v (.bool false) ?_
 simp only [zD]
 refine Ks.v (.bool false) ?_
 simp only [zD]
 refine Ks.g (.pointer (some ⟨b5, 1, none⟩)) ?_
 simp only [zD]
 refine Ks.z4k (by kernel_rfl) _ _ rfl Tryz.underlying64 rfl b5 1 (.slice p1 s.l.length c1) rfl (z0c HX6.out 1 rfl) ?_
 simp only [zD]
 refine Ks.g (.int .i64 (s.l.length : Int)) ?_
 simp only [zD]
 refine Ks.g (.pointer (some ⟨b7, 1, none⟩)) ?_
 simp only [zD]
 refine Ks.z4k (by kernel_rfl) _ _ rfl Tryz.underlying64 rfl b7 1 (.slice p2 s.l.length c2) rfl (z0c HR6.out 1 rfl) ?_
 simp only [zD]
 refine Ks.g (.int .i64 (s.l.length : Int)) ?_
 simp only [zD]
 refine Ks.y8b (by kernel_rfl) (.bool false) (by simp [execOp, go_sem]) ?_
 simp only [zD]
 refine Ks.v (.bool false) ?_
 simp only [zD]
 refine Ks.done ?_
 refine wp_cond_false rfl ?_
 refine wp_skip ?_
 refine Ks.norm ?_
 have hb5l := (aL HX6.out)
 have hb7l := (aL HR6.out)
 have hfew := hI.few
 refine Ks.cut (fun a' w' => Below w6.heap.size w6 w' ∧ ∃ f : Nat → Value, a' = al1 g g' b5 b7 s.l.length f) ?_ ?_
 ·refine wp_seq ?_
  refine Ks.reg ?_
  refine Ks.v (.int .i64 0) ?_
  simp only [zD]
  refine Ks.done ?_
  refine wp_block ?_
  refine Ks.loop (fun m a wr => ∃ (i : Nat) (f : Nat → Value), i ≤ s.l.length ∧ m = s.l.length - i ∧ Below w6.heap.size w6 wr ∧ a = al1 g g' b5 b7 i f) s.l.length ⟨0, fun j => Array.getD #[undef, undef, undef, undef, undef, undef, .int .i64 0, undef, .int .i64 0, undef, undef, undef, undef, undef, undef, .tuple #[.agg #[str od, .slice p1 s.l.length c1], .int .i64 0], .pointer (some ⟨g, 0, none⟩), .agg #[.int .i64 0, .slice none 0 0], .tuple #[.agg #[str od, .slice p1 s.l.length c1], .int .i64 0], .agg #[str od, .slice p1 s.l.length c1], .int .i64 0, .tuple #[.agg #[str od, .slice p2 s.l.length c2], .int .i64 0], .pointer (some ⟨g', 0, none⟩), .agg #[.int .i64 0, .slice none 0 0], .tuple #[.agg #[str od, .slice p2 s.l.length c2], .int .i64 0], .agg #[str od, .slice p2 s.l.length c2], .int .i64 0, .int .i64 0, .bool false, .bool false, .int .i64 0, .bool false, .bool false, .bool false, .pointer (some ⟨b5, 0, none⟩), str od, .pointer (some ⟨b7, 0, none⟩), str od, .bool false, .bool false, .bool false, .pointer (some ⟨b5, 1, none⟩), .slice p1 s.l.length c1, .int .i64 (s.l.length : Int), .pointer (some ⟨b7, 1, none⟩), .slice p2 s.l.length c2, .int .i64 (s.l.length : Int), .bool false, .bool false] j undef, Nat.zero_le _, rfl, Below.refl _ _, rfl⟩ ?_
  rintro m a wr ⟨i, f, hi, rfl, hb, rfl⟩
  have fin : ∀ (a' : Act) (w' : World) (i' : Nat), i < i' → i' ≤ s.l.length → Below w6.heap.size w6 w' → a' = al1 g g' b5 b7 i' (fun j => a'.tmps.getD j undef) → ∃ m, m < s.l.length - i ∧ ∃ (i : Nat) (f : Nat → Value), i ≤ s.l.length ∧ m = s.l.length - i ∧ Below w6.heap.size w6 w' ∧ a' = al1 g g' b5 b7 i f := fun a' w' i' q1 q2 q3 q4 => ⟨s.l.length - i', by omega, i', _, q2, rfl, q3, q4⟩
  have HXr : Hid (wr.heap[b5]? = some (.cells #[str od, .slice p1 s.l.length c1] 66 (0, 0))) := (hb.block b5 hb5l).trans HX6.out
  have HYr : Hid (wr.heap[b7]? = some (.cells #[str od, .slice p2 s.l.length c2] 66 (0, 0))) := (hb.block b7 hb7l).trans HR6.out
  unfold al1
  refine wp_seq ?_
  refine wp_seq ?_
  refine Ks.reg ?_
  refine Ks.v (.int .i64 (i : Int)) ?_
  simp only [zD]
  refine Ks.v (.pointer (some ⟨b5, 1, none⟩)) ?_
  simp only [zD]
  refine Ks.cell rfl _ _ rfl Tryz.underlying64 rfl b5 1 (.slice p1 s.l.length c1) rfl (z0c HXr.out 1 rfl) ?_
  simp only [zD]
  refine Ks.v (.int .i64 (s.l.length : Int)) ?_
  simp only [zD]
  refine Ks.v (.bool (decide ((i : Int) < s.l.length))) ?_
  simp only [zD]
  refine Ks.done ?_
  refine wp_cond_split rfl ?_ ?_
  ·intro hlt
   have hlt : i < s.l.length := by have := of_decide_eq_true hlt; omega
   obtain ⟨x, hx⟩ : ∃ x, s.l[i]? = some x := ⟨_, List.getElem?_eq_getElem hlt⟩
   obtain ⟨g1, cur1, rfl, hg1, ht1⟩ := hcell1 i hlt
   obtain ⟨g2, cur2, rfl, hg2, ht2⟩ := hcell2 i hlt
   have hgl1 := (aL hg1)
   have hgl2 := (aL hg2)
   have hr1 : wr.rangeAt g1 (i * 5) (itC x) := z1v (Row.range z6u hg1 ht1 hx) hb hgl1
   have hr2 : wr.rangeAt g2 (i * 5) (itC x) := z1v (Row.range z6u hg2 ht2 hx) hb hgl2
   have hs6 := hb.size
   refine wp_skip ?_
   refine Ks.norm ?_
   refine wp_seq ?_
   refine wp_block ?_
   refine wp_seq ?_
   refine Qt.z0u (by kernel_rfl) (by kernel_rfl) ?_
   refine Qg.val (by kernel_rfl) (.pointer (some ⟨b5, 1, none⟩)) (fun _ _ => by kernel_rfl) ?_
   simp only [zD]
   refine Qg.cell (by kernel_rfl) _ _ rfl Tryz.underlying64 rfl b5 1 (.slice (some ⟨g1, 0, none⟩) s.l.length c1) rfl (by omega) (z0c HXr.out 1 rfl) ?_
   simp only [zD]
   refine Qg.val (by kernel_rfl) (.int .i64 (i : Int)) (fun _ _ => by kernel_rfl) ?_
   simp only [zD]
   refine Qg.idx (by kernel_rfl) _ _ _ rfl 73 5 Tryz.underlying64 (by kernel_rfl) (by kernel_rfl) g1 s.l.length c1 i rfl rfl hlt ?_
   simp only [zD]
   refine Qg.mid (by kernel_rfl) _ _ rfl g1 (i * 5) rfl (itC x) (by omega) hr1 Tryz.underlying73 rfl (by kernel_rfl) ?_
   simp only [zD]
   refine Qg.val (by kernel_rfl) (.pointer (some ⟨b7, 1, none⟩)) (fun _ _ => by kernel_rfl) ?_
   simp only [zD]
   refine Qg.cell (by kernel_rfl) _ _ rfl Tryz.underlying64 rfl b7 1 (.slice (some ⟨g2, 0, none⟩) s.l.length c2) rfl (by omega) (z0c HYr.out 1 rfl) ?_
   simp only [zD]
   refine Qg.val (by kernel_rfl) (.int .i64 (i : Int)) (fun _ _ => by kernel_rfl) ?_
   simp only [zD]
   refine Qg.idx (by kernel_rfl) _ _ _ rfl 73 5 Tryz.underlying64 (by kernel_rfl) (by kernel_rfl) g2 s.l.length c2 i rfl rfl hlt ?_
   simp only [zD]
   refine Qg.mid (by kernel_rfl) _ _ rfl g2 (i * 5) rfl (itC x) (by omega) hr2 Tryz.underlying73 rfl (by kernel_rfl) ?_
   simp only [zD]
   refine Qg.val (by kernel_rfl) (.bool false) (fun w' _ => Ks.q8b _ _ _ _ rfl (itC x).toArray (itC x).toArray rfl rfl (by kernel_rfl) true (q7z x w')) ?_
   simp only [zD]
   refine wpQuiet_nil ?_
   intro w7 hb7
   refine Ks.norm ?_
   refine wp_cond_false rfl ?_
   refine wp_skip ?_
   refine Ks.inb ?_
   refine Ks.reg ?_
   refine Ks.v (.int .i64 (i : Int)) ?_
   simp only [zD]
   refine Ks.val rfl (.int .i64 ((i + 1 : Nat) : Int)) (by
    simp [execOp, go_sem]
    exact IntWalk.i64_in _ ⟨by omega, by omega⟩) ?_
   simp only [zD]
   refine Ks.v (.int .i64 ((i + 1 : Nat) : Int)) ?_
   simp only [zD]
   refine Ks.done ?_
   exact fin _ w7 (i + 1) (by omega) hlt (hb.trans (Below.mono hb7 hb.size)) rfl
  ·intro hlt
   obtain rfl : i = s.l.length := by have := of_decide_eq_false hlt; omega
   have finX : ∀ a' : Act, a' = al1 g g' b5 b7 s.l.length (fun j => a'.tmps.getD j undef) → Below w6.heap.size w6 wr ∧ ∃ f : Nat → Value, a' = al1 g g' b5 b7 s.l.length f := fun a' e => ⟨hb, _, e⟩
   refine wp_exit ?_
   refine Ks.z3r ?_
   exact finX _ rfl
 rintro a' w7 ⟨hb7, f7, rfl⟩
 have hB7 : Below w.heap.size w w7 := hB6.trans (hb7.mono hB6.size)
 have H7 : Hid (z0h S w7 g s) := h.below hB7
 have H7' : Hid (z0h T w7 g' t) := h'.below hB7
 clear hb7 hB6 hb5l hb7l hcell1 hcell2 hrow6 hrow6' HX6 HR6 h h'
 unfold al1
 refine wp_seq ?_
 refine Ks.reg ?_
 refine Ks.v (.pointer (some ⟨g, 0, none⟩)) ?_
 simp only [zD]
 refine Ks.call rfl 33 #[.pointer (some ⟨g, 0, none⟩)] (by kernel_rfl) (x0y H7.out hI) ?_
 rintro v1 w8 ⟨⟨l1, hi1, hA1⟩, hb8⟩
 have H8 : Hid (z0h T w8 g' t) := H7'.out.below hb8
 have H8s : Hid (z0h S w8 g s) := H7.out.below hb8
 have hB8 : Below w.heap.size w w8 := hB7.trans (hb8.mono hB7.size)
 clear H7 H7' hB7
 simp only [zD]
 refine Ks.v (v1) ?_
 simp only [zD]
 refine Ks.done ?_
 refine wp_seq ?_
 refine Ks.reg ?_
 refine Ks.v (.pointer (some ⟨g', 0, none⟩)) ?_
 simp only [zD]
 refine Ks.call rfl 33 #[.pointer (some ⟨g', 0, none⟩)] (by kernel_rfl) (x0y H8.out hJ) ?_
 rintro v2 w9 ⟨⟨l2, hi2, hA2⟩, hb9⟩
 have H9 : Hid (z0h T w9 g' t) := H8.out.below hb9
 have H9s : Hid (z0h S w9 g s) := H8s.out.below hb9
 have hB9 : Below w.heap.size w w9 := hB8.trans (hb9.mono hB8.size)
 have hA1' := (hA1.below hb9).mono (T := fun _ => True) fun _ _ => trivial
 have hA2' := hA2.mono (T := fun _ => True) fun _ _ => trivial
 rw [← hl] at hi2
 have hll := hi1.eq hi2
 have hlen : l2.length = l1.length := by
  have := congrArg List.length hll
  simpa using this.symm
 have hmax := Row.few hA1'.row
 clear H8 H8s hB8 hA1 hA2 hb9 hb8 hi1 hi2
 obtain ⟨p3, c3, rfl, hcell3⟩ := Row.form hA1'.row
 obtain ⟨p4, c4, rfl, hcell4⟩ := Row.form hA2'.row
 rw [hlen] at hcell4 ⊢
 simp only [zD]
 refine Ks.v (.slice p4 l1.length c4) ?_
 simp only [zD]
 refine Ks.done ?_
 refine wp_seq ?_
 refine wp_seq ?_
 refine Ks.reg ?_
 refine Ks.v (.slice p3 l1.length c3) ?_
 simp only [zD]
 refine Ks.v (.int .i64 (l1.length : Int)) ?_
 simp only [zD]
 refine Ks.v (.slice p4 l1.length c4) ?_
 simp only [zD]
 refine Ks.v (.int .i64 (l1.length : Int)) ?_
 simp only [zD]
 refine Ks.val rfl (.bool false) (by simp [execOp, go_sem]) ?_
 simp only [zD]
 refine Ks.done ?_
 refine wp_cond_false rfl ?_
 refine wp_skip ?_
 refine Ks.norm ?_
 refine Ks.cut (fun a' w' => Below w9.heap.size w9 w' ∧ ∃ f : Nat → Value, a' = al2 g g' (.slice p3 l1.length c3) (.slice p4 l1.length c4) l1.length f) ?_ ?_
 ·refine wp_seq ?_
  refine Ks.reg ?_
  refine Ks.v (.int .i64 0) ?_
  simp only [zD]
  refine Ks.done ?_
  refine wp_block ?_
  have start : ∀ a0 : Act, a0 = al2 g g' (.slice p3 l1.length c3) (.slice p4 l1.length c4) 0 (fun j => a0.tmps.getD j undef) → ∃ (i : Nat) (f : Nat → Value), i ≤ l1.length ∧ l1.length = l1.length - i ∧ Below w9.heap.size w9 w9 ∧ a0 = al2 g g' (.slice p3 l1.length c3) (.slice p4 l1.length c4) i f := fun a0 e => ⟨0, _, Nat.zero_le _, rfl, Below.refl _ _, e⟩
  refine Ks.loop (fun m a wr => ∃ (i : Nat) (f : Nat → Value), i ≤ l1.length ∧ m = l1.length - i ∧ Below w9.heap.size w9 wr ∧ a = al2 g g' (.slice p3 l1.length c3) (.slice p4 l1.length c4) i f) l1.length (start _ rfl) ?_
  rintro m a wr ⟨i, f, hi, rfl, hb, rfl⟩
  have fin : ∀ (a' : Act) (w' : World) (i' : Nat), i < i' → i' ≤ l1.length → Below w9.heap.size w9 w' → a' = al2 g g' (.slice p3 l1.length c3) (.slice p4 l1.length c4) i' (fun j => a'.tmps.getD j undef) → ∃ m, m < l1.length - i ∧ ∃ (i : Nat) (f : Nat → Value), i ≤ l1.length ∧ m = l1.length - i ∧ Below w9.heap.size w9 w' ∧ a' = al2 g g' (.slice p3 l1.length c3) (.slice p4 l1.length c4) i f := fun a' w' i' q1 q2 q3 q4 => ⟨l1.length - i', by omega, i', _, q2, rfl, q3, q4⟩
  unfold al2
  refine wp_seq ?_
  refine wp_seq ?_
  refine Ks.reg ?_
  refine Ks.v (.int .i64 (i : Int)) ?_
  simp only [zD]
  refine Ks.v (.slice p3 l1.length c3) ?_
  simp only [zD]
  refine Ks.v (.int .i64 (l1.length : Int)) ?_
  simp only [zD]
  refine Ks.v (.bool (decide ((i : Int) < l1.length))) ?_
  simp only [zD]
  refine Ks.done ?_
  refine wp_cond_split rfl ?_ ?_
  ·intro hlt
   have hlt : i < l1.length := by have := of_decide_eq_true hlt; omega
   obtain ⟨⟨tw, m1⟩, hx1⟩ : ∃ x, l1[i]? = some x := ⟨_, List.getElem?_eq_getElem hlt⟩
   obtain ⟨⟨tw', m2⟩, hx2⟩ : ∃ x, l2[i]? = some x := ⟨_, List.getElem?_eq_getElem (by omega)⟩
   obtain rfl : tw = tw' := by
    have e := congrArg (fun l => l[i]?) hll
    simp only [List.getElem?_map, hx1, hx2, Option.map_some] at e
    exact Option.some.inj e
   obtain ⟨g3, cur3, rfl, hg3, ht3⟩ := hcell3 i hlt
   obtain ⟨g4, cur4, rfl, hg4, ht4⟩ := hcell4 i hlt
   obtain ⟨q1, d1, e1, _⟩ := Row.form (hA1'.more _ (List.mem_of_getElem? hx1))
   obtain ⟨q2, d2, e2, _⟩ := Row.form (hA2'.more _ (List.mem_of_getElem? hx2))
   simp only at e1 e2
   subst e1 e2
   have hgl3 := (aL hg3)
   have hgl4 := (aL hg4)
   have hr3 := z1v (Row.range (f := fun p : Tw × Value => [.int .i64 p.1.epoch, .int .i64 p.1.serial, p.2]) (m := 3) (fun _ => rfl) hg3 ht3 hx1) hb hgl3
   have hr4 := z1v (Row.range (f := fun p : Tw × Value => [.int .i64 p.1.epoch, .int .i64 p.1.serial, p.2]) (m := 3) (fun _ => rfl) hg4 ht4 hx2) hb hgl4
   have hs9 := hb.size
   refine wp_skip ?_
   refine Ks.norm ?_
   refine wp_seq ?_
   refine wp_block ?_
   refine wp_seq ?_
   refine Qt.z0u (by kernel_rfl) (by kernel_rfl) ?_
   refine Qg.val (by kernel_rfl) (.slice (some ⟨g3, 0, none⟩) l1.length c3) (fun _ _ => by kernel_rfl) ?_
   simp only [zD]
   refine Qg.val (by kernel_rfl) (.int .i64 (i : Int)) (fun _ _ => by kernel_rfl) ?_
   simp only [zD]
   refine Qg.idx (by kernel_rfl) _ _ _ rfl 86 3 Tryz.underlying83 (by kernel_rfl) (by kernel_rfl) g3 l1.length c3 i rfl rfl hlt ?_
   simp only [zD]
   refine Qg.val (by kernel_rfl) (.pointer (some ⟨g3, i * 3 + 0, none⟩)) (fun _ _ => by kernel_rfl) ?_
   simp only [zD]
   refine Qg.cell (by kernel_rfl) _ _ rfl Tryz.underlying3 rfl g3 (i * 3 + 0) (.int .i64 tw.epoch) rfl (by omega) (hr3 0 _ rfl) ?_
   simp only [zD]
   refine Qg.val (by kernel_rfl) (.slice (some ⟨g4, 0, none⟩) l1.length c4) (fun _ _ => by kernel_rfl) ?_
   simp only [zD]
   refine Qg.val (by kernel_rfl) (.int .i64 (i : Int)) (fun _ _ => by kernel_rfl) ?_
   simp only [zD]
   refine Qg.idx (by kernel_rfl) _ _ _ rfl 86 3 Tryz.underlying83 (by kernel_rfl) (by kernel_rfl) g4 l1.length c4 i rfl rfl hlt ?_
   simp only [zD]
   refine Qg.val (by kernel_rfl) (.pointer (some ⟨g4, i * 3 + 0, none⟩)) (fun _ _ => by kernel_rfl) ?_
   simp only [zD]
   refine Qg.cell (by kernel_rfl) _ _ rfl Tryz.underlying3 rfl g4 (i * 3 + 0) (.int .i64 tw.epoch) rfl (by omega) (hr4 0 _ rfl) ?_
   simp only [zD]
   refine Qg.val (by kernel_rfl) (.bool false) (fun w' _ => by simp [execOp, go_sem]) ?_
   simp only [zD]
   refine Qg.val (by kernel_rfl) (.bool false) (fun _ _ => by kernel_rfl) ?_
   simp only [zD]
   refine Qg.val (by kernel_rfl) (.slice (some ⟨g3, 0, none⟩) l1.length c3) (fun _ _ => by kernel_rfl) ?_
   simp only [zD]
   refine Qg.val (by kernel_rfl) (.int .i64 (i : Int)) (fun _ _ => by kernel_rfl) ?_
   simp only [zD]
   refine Qg.idx (by kernel_rfl) _ _ _ rfl 86 3 Tryz.underlying83 (by kernel_rfl) (by kernel_rfl) g3 l1.length c3 i rfl rfl hlt ?_
   simp only [zD]
   refine Qg.val (by kernel_rfl) (.pointer (some ⟨g3, i * 3 + 1, none⟩)) (fun _ _ => by kernel_rfl) ?_
   simp only [zD]
   refine Qg.cell (by kernel_rfl) _ _ rfl Tryz.underlying3 rfl g3 (i * 3 + 1) (.int .i64 tw.serial) rfl (by omega) (hr3 1 _ rfl) ?_
   simp only [zD]
   refine Qg.val (by kernel_rfl) (.slice (some ⟨g4, 0, none⟩) l1.length c4) (fun _ _ => by kernel_rfl) ?_
   simp only [zD]
   refine Qg.val (by kernel_rfl) (.int .i64 (i : Int)) (fun _ _ => by kernel_rfl) ?_
   simp only [zD]
   refine Qg.idx (by kernel_rfl) _ _ _ rfl 86 3 Tryz.underlying83 (by kernel_rfl) (by kernel_rfl) g4 l1.length c4 i rfl rfl hlt ?_
   simp only [zD]
   refine Qg.val (by kernel_rfl) (.pointer (some ⟨g4, i * 3 + 1, none⟩)) (fun _ _ => by kernel_rfl) ?_
   simp only [zD]
   refine Qg.cell (by kernel_rfl) _ _ rfl Tryz.underlying3 rfl g4 (i * 3 + 1) (.int .i64 tw.serial) rfl (by omega) (hr4 1 _ rfl) ?_
   simp only [zD]
   refine Qg.val (by kernel_rfl) (.bool false) (fun w' _ => by simp [execOp, go_sem]) ?_
   simp only [zD]
   refine Qg.val (by kernel_rfl) (.bool false) (fun _ _ => by kernel_rfl) ?_
   simp only [zD]
   refine Qg.val (by kernel_rfl) (.bool false) (fun _ _ => by kernel_rfl) ?_
   simp only [zD]
   refine Qg.val (by kernel_rfl) (.slice (some ⟨g3, 0, none⟩) l1.length c3) (fun _ _ => by kernel_rfl) ?_
   simp only [zD]
   refine Qg.val (by kernel_rfl) (.int .i64 (i : Int)) (fun _ _ => by kernel_rfl) ?_
   simp only [zD]
   refine Qg.idx (by kernel_rfl) _ _ _ rfl 86 3 Tryz.underlying83 (by kernel_rfl) (by kernel_rfl) g3 l1.length c3 i rfl rfl hlt ?_
   simp only [zD]
   refine Qg.val (by kernel_rfl) (.pointer (some ⟨g3, i * 3 + 2, none⟩)) (fun _ _ => by kernel_rfl) ?_
   simp only [zD]
   refine Qg.cell (by kernel_rfl) _ _ rfl Tryz.underlying25 rfl g3 (i * 3 + 2) (.slice q1 tw.gates.length d1) rfl (by omega) (hr3 2 _ rfl) ?_
   simp only [zD]
   refine Qg.val (by kernel_rfl) (.int .i64 (tw.gates.length : Int)) (fun _ _ => by kernel_rfl) ?_
   simp only [zD]
   refine Qg.val (by kernel_rfl) (.slice (some ⟨g4, 0, none⟩) l1.length c4) (fun _ _ => by kernel_rfl) ?_
   simp only [zD]
   refine Qg.val (by kernel_rfl) (.int .i64 (i : Int)) (fun _ _ => by kernel_rfl) ?_
   simp only [zD]
   refine Qg.idx (by kernel_rfl) _ _ _ rfl 86 3 Tryz.underlying83 (by kernel_rfl) (by kernel_rfl) g4 l1.length c4 i rfl rfl hlt ?_
   simp only [zD]
   refine Qg.val (by kernel_rfl) (.pointer (some ⟨g4, i * 3 + 2, none⟩)) (fun _ _ => by kernel_rfl) ?_
   simp only [zD]
   refine Qg.cell (by kernel_rfl) _ _ rfl Tryz.underlying25 rfl g4 (i * 3 + 2) (.slice q2 tw.gates.length d2) rfl (by omega) (hr4 2 _ rfl) ?_
   simp only [zD]
   refine Qg.val (by kernel_rfl) (.int .i64 (tw.gates.length : Int)) (fun _ _ => by kernel_rfl) ?_
   simp only [zD]
   refine Qg.val (by kernel_rfl) (.bool false) (fun w' _ => by simp [execOp, go_sem]) ?_
   simp only [zD]
   refine Qg.val (by kernel_rfl) (.bool false) (fun _ _ => by kernel_rfl) ?_
   simp only [zD]
   refine wpQuiet_nil ?_
   intro w10 hb10
   refine Ks.norm ?_
   refine wp_cond_false rfl ?_
   refine wp_skip ?_
   refine Ks.inb ?_
   refine Ks.reg ?_
   refine Ks.v (.int .i64 (i : Int)) ?_
   simp only [zD]
   refine Ks.val rfl (.int .i64 ((i + 1 : Nat) : Int)) (by
    simp [execOp, go_sem]
    exact IntWalk.i64_in _ ⟨by omega, by unfold maxLen at hmax; omega⟩) ?_
   simp only [zD]
   refine Ks.v (.int .i64 ((i + 1 : Nat) : Int)) ?_
   simp only [zD]
   refine Ks.done ?_
   exact fin _ w10 (i + 1) (by omega) hlt (hb.trans (Below.mono hb10 hb.size)) rfl
  ·intro hlt
   obtain rfl : i = l1.length := by have := of_decide_eq_false hlt; omega
   have finX : ∀ a' : Act, a' = al2 g g' (.slice p3 l1.length c3) (.slice p4 l1.length c4) l1.length (fun j => a'.tmps.getD j undef) → Below w9.heap.size w9 wr ∧ ∃ f : Nat → Value, a' = al2 g g' (.slice p3 l1.length c3) (.slice p4 l1.length c4) l1.length f := fun a' e => ⟨hb, _, e⟩
   refine wp_exit ?_
   refine Ks.z3r ?_
   exact finX _ rfl
 rintro a' w11 ⟨hb11, f11, rfl⟩
 have H11 : Hid (z0h T w11 g' t) := H9.out.below hb11
 have H11s : Hid (z0h S w11 g s) := H9s.out.below hb11
 have hB11 : Below w.heap.size w w11 := hB9.trans (hb11.mono hB9.size)
 clear H9 H9s hB9 hb11 hcell3 hcell4 hA1' hA2'
 unfold al2
 refine wp_seq ?_
 refine Ks.reg ?_
 refine Ks.v (.pointer (some ⟨g, 0, none⟩)) ?_
 simp only [zD]
 refine Ks.call rfl 66 #[.pointer (some ⟨g, 0, none⟩)] (by kernel_rfl) (R := fun v w' => v = .agg (stC s) ∧ Below w11.heap.size w11 w') ((q5z H11s.out).mono fun e w' hx => ⟨_, hx.1, rfl, hx.2⟩) ?_
 rintro _ w12 ⟨rfl, hb12⟩
 simp only [zD]
 refine Ks.alloc rfl _ rfl (.agg #[.int .i64 0, .int .i64 0, .int .i64 0, .int .i64 0]) (by kernel_rfl) #[.int .i64 0, .int .i64 0, .int .i64 0, .int .i64 0] rfl ?_
 intro w13 b13 Hb13 HX13 HB13 HS13
 simp only [zD]
 refine Ks.whole rfl _ _ _ rfl b13 (stC s) rfl rfl HX13.out (by kernel_rfl) rfl (by kernel_rfl) ?_
 intro w14 HR14 HF14 HO14 HS14
 have hb14 : Below w12.heap.size w12 w14 := HB13.out.trans ((HF14.out (fun _ => False) w12.heap.size (Or.inr (Nat.le_of_eq Hb13.out.symm))).below (Nat.le_refl _) fun _ _ h => h)
 have hB14 : Below w.heap.size w w14 := (hB11.trans (hb12.mono hB11.size)).trans (hb14.mono (Nat.le_trans hB11.size hb12.size))
 have H14 : Hid (z0h T w14 g' t) := (H11.out.below hb12).below hb14
 clear hb12 hb14 hB11 H11 H11s HX13 HB13 HS13 HF14 HO14 HS14 Hb13
 simp only [Act.put]
 refine Ks.done ?_
 refine wp_seq ?_
 refine Ks.reg ?_
 refine Ks.v (.pointer (some ⟨g', 0, none⟩)) ?_
 simp only [zD]
 refine Ks.call rfl 66 #[.pointer (some ⟨g', 0, none⟩)] (by kernel_rfl) (R := fun v w' => v = .agg (stC t) ∧ Below w14.heap.size w14 w') ((q5z H14.out).mono fun e w' hx => ⟨_, hx.1, rfl, hx.2⟩) ?_
 rintro _ w15 ⟨rfl, hb15⟩
 simp only [zD]
 refine Ks.alloc rfl _ rfl (.agg #[.int .i64 0, .int .i64 0, .int .i64 0, .int .i64 0]) (by kernel_rfl) #[.int .i64 0, .int .i64 0, .int .i64 0, .int .i64 0] rfl ?_
 intro w16 b16 Hb16 HX16 HB16 HS16
 simp only [zD]
 refine Ks.whole rfl _ _ _ rfl b16 (stC t) rfl rfl HX16.out (by kernel_rfl) rfl (by kernel_rfl) ?_
 intro w17 HR17 HF17 HO17 HS17
 have hb17 : Below w15.heap.size w15 w17 := HB16.out.trans ((HF17.out (fun _ => False) w15.heap.size (Or.inr (Nat.le_of_eq Hb16.out.symm))).below (Nat.le_refl _) fun _ _ h => h)
 have hb147 : Below w14.heap.size w14 w17 := hb15.trans (hb17.mono hb15.size)
 have hB17 : Below w.heap.size w w17 := hB14.trans (hb147.mono hB14.size)
 have HR14' : Hid (w17.heap[b13]? = some (.cells (stC s) 129 (0, 0))) := (hb147.block b13 (aL HR14.out)).trans HR14.out
 clear hb15 hb17 hb147 hB14 HR14 HX16 HB16 HS16 HF17 HO17 HS17 Hb16
 have e2 : s.l.length = t.l.length := by rw [hl]
 have e3 : (held s.l).length = (held t.l).length := by rw [hl]
 simp only [Act.put]
 refine Ks.done ?_
 refine wp_seq ?_
 refine Ks.reg ?_
 refine Ks.v (.pointer (some ⟨b13, 0, none⟩)) ?_
 simp only [zD]
 refine Ks.cell rfl _ _ rfl Tryz.underlying3 rfl b13 0 (.int .i64 s.floor) rfl (z0c HR14'.out 0 rfl) ?_
 simp only [zD]
 refine Ks.v (.pointer (some ⟨b16, 0, none⟩)) ?_
 simp only [zD]
 refine Ks.cell rfl _ _ rfl Tryz.underlying3 rfl b16 0 (.int .i64 t.floor) rfl (z0c HR17.out 0 rfl) ?_
 simp only [zD]
 refine Ks.val rfl (.bool true) (by simp [execOp, go_sem, hf]) ?_
 simp only [zD]
 refine Ks.v (.bool true) ?_
 simp only [zD]
 refine Ks.g (.pointer (some ⟨b13, 2, none⟩)) ?_
 simp only [zD]
 refine Ks.z4k (by kernel_rfl) _ _ rfl Tryz.underlying3 rfl b13 2 (.int .i64 s.l.length) rfl (z0c HR14'.out 2 rfl) ?_
 simp only [zD]
 refine Ks.g (.pointer (some ⟨b16, 2, none⟩)) ?_
 simp only [zD]
 refine Ks.z4k (by kernel_rfl) _ _ rfl Tryz.underlying3 rfl b16 2 (.int .i64 t.l.length) rfl (z0c HR17.out 2 rfl) ?_
 simp only [zD]
 refine Ks.y8b (by kernel_rfl) (.bool true) (by simp [execOp, go_sem, e2]) ?_
 simp only [zD]
 refine Ks.v (.bool true) ?_
 simp only [zD]
 refine Ks.v (.bool true) ?_
 simp only [zD]
 refine Ks.g (.pointer (some ⟨b13, 3, none⟩)) ?_
 simp only [zD]
 refine Ks.z4k (by kernel_rfl) _ _ rfl Tryz.underlying3 rfl b13 3 (.int .i64 (held s.l).length) rfl (z0c HR14'.out 3 rfl) ?_
 simp only [zD]
 refine Ks.g (.pointer (some ⟨b16, 3, none⟩)) ?_
 simp only [zD]
 refine Ks.z4k (by kernel_rfl) _ _ rfl Tryz.underlying3 rfl b16 3 (.int .i64 (held t.l).length) rfl (z0c HR17.out 3 rfl) ?_
 simp only [zD]
 refine Ks.y8b (by kernel_rfl) (.bool true) (by simp [execOp, go_sem, e3]) ?_
 simp only [zD]
 refine Ks.v (.bool true) ?_
 simp only [zD]
 refine Ks.v (.bool true) ?_
 simp only [zD]
 refine Ks.done ?_
 refine wp_ret ?_
 repeat (refine Ks.ret ?_)
 refine bodyPost_ret (v := .bool true) (by simp [results, Tryz.results27]) rfl ?_
 exact ⟨_, rfl, rfl, hB17⟩
end Tn
open Go Go.RowKit
namespace Tn
open Mp Bk Tk Gw Gt
def k9q : List Int := [0, 3, 6, 9]
def k7t : List Int := [0, 3, 6, 9, 15, 15]
theorem x3d : q6v k7t := by
 intro i j n m hi hj h1 h2
 have hjl : j < 6 := (lL h2)
 rcases (by omega : i = 0 ∨ i = 1 ∨ i = 2 ∨ i = 3) with rfl | rfl | rfl | rfl <;> rcases (by omega : j = 0 ∨ j = 1 ∨ j = 2 ∨ j = 3 ∨ j = 4 ∨ j = 5) with rfl | rfl | rfl | rfl | rfl | rfl <;> simp [k7t] at h1 h2 hj <;> omega
theorem x7o (k : List UInt8) : news k 4 = [St.new 0 k, St.new 3 k, St.new 6 k, St.new 9 k] := rfl
theorem q2f {k : List UInt8} {ok : Int → Prop} {ord : Int → List UInt8} : Gts k ok ord k9q (fun _ => (0, 0)) (fun _ => 0) 0 (news k 4) := by
 refine ⟨rfl, fun s hs => ?_, fun n => Int.le_refl _⟩
 rw [x7o] at hs
 simp only [List.mem_cons, List.not_mem_nil, or_false] at hs
 rcases hs with rfl | rfl | rfl | rfl <;> exact Gt1.new (by omega) rfl
section
variable {k : List UInt8} {ok : Int → Prop} {ord : Int → List UInt8} {z1n : List Int} {N : Nat} {w w' : World} {lv : Value} {O : Nat → Nat → Prop} {ps : List (Nat × St)} {m : Nat} {P : Int × Int → Int × Int} {ow : Int → Int}
theorem z0v.start (hT : TIn O N w ps) (hp : ps.map Prod.snd = news k 4) (hr : Row (fun b => N ≤ b ∧ z9b O b) w 62 1 lv ps.length (ps.map ptr)) : z0v k ok ord k9q N w lv O ps 0 (fun _ => (0, 0)) (fun _ => 0) := by
 have hl : ps.length = 4 := by
  have := congrArg List.length hp
  simpa [news] using this
 refine ⟨hT, by rw [hp]; exact q2f, ?_, by omega⟩
 rw [← hl, List.take_of_length_le (Nat.le_refl _)]
 exact hr
theorem z0v.len (h : z0v k ok ord z1n N w lv O ps m P ow) : ps.length = z1n.length := by
 have := congrArg List.length h.gts.z1n
 simpa using this
theorem k1x {s t : St} (hs : Gt1 k ok ord P ow s) (ht : Gt1 k ok ord P ow t) (hf : s.floor = t.floor) : told s = told t := by
 unfold told
 rw [hf]
 split
 ·rename_i h0
  rcases hs.floor with e | ⟨_, e⟩
  ·omega
  ·rcases ht.floor with e' | ⟨_, e'⟩
   ·omega
   ·rw [e, e', hf]
 ·rfl
end
end Tn
open Go Go.RowKit
namespace Bk
theorem Gt1.k9b {R : List UInt8 → List UInt8 → List UInt8 → Bool} {k : List UInt8} {ok : Int → Prop} {ord : Int → List UInt8} {P : Int × Int → Int × Int} {ow : Int → Int} {t : St} {n : List It} (ht : Gt1 k ok ord P ow t) (hn : z5a P ow 0 n) :
  (z7d R t [] n).1 = 0 ∧ Gt1 k ok ord P ow (z7d R t [] n).2 ∧ (z7d R t [] n).2.number = t.number ∧ ∀ x, x ∈ (z7d R t [] n).2.keys ↔ x ∈ t.keys ∨ x ∈ n.map It.key := by
 unfold z7d
 rw [if_neg (by rw [ht.town.z4p hn]; simp), if_pos rfl]
 obtain ⟨i1, i2⟩ := ht.town.takes (n := n) (f := 0) ht.town.inv.floor.1 hn.q9z hn.item hn.made
 obtain ⟨e1, e2, e3, e4, e5⟩ := z4c n t
 refine ⟨rfl, ⟨i1, e4.trans ht.key, ?_⟩, e1, i2⟩
 show (n.foldl z1b t).floor = 0 ∨ (ok (n.foldl z1b t).floor ∧ (n.foldl z1b t).order = ord (n.foldl z1b t).floor)
 rw [e2, e5]
 exact ht.floor
end Bk
namespace Qt
section
variable {P : Program} {ops : Array Oper} {W : World} {R : Nat → Value → World → Prop} {K : Act → World → Prop}
theorem x8x {k : Nat} {F : Nat → World → Prop} {a : Act} {o : Oper} {l : List Oper} (ty : TypeId) (x : Operand) (ho : o.op = .load ty x) {d : TypeDesc} (hu : P.underlying ty = some d) (hd : d.isRow = false) (b off : Nat) (v : Value) (hx : a.eval x = .pointer (some ⟨b, off, none⟩)) (hb : b < W.heap.size) (hc : W.cell? ⟨b, off, none⟩ = some v) (hR : R k = pu v)
  (h2 : x3a P ops W R K l (k + 1) F (a.put o.dst v)) : x3a P ops W R K (o :: l) k F a := by
 refine q0h v hR (fun w' hw' _ => z4s ?_) h2
 have h1 := Gt.z4h hu hd (w := w') (b := b) (off := off) (v := v) (by rw [hw'.cell (by exact hb)]; exact hc)
 unfold execOp
 simp only [ho, hx, Instr.loadAt, Instr.sureAddr, Sem.run_bind, Sem.run_pure, Result.andThen_ok, h1]
theorem j0a {k : Nat} {F : Nat → World → Prop} {a : Act} {o : Oper} {l : List Oper} (t : TypeId) (x ix : Operand) (ho : o.op = .indexAddr t x ix) (e : TypeId) (sz : Nat) (hu : P.underlying t = some (.slice e)) (hs : P.cellsOf e = sz) (hi0 : (P.info? e).isSome = true) (b len cap n : Nat)
  (hx : a.eval x = .slice (some ⟨b, 0, none⟩) len cap) (hi : a.eval ix = .int .i64 (n : Int)) (hn : n < len) (hR : R k = pu (.pointer (some ⟨b, n * sz, none⟩)))
  (h2 : x3a P ops W R K l (k + 1) F (a.put o.dst (.pointer (some ⟨b, n * sz, none⟩)))) : x3a P ops W R K (o :: l) k F a := by
 refine q0h _ hR (fun w' _ _ => z4s ?_) h2
 have hr := Ks.y1m (P := P) w' t e sz hu hs hi0 b len cap n hn
 unfold execOp
 simp only [ho, hx, hi, Sem.run_bind, Sem.run_pure, Result.andThen_ok, hr]
theorem x2w {w' : World} {o : Oper} {a : Act} {r : Value → World → Prop} (u : Value) (h : (execOp a.eval o).run P w' = .ok (.value u) w') (hr : r u w') : z5g P w' r ((execOp a.eval o).run P w') := by
 rw [h]; exact ⟨hr, Below.refl _ _⟩
theorem y3b {w' : World} {o : Oper} {a : Act} {r : Value → World → Prop} (f : FuncId) (args : Array Value) (h : (execOp a.eval o).run P w' = .ok (.enter f args) w') (hc : Calls P f args w' fun e w'' => ∃ u, e = .returned u ∧ r u w'' ∧ Below w'.heap.size w' w'') : z5g P w' r ((execOp a.eval o).run P w') := by
 rw [h]; exact hc
end
end Qt
namespace Tn
open Mp Bk Tk Gw Gt
section
variable {k : List UInt8} {ok : Int → Prop} {ord : Int → List UInt8} {z1n : List Int} {N : Nat} {w w' : World} {lv : Value} {O : Nat → Nat → Prop} {ps : List (Nat × St)} {m : Nat} {P : Int × Int → Int × Int} {ow : Int → Int}
theorem z0v.fr (h : z0v k ok ord z1n N w lv O ps m P ow) {S : Nat → Prop} (hf : Fr S w.heap.size w w') (hS : ∀ b, S b → N ≤ b ∧ z9b O b) (hl : ∀ b, lv.ownBlock = some b → ¬ S b) : z0v k ok ord z1n N w' lv O ps m P ow :=
 ⟨h.tin.fr hf hS, h.gts, h.row.congr fun b hb => hf.block b (h.row.lt b hb) (hl b hb), h.four⟩
theorem z0v.push (h : z0v k ok ord z1n N w lv O ps m P ow) {g : Nat} {s : St} (hb : Below w.heap.size w w') (hg : z0h (fun b => w.heap.size ≤ b) w' g s) (hs : Gt1 k ok ord P ow s) : ∃ O', z0v k ok ord (z1n ++ [s.number]) N w' lv O' (ps ++ [(g, s)]) m P ow ∧ Kept O w O' w' := by
 obtain ⟨O', hT, hK⟩ := h.tin.push hb hg
 refine ⟨O', ⟨hT, ⟨?_, ?_, h.gts.few⟩, ?_, by rw [List.length_append]; have := h.four; omega⟩, hK⟩
 ·rw [List.map_append, List.map_append, h.gts.z1n]
  rfl
 ·intro t ht
  rw [List.map_append] at ht
  rcases List.mem_append.1 ht with ht | ht
  ·exact h.gts.all t ht
  ·obtain rfl : t = s := by simpa using ht
   exact hs
 ·rw [List.take_append_of_le_length h.four]
  exact hK.row h.row
theorem q5r (h : z0v k ok ord z1n N w lv O ps m P ow) {j : Nat} {q : Nat × St} (hq : ps[j]? = some q) {n : List It} {hv : Value} (hrow : Row (fun b => N ≤ b ∧ z9b O b) w 73 5 hv n.length (itL n)) (hn : z5a P ow 0 n) (hl : n.length ≤ 16000) :
  Calls Tryz.prog 37 #[.pointer (some ⟨q.1, 0, none⟩), .agg #[str [], hv]] w fun e w' => ∃ u, e = .returned u ∧ u = .int .i64 0 ∧ ∃ O' s', z0v k ok ord z1n N w' lv O' (ps.set j (q.1, s')) m P ow ∧ Kept O w O' w' ∧ ∀ x, x ∈ s'.keys ↔ x ∈ q.2.keys ∨ x ∈ n.map It.key := by
 obtain ⟨h1, h2, h3⟩ := h.at_ hq
 obtain ⟨c1, c2, c3, c4⟩ := h2.k9b (R := z0n) hn
 refine (q5s h1 [] hv n hrow (fun b hb => hb.2 j) (by omega) h.tin.tab).mono fun e w' hx => ?_
 obtain ⟨u, rfl, rfl, hg, hf⟩ := hx
 obtain ⟨O', hT, hK⟩ := h.turn hq hf hg (h.gts.set h3 c2 c3)
 exact ⟨_, rfl, by rw [c1], O', _, hT, hK, c4⟩
end
def nwC (l : List (List It × Value)) : List Value := l.flatMap fun p => [str [], p.2]
theorem k5s : (Tryz.prog.info? 66).map (fun i => (i.zero, i.size, i.bytes)) = some (some (.agg #[.string ⟨#[]⟩, .slice none 0 0]), 2, 40) := by kernel_rfl
theorem k6n : (Tryz.prog.info? 81).map (fun i => (i.zero, i.size, i.bytes)) = some (some (.agg #[.int .i64 0, .int .i64 0, .int .i64 0, .int .i64 0]), 4, 32) := by kernel_rfl
structure x3b (S : Nat → Prop) (w : World) (v : Value) (l : List (List It × Value)) : Prop where
 row : Row S w 66 2 v l.length (nwC l)
 more : ∀ p ∈ l, Row S w 73 5 p.2 p.1.length (itL p.1)
theorem x3b.nil (S : Nat → Prop) (w : World) : x3b S w (.slice none 0 0) [] := ⟨Row.nil _ _ _ _, fun _ hp => (List.not_mem_nil hp).elim⟩
theorem x3b.kept {O O' : Nat → Nat → Prop} {N : Nat} {w w' : World} {v : Value} {l : List (List It × Value)} (h : x3b (fun b => N ≤ b ∧ z9b O b) w v l) (k : Kept O w O' w') : x3b (fun b => N ≤ b ∧ z9b O' b) w' v l := ⟨k.row h.row, fun p hp => k.row (h.more p hp)⟩
theorem x3b.mono {S T : Nat → Prop} {w : World} {v : Value} {l : List (List It × Value)} (h : x3b S w v l) (hS : ∀ k, S k → T k) : x3b T w v l := ⟨h.row.mono hS, fun p hp => (h.more p hp).mono hS⟩
theorem x3b.push {S : Nat → Prop} {w w' : World} {v v' : Value} {l : List (List It × Value)} (h : x3b S w v l) {t : List It} {m : Value} (hm : Row S w 73 5 m t.length (itL t)) (hr : Row (fun k => S k ∨ w.heap.size ≤ k) w' 66 2 v' (l.length + 1) (nwC l ++ [str [], m])) (hf : Fr (fun k => v.ownBlock = some k) w.heap.size w w') : x3b (fun k => S k ∨ w.heap.size ≤ k) w' v' (l ++ [(t, m)]) := by
 have hk : ∀ {u : Value} {n : Nat} {xs : List Value}, Row S w 73 5 u n xs → Row (fun k => S k ∨ w.heap.size ≤ k) w' 73 5 u n xs := fun hu => by
  refine (hu.congr fun b hb => hf.block b (hu.lt b hb) fun e => ?_).mono fun _ h => Or.inl h
  obtain ⟨cur, hc⟩ := Row.blk h.row e
  exact z2e hu hc (by decide) hb
 refine ⟨?_, ?_⟩
 ·rw [List.length_append]
  simpa [nwC] using hr
 ·intro p hp
  rcases List.mem_append.1 hp with hp | hp
  ·exact hk (h.more p hp)
  ·obtain rfl : p = _ := List.mem_singleton.1 hp
   exact hk hm
structure TAt (K : List UInt8) (od : Int → List UInt8) (N : Nat) (w0 : World) (lv : Value) (w : World) (O : Nat → Nat → Prop) (ps : List (Nat × St)) (m : Nat) (P : Int × Int → Int × Int) (ow : Int → Int) (nv : Value) (ns : List (List It × Value)) (ga : Nat) (sa : St) (gz : Nat) (sz : St) : Prop where
 town : z0v K noF od k7t N w lv O ps m P ow
 low : Below N w0 w
 at_ : x3b (fun b => N ≤ b ∧ z9b O b) w nv ns
 of_ : ∀ p ∈ ns, z5a P ow 0 p.1 ∧ p.1.length ≤ 16000
 a : ps[4]? = some (ga, sa)
 z : ps[5]? = some (gz, sz)
 fa : ∀ x ∈ sa.keys, ∃ p ∈ ns, x ∈ p.1.map It.key
 fz : ∀ x ∈ sz.keys, ∃ p ∈ ns, x ∈ p.1.map It.key
section
variable {K : List UInt8} {od : Int → List UInt8} {N : Nat} {w0 w w' : World} {lv : Value} {O : Nat → Nat → Prop} {ps : List (Nat × St)} {m : Nat} {P : Int × Int → Int × Int} {ow : Int → Int} {nv : Value} {ns : List (List It × Value)} {ga gz : Nat} {sa sz : St}
theorem TAt.below (h : TAt K od N w0 lv w O ps m P ow nv ns ga sa gz sz) (hb : Below w.heap.size w w') : TAt K od N w0 lv w' O ps m P ow nv ns ga sa gz sz :=
 ⟨h.town.below hb, h.low.trans (hb.mono h.town.tin.wN), h.at_.kept (Kept.below hb), h.of_, h.a, h.z, h.fa, h.fz⟩
theorem TAt.goes (h : TAt K od N w0 lv w O ps m P ow nv ns ga sa gz sz) {O' : Nat → Nat → Prop} {ps' : List (Nat × St)} {m' : Nat} {P' : Int × Int → Int × Int} {ow' : Int → Int} (hOn : On K noF od k7t N lv O w ps P ow w' ps' m' O' P' ow') : TAt K od N w0 lv w' O' ps' m' P' ow' nv ns ga sa gz sz :=
 ⟨hOn.town, h.low.trans (h.town.tin.x5n hOn.kept), h.at_.kept hOn.kept, fun p hp => ⟨hOn.grew.news _ _ (h.of_ p hp).1, (h.of_ p hp).2⟩, by rw [hOn.rest 4 (by decide)]; exact h.a, by rw [hOn.rest 5 (by decide)]; exact h.z, h.fa, h.fz⟩
theorem TAt.more {m' : Nat} (h : TAt K od N w0 lv w O ps m P ow nv ns ga sa gz sz) (hm : m ≤ m') : TAt K od N w0 lv w O ps m' P ow nv ns ga sa gz sz := ⟨h.town.more hm, h.low, h.at_, h.of_, h.a, h.z, h.fa, h.fz⟩
theorem TAt.push (h : TAt K od N w0 lv w O ps m P ow nv ns ga sa gz sz) {t : List It} {v nv' : Value} (ht : z5a P ow 0 t) (hl : t.length ≤ 16000) (hm : Row (fun b => N ≤ b ∧ z9b O b) w 73 5 v t.length (itL t)) (hr : Row (fun k => (N ≤ k ∧ z9b O k) ∨ w.heap.size ≤ k) w' 66 2 nv' (ns.length + 1) (nwC ns ++ [str [], v])) (hf : Fr (fun k => nv.ownBlock = some k) w.heap.size w w') : TAt K od N w0 lv w' O ps m P ow nv' (ns ++ [(t, v)]) ga sa gz sz := by
 have hS : ∀ b, nv.ownBlock = some b → N ≤ b ∧ z9b O b := fun b hb => h.at_.row.2 b hb
 refine ⟨h.town.fr hf hS fun b hb e => ?_, h.low.trans (hf.below h.town.tin.wN fun b hb e => by have := (hS b e).1; omega), (h.at_.push hm hr hf).mono fun b hb => hb.elim id fun hb => ⟨Nat.le_trans h.town.tin.wN hb, fun i hi => by have := (h.town.tin.lt b i hi).2; omega⟩, ?_, h.a, h.z, ?_, ?_⟩
 ·obtain ⟨cur, hc⟩ := Row.blk h.at_.row e
  exact z2e h.town.row hc (by decide) hb
 ·intro p hp
  rcases List.mem_append.1 hp with hp | hp
  ·exact h.of_ p hp
  ·obtain rfl : p = _ := List.mem_singleton.1 hp
   exact ⟨ht, hl⟩
 ·intro x hx
  obtain ⟨p, hp, e⟩ := h.fa x hx
  exact ⟨p, List.mem_append_left _ hp, e⟩
 ·intro x hx
  obtain ⟨p, hp, e⟩ := h.fz x hx
  exact ⟨p, List.mem_append_left _ hp, e⟩
theorem TAt.a_k (h : TAt K od N w0 lv w O ps m P ow nv ns ga sa gz sz) {p : List It × Value} (hp : p ∈ ns) :
  Calls Tryz.prog 37 #[.pointer (some ⟨ga, 0, none⟩), .agg #[str [], p.2]] w fun e w' => ∃ u, e = .returned u ∧ u = .int .i64 0 ∧ ∃ O' ps' sa', TAt K od N w0 lv w' O' ps' m P ow nv ns ga sa' gz sz ∧ Kept O w O' w' ∧ ∀ x, x ∈ sa'.keys ↔ x ∈ sa.keys ∨ x ∈ p.1.map It.key := by
 refine (q5r h.town h.a (h.at_.more p hp) (h.of_ p hp).1 (h.of_ p hp).2).mono fun e w' hx => ?_
 obtain ⟨u, rfl, rfl, O', s', hT, hK, hkk⟩ := hx
 have hl : 5 < ps.length := (lL h.z)
 refine ⟨_, rfl, rfl, O', _, s', ⟨hT, h.low.trans (h.town.tin.x5n hK), h.at_.kept hK, h.of_, List.getElem?_set_self (by omega), by rw [List.getElem?_set_ne (by decide)]; exact h.z, fun x hx => ?_, h.fz⟩, hK, hkk⟩
 rcases (hkk x).1 hx with hx | hx
 ·exact h.fa x hx
 ·exact ⟨p, hp, hx⟩
theorem TAt.z_k (h : TAt K od N w0 lv w O ps m P ow nv ns ga sa gz sz) {p : List It × Value} (hp : p ∈ ns) :
  Calls Tryz.prog 37 #[.pointer (some ⟨gz, 0, none⟩), .agg #[str [], p.2]] w fun e w' => ∃ u, e = .returned u ∧ u = .int .i64 0 ∧ ∃ O' ps' sz', TAt K od N w0 lv w' O' ps' m P ow nv ns ga sa gz sz' ∧ Kept O w O' w' ∧ ∀ x, x ∈ sz'.keys ↔ x ∈ sz.keys ∨ x ∈ p.1.map It.key := by
 refine (q5r h.town h.z (h.at_.more p hp) (h.of_ p hp).1 (h.of_ p hp).2).mono fun e w' hx => ?_
 obtain ⟨u, rfl, rfl, O', s', hT, hK, hkk⟩ := hx
 have hl : 5 < ps.length := (lL h.z)
 refine ⟨_, rfl, rfl, O', _, s', ⟨hT, h.low.trans (h.town.tin.x5n hK), h.at_.kept hK, h.of_, by rw [List.getElem?_set_ne (by decide)]; exact h.a, List.getElem?_set_self (by omega), h.fa, fun x hx => ?_⟩, hK, hkk⟩
 rcases (hkk x).1 hx with hx | hx
 ·exact h.fz x hx
 ·exact ⟨p, hp, hx⟩
theorem TAt.cell {gn gc : Nat} (h : TAt K od N w0 lv w O ps m P ow (.slice (some ⟨gn, 0, none⟩) ns.length gc) ns ga sa gz sz) {i : Nat} {p : List It × Value} (hp : ns[i]? = some p) : w.rangeAt gn (i * 2) [str [], p.2] := by
 obtain ⟨q, cap, e, hc⟩ := Row.form h.at_.row
 injection e with e1 e2 e3
 obtain ⟨g, cur, e4, hg, ht⟩ := hc i (lL hp)
 rw [← e1] at e4
 injection e4 with e4
 injection e4 with e4
 subst e4
 exact Row.range (f := fun p : List It × Value => [str [], p.2]) (m := 2) (fun _ => rfl) hg ht hp
theorem TAt.same (h : TAt K od N w0 lv w O ps m P ow nv ns ga sa gz sz) (ha : ∀ p ∈ ns, ∀ x ∈ p.1.map It.key, x ∈ sa.keys) (hz : ∀ p ∈ ns, ∀ x ∈ p.1.map It.key, x ∈ sz.keys) : sa.l = sz.l ∧ sa.floor = sz.floor ∧ told sa = told sz := by
 obtain ⟨_, g1, _⟩ := h.town.at_ h.a
 obtain ⟨_, g2, _⟩ := h.town.at_ h.z
 have f1 : sa.floor = 0 := by
  rcases g1.floor with e | ⟨e, _⟩
  ·exact e
  ·exact e.elim
 have f2 : sz.floor = 0 := by
  rcases g2.floor with e | ⟨e, _⟩
  ·exact e
  ·exact e.elim
 refine ⟨g1.town.eq g2.town (f1.trans f2.symm) fun x => ⟨fun hx => ?_, fun hx => ?_⟩, f1.trans f2.symm, k1x g1 g2 (f1.trans f2.symm)⟩
 ·obtain ⟨p, hp, e⟩ := h.fa x hx
  exact hz p hp x e
 ·obtain ⟨p, hp, e⟩ := h.fz x hx
  exact ha p hp x e
end
end Tn
end Go.Proofs.YtbojijefenfbgaaGreatDoor

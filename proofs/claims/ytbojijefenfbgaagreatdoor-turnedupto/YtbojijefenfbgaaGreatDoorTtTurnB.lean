/- Walk of the package posternkeep's Turned. -/
import Derived.Test.YtbojijefenfbgaaGreatDoorTtTownH
namespace Go.Proofs.YtbojijefenfbgaaGreatDoor
open Go Go.RowKit
namespace Tn
open Mp Bk Tk Gw Gt
theorem x8j {n m : Nat} (h : n < m) : pk (n : Int) m = n := by
 unfold pk
 rw [if_neg (by omega), Int.emod_eq_of_lt (by omega) (by omega)]
 omega
def tu0 (sd : List UInt8) (sv : Value) (tv : Int) (gb gc ga gz : Nat) (nv : Value) (f : Nat → Value) : Act := { tmps := #[str sd, sv, .int .i64 tv, f 3, f 4, f 5, .bool false, .slice (some ⟨gb, 0, none⟩) 4 gc, f 8, f 9, f 10, .pointer (some ⟨ga, 0, none⟩), f 12, .pointer (some ⟨gz, 0, none⟩), f 14, nv, f 16, f 17, f 18, f 19, f 20, f 21, f 22, f 23, f 24, f 25, f 26, f 27, f 28, f 29, f 30, f 31, f 32, f 33, f 34, f 35, f 36, f 37, f 38, f 39, f 40, f 41, f 42, f 43, f 44, f 45, f 46, f 47, f 48, f 49, f 50, f 51, f 52, f 53, f 54, f 55, f 56, f 57, f 58, f 59, f 60, f 61, f 62, f 63, f 64, f 65, f 66, f 67, f 68, f 69, f 70, f 71, f 72, f 73, f 74, f 75, f 76, f 77, f 78, f 79, f 80, f 81, f 82, f 83, f 84, f 85, f 86, f 87, f 88, f 89, f 90, f 91, f 92, f 93, f 94, f 95, f 96, f 97, f 98, f 99, f 100, f 101, f 102, f 103, f 104, f 105, f 106, f 107, f 108, f 109, f 110, f 111, f 112, f 113, f 114, f 115, f 116, f 117, f 118, f 119, f 120, f 121, f 122, f 123, f 124, f 125, f 126, f 127, f 128, f 129, f 130, f 131, f 132, f 133, f 134, f 135, f 136, f 137, f 138, f 139, f 140, f 141, f 142, f 143, f 144, f 145, f 146, f 147, f 148, f 149, f 150, f 151, f 152, f 153, f 154, f 155, f 156, f 157, f 158, f 159, f 160, f 161, f 162, f 163, f 164, f 165, f 166, f 167, f 168, f 169, f 170, f 171, f 172, f 173, f 174, f 175, f 176, f 177, f 178, f 179, f 180, f 181], defers := [] }
def tu1 (sd : List UInt8) (sv : Value) (tv : Int) (gb gc ga gz : Nat) (nv : Value) (i : Nat) (f : Nat → Value) : Act := { tmps := #[str sd, sv, .int .i64 tv, f 3, f 4, f 5, .bool false, .slice (some ⟨gb, 0, none⟩) 4 gc, f 8, f 9, f 10, .pointer (some ⟨ga, 0, none⟩), f 12, .pointer (some ⟨gz, 0, none⟩), f 14, nv, .int .i64 (i : Int), f 17, f 18, f 19, f 20, f 21, f 22, f 23, f 24, f 25, f 26, f 27, f 28, f 29, f 30, f 31, f 32, f 33, f 34, f 35, f 36, f 37, f 38, f 39, f 40, f 41, f 42, f 43, f 44, f 45, f 46, f 47, f 48, f 49, f 50, f 51, f 52, f 53, f 54, f 55, f 56, f 57, f 58, f 59, f 60, f 61, f 62, f 63, f 64, f 65, f 66, f 67, f 68, f 69, f 70, f 71, f 72, f 73, f 74, f 75, f 76, f 77, f 78, f 79, f 80, f 81, f 82, f 83, f 84, f 85, f 86, f 87, f 88, f 89, f 90, f 91, f 92, f 93, f 94, f 95, f 96, f 97, f 98, f 99, f 100, f 101, f 102, f 103, f 104, f 105, f 106, f 107, f 108, f 109, f 110, f 111, f 112, f 113, f 114, f 115, f 116, f 117, f 118, f 119, f 120, f 121, f 122, f 123, f 124, f 125, f 126, f 127, f 128, f 129, f 130, f 131, f 132, f 133, f 134, f 135, f 136, f 137, f 138, f 139, f 140, f 141, f 142, f 143, f 144, f 145, f 146, f 147, f 148, f 149, f 150, f 151, f 152, f 153, f 154, f 155, f 156, f 157, f 158, f 159, f 160, f 161, f 162, f 163, f 164, f 165, f 166, f 167, f 168, f 169, f 170, f 171, f 172, f 173, f 174, f 175, f 176, f 177, f 178, f 179, f 180, f 181], defers := [] }
def tu2 (sd : List UInt8) (sv : Value) (tv : Int) (gb gc ga gz : Nat) (nv : Value) (i : Nat) (f : Nat → Value) : Act := { tmps := #[str sd, sv, .int .i64 tv, f 3, f 4, f 5, .bool false, .slice (some ⟨gb, 0, none⟩) 4 gc, f 8, f 9, f 10, .pointer (some ⟨ga, 0, none⟩), f 12, .pointer (some ⟨gz, 0, none⟩), f 14, nv, f 16, f 17, f 18, f 19, f 20, f 21, .int .i64 (i : Int), f 23, f 24, f 25, f 26, f 27, f 28, f 29, f 30, f 31, f 32, f 33, f 34, f 35, f 36, f 37, f 38, f 39, f 40, f 41, f 42, f 43, f 44, f 45, f 46, f 47, f 48, f 49, f 50, f 51, f 52, f 53, f 54, f 55, f 56, f 57, f 58, f 59, f 60, f 61, f 62, f 63, f 64, f 65, f 66, f 67, f 68, f 69, f 70, f 71, f 72, f 73, f 74, f 75, f 76, f 77, f 78, f 79, f 80, f 81, f 82, f 83, f 84, f 85, f 86, f 87, f 88, f 89, f 90, f 91, f 92, f 93, f 94, f 95, f 96, f 97, f 98, f 99, f 100, f 101, f 102, f 103, f 104, f 105, f 106, f 107, f 108, f 109, f 110, f 111, f 112, f 113, f 114, f 115, f 116, f 117, f 118, f 119, f 120, f 121, f 122, f 123, f 124, f 125, f 126, f 127, f 128, f 129, f 130, f 131, f 132, f 133, f 134, f 135, f 136, f 137, f 138, f 139, f 140, f 141, f 142, f 143, f 144, f 145, f 146, f 147, f 148, f 149, f 150, f 151, f 152, f 153, f 154, f 155, f 156, f 157, f 158, f 159, f 160, f 161, f 162, f 163, f 164, f 165, f 166, f 167, f 168, f 169, f 170, f 171, f 172, f 173, f 174, f 175, f 176, f 177, f 178, f 179, f 180, f 181], defers := [] }
def k2q (B : Nat) (s : St) (u : Value) (w : World) : Prop := ∃ sv l, u = .agg #[.int .i64 s.floor, sv] ∧ l.map Prod.fst = z5w s.keys ∧ z1e (fun k => B ≤ k) w sv l
theorem k2q.y6q (B : Nat) (s : St) : Qt.x5d (k2q B s) := fun u w w' h hb => by
 obtain ⟨sv, l, h1, h2, h3⟩ := h
 exact ⟨sv, l, h1, h2, h3.below hb⟩
def x5f (B : Nat) (n : List It) (mk : Value → Value) (u : Value) (w : World) : Prop := ∃ hv, u = mk hv ∧ Row (fun k => B ≤ k) w 73 5 hv n.length (itL n)
theorem x5f.y6q (B : Nat) (n : List It) (mk : Value → Value) : Qt.x5d (x5f B n mk) := fun u w w' h hb => by
 obtain ⟨hv, h1, h2⟩ := h
 exact ⟨hv, h1, h2.below hb (Nat.le_refl _)⟩
def k2p (B : Nat) (u : Value) (w : World) : Prop := ∃ b, u = .pointer (some ⟨b, 0, none⟩) ∧ B ≤ b ∧ w.heap[b]? = some (.cells #[.string ⟨#[]⟩, .slice none 0 0] 66 (0, 0))
theorem k2p.y6q (B : Nat) : Qt.x5d (k2p B) := fun u w w' h hb => by
 obtain ⟨b, h1, h2, h3⟩ := h
 exact ⟨b, h1, h2, (hb.block b (aL h3)).trans h3⟩
theorem k6w {S T : Nat → Prop} {w : World} {g : Nat} {s t : St} (h : z0h S w g s) (hI : Inv s) (hJ : Inv t) (hf : s.floor = 0) (hg : t.floor = 0) {sv : Value} {l : List (Sn × Value)} (hl : l.map Prod.fst = z5w t.keys) (hs : z1e T w sv l) (most : Nat) :
  Calls Tryz.prog 28 #[.pointer (some ⟨g, 0, none⟩), .agg #[.int .i64 t.floor, sv], .int .i64 (most : Int)] w fun e w' => ∃ u, e = .returned u ∧ (∃ hv, u = .tuple #[.agg #[str [], hv], .int .i64 0] ∧ Row (fun k => w.heap.size ≤ k) w' 73 5 hv (z1m s t most).length (itL (z1m s t most))) ∧ Below w.heap.size w w' := by
 have hlen : l.length ≤ 1000000000 := by
  have := congrArg List.length hl
  rw [List.length_map] at this
  have h2 := y3t t.keys
  have h3 := hJ.few
  unfold St.keys at *
  rw [List.length_map] at h2
  omega
 have hmore : ∀ p ∈ l, p.1.more.length ≤ 1000000000 := by
  intro p hp
  have h1 : p.1 ∈ z5w t.keys := by rw [← hl]; exact List.mem_map.2 ⟨p, hp, rfl⟩
  have h2 := (z8m (fun k hk => (hJ.x1e k hk).2) p.1 h1).2
  have h3 := hJ.few
  unfold St.keys at h2
  rw [List.length_map] at h2
  omega
 have hT := y4x h hI t.floor sv l most hs hlen hmore (by rw [hl]; exact hJ.z8t)
 rw [hl, if_neg (by omega)] at hT
 exact hT
set_option maxRecDepth 10000 in
set_option maxHeartbeats 40000000 in
theorem q5b (sd : List UInt8) (a0 : Option Addr) (cap : Nat) (os : List S4) (tv : Int) (htv : I64 tv) (w : World) (ht : Hs.z0j w) (hS : ∀ w', Below w.heap.size w w' → ∀ O, (∀ b i, O b i → w.heap.size ≤ b) → q6z O w' a0 os) (hl : os.length ≤ 1000000000000) : Calls Tryz.prog 9 #[str sd, .slice a0 os.length cap, .int .i64 tv] w fun e w' => e = .returned (.bool true) ∧ Below w.heap.size w w' := by
 have hkl := x1d (z1h sd)
 have hkn : (z6v (z1h sd)).length ≤ 281474976710656 := by rw [Gw.y2u, Gw.z3f]; decide
 have Hkey := x1v (z1h sd) (z4i sd)
 have hPlay := fun {z1n : List Int} {N : Nat} {w : World} {lv : Value} {O : Nat → Nat → Prop} {ps : List (Nat × St)} {m : Nat} {P : Int × Int → Int × Int} {ow : Int → Int} => @k6b noF z1n N w lv O ps m P ow sd (x8d (z1h sd))
 have Hseed : ∀ w, Calls Tryz.prog 29 #[str sd] w fun e w' => e = .returned (str (z1h sd)) ∧ Below w.heap.size w w' := fun w => y7p sd w
 go_enter Tryz.func9, Tryz.ntmps9
 refine wp_seq ?_
 refine Ks.reg ?_
 refine Ks.v (.bool false) ?_
 simp only [zD]
 refine Ks.done ?_
 refine wp_seq ?_
 refine Ks.reg ?_
 refine Ks.v (str sd) ?_
 simp only [zD]
 refine Ks.call rfl 24 #[str sd] (by kernel_rfl) (k6y sd w ht) ?_
 rintro _ w1 ⟨⟨lv, ps, O, rfl, hps, hT, hrow⟩, hb1⟩
 have hTown : z0v (z6v (z1h sd)) noF (y9g (z1h sd)) k9q w.heap.size w1 lv O ps 0 (fun _ => (0, 0)) (fun _ => 0) := z0v.start hT hps hrow
 generalize z6v (z1h sd) = K at *
 generalize y9g (z1h sd) = od at *
 generalize z1h sd = sl at *
 obtain ⟨gb, gc, rfl⟩ := hTown.list
 have hpl : ps.length = 4 := hTown.len
 clear hT hrow hps
 simp only [zD]
 refine Ks.v (.tuple #[.slice (some ⟨gb, 0, none⟩) 4 gc, .bool true]) ?_
 simp only [zD]
 refine Ks.v (.slice (some ⟨gb, 0, none⟩) 4 gc) ?_
 simp only [zD]
 refine Ks.v (.bool true) ?_
 simp only [zD]
 refine Ks.v (.slice (some ⟨gb, 0, none⟩) 4 gc) ?_
 simp only [zD]
 refine Ks.v (.bool true) ?_
 simp only [zD]
 refine Ks.done ?_
 refine wp_seq ?_
 refine wp_seq ?_
 refine Ks.reg ?_
 refine Ks.v (.bool true) ?_
 simp only [zD]
 refine Ks.v (.bool false) ?_
 simp only [zD]
 refine Ks.done ?_
 refine wp_cond_false rfl ?_
 refine wp_skip ?_
 refine Ks.norm ?_
 refine wp_seq ?_
 refine Ks.reg ?_
 refine Ks.v (str sd) ?_
 simp only [zD]
 refine Ks.call rfl 29 #[str sd] (by kernel_rfl) (R := fun v w' => v = str sl ∧ Below w1.heap.size w1 w') (Calls.mono (Hseed w1) fun e w' h => ⟨_, h.1, rfl, h.2⟩) ?_
 rintro _ w2 ⟨rfl, hb2⟩
 have hTown2 := hTown.below hb2
 simp only [zD]
 refine Ks.call rfl 34 #[str sl] (by kernel_rfl) (R := fun v w' => v = .tuple #[str K, .int .i64 0] ∧ Below w2.heap.size w2 w') (Calls.mono (Hkey w2 hTown2.tin.tab) fun e w' h => ⟨_, h.1, rfl, h.2⟩) ?_
 rintro _ w3 ⟨rfl, hb3⟩
 have hTown3 := hTown2.below hb3
 have hB3 : Below w.heap.size w w3 := hb1.trans ((hb2.trans (hb3.mono hb2.size)).mono hb1.size)
 clear hTown hTown2 hb1 hb2 hb3
 simp only [zD]
 refine Ks.v (.tuple #[str K, .int .i64 0]) ?_
 simp only [zD]
 refine Ks.v (str K) ?_
 simp only [zD]
 refine Ks.v (.int .i64 0) ?_
 simp only [zD]
 refine Ks.v (str K) ?_
 simp only [zD]
 refine Ks.v (.int .i64 0) ?_
 simp only [zD]
 refine Ks.done ?_
 refine wp_seq ?_
 refine Ks.reg ?_
 refine Ks.v (str K) ?_
 simp only [zD]
 refine Ks.call rfl 35 #[.int .i64 15, str K] (by kernel_rfl) (y9c 15 K (by simp [bet]) hkl hkn w3) ?_
 rintro _ w4 ⟨⟨ga, rfl, hga⟩, hb4⟩
 obtain ⟨O4, hT4, hK4⟩ := hTown3.push hb4 hga (Gt1.new (by omega) rfl)
 have hB4 : Below w.heap.size w w4 := hB3.trans (hb4.mono hB3.size)
 clear hTown3 hga hB3
 simp only [zD]
 refine Ks.v (.tuple #[.pointer (some ⟨ga, 0, none⟩), .int .i64 0]) ?_
 simp only [zD]
 refine Ks.v (.pointer (some ⟨ga, 0, none⟩)) ?_
 simp only [zD]
 refine Ks.v (.int .i64 0) ?_
 simp only [zD]
 refine Ks.v (.pointer (some ⟨ga, 0, none⟩)) ?_
 simp only [zD]
 refine Ks.v (.int .i64 0) ?_
 simp only [zD]
 refine Ks.done ?_
 refine wp_seq ?_
 refine Ks.reg ?_
 refine Ks.v (str K) ?_
 simp only [zD]
 refine Ks.call rfl 35 #[.int .i64 15, str K] (by kernel_rfl) (y9c 15 K (by simp [bet]) hkl hkn w4) ?_
 rintro _ w5 ⟨⟨gz, rfl, hgz⟩, hb5⟩
 obtain ⟨O5, hT5, hK5⟩ := hT4.push hb5 hgz (Gt1.new (by omega) rfl)
 have hB5 : Below w.heap.size w w5 := hB4.trans (hb5.mono hB4.size)
 have hA5 : TAt K od w.heap.size w (.slice (some ⟨gb, 0, none⟩) 4 gc) w5 O5 (ps ++ [(ga, St.new 15 K)] ++ [(gz, St.new 15 K)]) 0 (fun _ => (0, 0)) (fun _ => 0) (.slice none 0 0) [] ga (St.new 15 K) gz (St.new 15 K) :=
  ⟨hT5, hB5, x3b.nil _ _, fun p hp => (List.not_mem_nil hp).elim, by rw [List.append_assoc, List.getElem?_append_right (by omega), hpl]; rfl, by rw [List.append_assoc, List.getElem?_append_right (by omega), hpl]; rfl, fun x hx => (List.not_mem_nil hx).elim, fun x hx => (List.not_mem_nil hx).elim⟩
 generalize ps ++ [(ga, St.new 15 K)] ++ [(gz, St.new 15 K)] = ps5 at hA5
 generalize St.new 15 K = s15 at hA5
 clear hT4 hT5 hK4 hK5 hgz hB4 hB5 hb4 hb5 Hkey Hseed hkl hkn hpl
 simp only [zD]
 refine Ks.v (.tuple #[.pointer (some ⟨gz, 0, none⟩), .int .i64 0]) ?_
 simp only [zD]
 refine Ks.v (.pointer (some ⟨gz, 0, none⟩)) ?_
 simp only [zD]
 refine Ks.v (.int .i64 0) ?_
 simp only [zD]
 refine Ks.v (.pointer (some ⟨gz, 0, none⟩)) ?_
 simp only [zD]
 refine Ks.v (.int .i64 0) ?_
 simp only [zD]
 refine Ks.done ?_
 refine wp_seq ?_
 refine wp_seq ?_
 refine Ks.reg ?_
 refine Ks.v (.pointer (some ⟨ga, 0, none⟩)) ?_
 simp only [zD]
 refine Ks.v (.bool false) ?_
 simp only [zD]
 refine Ks.v (.bool false) ?_
 simp only [zD]
 refine Ks.g (.pointer (some ⟨gz, 0, none⟩)) ?_
 simp only [zD]
 refine Ks.g (.bool false) ?_
 simp only [zD]
 refine Ks.v (.bool false) ?_
 simp only [zD]
 refine Ks.v (.bool false) ?_
 simp only [zD]
 refine Ks.g (.int .i64 0) ?_
 simp only [zD]
 refine Ks.g (.bool false) ?_
 simp only [zD]
 refine Ks.v (.bool false) ?_
 simp only [zD]
 refine Ks.v (.bool false) ?_
 simp only [zD]
 refine Ks.g (.int .i64 0) ?_
 simp only [zD]
 refine Ks.g (.bool false) ?_
 simp only [zD]
 refine Ks.v (.bool false) ?_
 simp only [zD]
 refine Ks.v (.bool false) ?_
 simp only [zD]
 refine Ks.g (.int .i64 0) ?_
 simp only [zD]
 refine Ks.g (.bool false) ?_
 simp only [zD]
 refine Ks.v (.bool false) ?_
 simp only [zD]
 refine Ks.done ?_
 refine wp_cond_false rfl ?_
 refine wp_skip ?_
 refine Ks.norm ?_
 refine wp_seq ?_
 refine Ks.reg ?_
 refine Ks.v (.slice none 0 0) ?_
 simp only [zD]
 refine Ks.done ?_
 refine Ks.cut (fun a' w' => ∃ (m : Nat) (O' : Nat → Nat → Prop) (ps' : List (Nat × St)) (P' : Int × Int → Int × Int) (ow' : Int → Int) (nv : Value) (ns : List (List It × Value)) (sa sz : St) (f : Nat → Value), ns.length ≤ 40 ∧ TAt K od w.heap.size w (.slice (some ⟨gb, 0, none⟩) 4 gc) w' O' ps' m P' ow' nv ns ga sa gz sz ∧ a' = tu0 sd (.slice a0 os.length cap) tv gb gc ga gz nv f) ?_ ?_
 ·refine wp_seq ?_
  refine Ks.reg ?_
  refine Ks.v (.int .i64 0) ?_
  simp only [zD]
  refine Ks.done ?_
  refine wp_block ?_
  have start : ∀ a' : Act, a' = tu1 sd (.slice a0 os.length cap) tv gb gc ga gz (.slice none 0 0) 0 (fun j => a'.tmps.getD j undef) → ∃ (i : Nat) (O' : Nat → Nat → Prop) (ps' : List (Nat × St)) (P' : Int × Int → Int × Int) (ow' : Int → Int) (nv : Value) (ns : List (List It × Value)) (sa sz : St) (f : Nat → Value), i ≤ 40 ∧ i ≤ os.length ∧ 40 = 40 - i ∧ ns.length = i ∧ TAt K od w.heap.size w (.slice (some ⟨gb, 0, none⟩) 4 gc) w5 O' ps' i P' ow' nv ns ga sa gz sz ∧ a' = tu1 sd (.slice a0 os.length cap) tv gb gc ga gz nv i f := fun a' e => ⟨0, O5, ps5, _, _, _, [], s15, s15, _, by omega, by omega, rfl, rfl, hA5, e⟩
  refine Ks.loop (fun q a wr => ∃ (i : Nat) (O' : Nat → Nat → Prop) (ps' : List (Nat × St)) (P' : Int × Int → Int × Int) (ow' : Int → Int) (nv : Value) (ns : List (List It × Value)) (sa sz : St) (f : Nat → Value), i ≤ 40 ∧ i ≤ os.length ∧ q = 40 - i ∧ ns.length = i ∧ TAt K od w.heap.size w (.slice (some ⟨gb, 0, none⟩) 4 gc) wr O' ps' i P' ow' nv ns ga sa gz sz ∧ a = tu1 sd (.slice a0 os.length cap) tv gb gc ga gz nv i f) 40 (start _ rfl) ?_
  clear start hA5
  rintro q a wr ⟨i, O, ps, P, ow, nv, ns, sa, sz, f, hi, hil, rfl, hnl, hA, rfl⟩
  have fin : ∀ (a' : Act) (w' : World) (i' : Nat) (O' : Nat → Nat → Prop) (ps' : List (Nat × St)) (P' : Int × Int → Int × Int) (ow' : Int → Int) (nv : Value) (ns : List (List It × Value)) (sa sz : St), i < i' → i' ≤ 40 → i' ≤ os.length → ns.length = i' → TAt K od w.heap.size w (.slice (some ⟨gb, 0, none⟩) 4 gc) w' O' ps' i' P' ow' nv ns ga sa gz sz → a' = tu1 sd (.slice a0 os.length cap) tv gb gc ga gz nv i' (fun j => a'.tmps.getD j undef) → ∃ q, q < 40 - i ∧ ∃ (i : Nat) (O' : Nat → Nat → Prop) (ps' : List (Nat × St)) (P' : Int × Int → Int × Int) (ow' : Int → Int) (nv : Value) (ns : List (List It × Value)) (sa sz : St) (f : Nat → Value), i ≤ 40 ∧ i ≤ os.length ∧ q = 40 - i ∧ ns.length = i ∧ TAt K od w.heap.size w (.slice (some ⟨gb, 0, none⟩) 4 gc) w' O' ps' i P' ow' nv ns ga sa gz sz ∧ a' = tu1 sd (.slice a0 os.length cap) tv gb gc ga gz nv i f := fun a' w' i' O' ps' P' ow' nv ns sa sz q1 q2 q3 q4 q5 q6 => ⟨40 - i', by omega, i', O', ps', P', ow', nv, ns, sa, sz, _, q2, q3, rfl, q4, q5, q6⟩
  obtain ⟨go, hgo⟩ : ∃ go : Bool, go = true ↔ i < os.length ∧ i < 40 := by
   by_cases hc : i < os.length ∧ i < 40
   ·exact ⟨true, by simp [hc]⟩
   ·exact ⟨false, by simp [hc]⟩
  unfold tu1
  refine wp_seq ?_
  refine Ks.cut (fun a' w' => w' = wr ∧ ∃ f : Nat → Value, f 76 = .bool go ∧ a' = tu1 sd (.slice a0 os.length cap) tv gb gc ga gz nv i f) ?_ ?_
  ·have fin4 : ∀ a' : Act, a'.tmps.getD 76 undef = .bool go → a' = tu1 sd (.slice a0 os.length cap) tv gb gc ga gz nv i (fun j => a'.tmps.getD j undef) → wr = wr ∧ ∃ f : Nat → Value, f 76 = .bool go ∧ a' = tu1 sd (.slice a0 os.length cap) tv gb gc ga gz nv i f := fun a' h1 h2 => ⟨rfl, _, h1, h2⟩
   refine Ks.reg ?_
   refine Ks.v (.int .i64 (i : Int)) ?_
   simp only [zD]
   refine Ks.v (.slice a0 os.length cap) ?_
   simp only [zD]
   refine Ks.v (.int .i64 (os.length : Int)) ?_
   simp only [zD]
   refine Ks.v (.bool (decide ((i : Int) < os.length))) ?_
   simp only [zD]
   refine Ks.v (.bool (decide ((i : Int) < os.length))) ?_
   simp only [zD]
   by_cases hlt : i < os.length
   ·rw [decide_eq_true (by omega : (i : Int) < os.length)]
    have e : go = decide ((i : Int) < 40) := by
     rw [Bool.eq_iff_iff, hgo, decide_eq_true_eq]
     omega
    refine Ks.g (.int .i64 (i : Int)) ?_
    simp only [zD]
    refine Ks.g (.bool (decide ((i : Int) < 40))) ?_
    simp only [zD]
    rw [← e]
    refine Ks.v (.bool go) ?_
    simp only [zD]
    refine Ks.done ?_
    exact fin4 _ rfl rfl
   ·rw [decide_eq_false (by omega : ¬ (i : Int) < os.length)]
    have e : go = false := by
     cases go
     ·rfl
     ·exact absurd (hgo.1 rfl).1 hlt
    with_reducible refine Ks.n ?_
    simp only [zD]
    with_reducible refine Ks.n ?_
    simp only [zD]
    refine Ks.v (.bool false) ?_
    simp only [zD]
    refine Ks.done ?_
    exact fin4 _ (by rw [e]; rfl) rfl
  rintro a' w' ⟨rfl, f', e76, rfl⟩
  unfold tu1
  rw [e76]
  cases go with
  | false =>
   have finX : ∀ a' : Act, a' = tu0 sd (.slice a0 os.length cap) tv gb gc ga gz nv (fun j => a'.tmps.getD j undef) → ∃ (m : Nat) (O' : Nat → Nat → Prop) (ps' : List (Nat × St)) (P' : Int × Int → Int × Int) (ow' : Int → Int) (nv : Value) (ns : List (List It × Value)) (sa sz : St) (f : Nat → Value), ns.length ≤ 40 ∧ TAt K od w.heap.size w (.slice (some ⟨gb, 0, none⟩) 4 gc) w' O' ps' m P' ow' nv ns ga sa gz sz ∧ a' = tu0 sd (.slice a0 os.length cap) tv gb gc ga gz nv f := fun a' e => ⟨i, O, ps, P, ow, nv, ns, sa, sz, _, by omega, hA, e⟩
   refine wp_cond_false rfl ?_
   refine wp_exit ?_
   refine Ks.z3r ?_
   exact finX _ rfl
  | true =>
   obtain ⟨hlt, hlt2⟩ := hgo.1 rfl
   obtain ⟨o, ho⟩ : ∃ o, os[i]? = some o := ⟨_, List.getElem?_eq_getElem hlt⟩
   have hS' := hS w' hA.low O fun b i hO => (hA.town.tin.lt b i hO).1
   have hoI := hS'.all o (List.mem_of_getElem? ho)
   obtain ⟨sb, so, rfl, hsb, hfree, hrng⟩ : ∃ sb so, a0 = some ⟨sb, so, none⟩ ∧ sb < w'.heap.size ∧ z9b O sb ∧ ∀ (i : Nat) (o : S4), os[i]? = some o → w'.rangeAt sb (so + i * 4) (s4C o) := by
    rcases hS'.at_ with e | e
    ·rw [e] at hlt; exact absurd hlt (Nat.not_lt_zero _)
    ·exact e
   have hr := hrng i o ho
   clear hrng hS'
   refine wp_cond_true rfl ?_
   refine wp_skip ?_
   refine Ks.norm ?_
   refine Ks.cut (fun a' w' => ∃ (O' : Nat → Nat → Prop) (ps' : List (Nat × St)) (P' : Int × Int → Int × Int) (ow' : Int → Int) (nv : Value) (ns : List (List It × Value)) (sa sz : St) (f : Nat → Value), ns.length = i + 1 ∧ TAt K od w.heap.size w (.slice (some ⟨gb, 0, none⟩) 4 gc) w' O' ps' (i + 1) P' ow' nv ns ga sa gz sz ∧ a' = tu1 sd (.slice (some ⟨sb, so, none⟩) os.length cap) tv gb gc ga gz nv i f) ?_ ?_
   ·have finM : ∀ (a' : Act) (w' : World) (O' : Nat → Nat → Prop) (ps' : List (Nat × St)) (P' : Int × Int → Int × Int) (ow' : Int → Int) (nv : Value) (ns : List (List It × Value)) (sa sz : St), ns.length = i + 1 → TAt K od w.heap.size w (.slice (some ⟨gb, 0, none⟩) 4 gc) w' O' ps' (i + 1) P' ow' nv ns ga sa gz sz → a' = tu1 sd (.slice (some ⟨sb, so, none⟩) os.length cap) tv gb gc ga gz nv i (fun j => a'.tmps.getD j undef) → ∃ (O' : Nat → Nat → Prop) (ps' : List (Nat × St)) (P' : Int × Int → Int × Int) (ow' : Int → Int) (nv : Value) (ns : List (List It × Value)) (sa sz : St) (f : Nat → Value), ns.length = i + 1 ∧ TAt K od w.heap.size w (.slice (some ⟨gb, 0, none⟩) 4 gc) w' O' ps' (i + 1) P' ow' nv ns ga sa gz sz ∧ a' = tu1 sd (.slice (some ⟨sb, so, none⟩) os.length cap) tv gb gc ga gz nv i f := fun a' w' O' ps' P' ow' nv ns sa sz q1 q2 q3 => ⟨O', ps', P', ow', nv, ns, sa, sz, _, q1, q2, q3⟩
    refine wp_block ?_
    refine wp_seq ?_
    refine Ks.reg ?_
    refine Ks.v (.slice (some ⟨sb, so, none⟩) os.length cap) ?_
    simp only [zD]
    refine Ks.v (.int .i64 (i : Int)) ?_
    simp only [zD]
    refine Ks.q5t (by kernel_rfl) _ _ _ rfl 81 4 Tryz.underlying56 (by kernel_rfl) (by kernel_rfl) sb so os.length cap i rfl rfl hlt ?_
    simp only [zD]
    refine Ks.mid rfl _ _ rfl sb (so + i * 4) rfl (s4C o) hr Tryz.underlying81 rfl (by kernel_rfl) ?_
    simp only [zD]
    refine Ks.alloc rfl _ rfl (.agg #[.int .i64 0, .int .i64 0, .int .i64 0, .int .i64 0]) (by kernel_rfl) #[.int .i64 0, .int .i64 0, .int .i64 0, .int .i64 0] rfl ?_
    intro w1 bo Hbo HX1 HB1 HS1
    simp only [zD]
    refine Ks.whole rfl _ _ _ rfl bo (s4C o).toArray rfl rfl HX1.out (by kernel_rfl) rfl (by kernel_rfl) ?_
    intro w2 HR2 HF2 HO2 HS2
    have hb12 : Below w'.heap.size w' w2 := HB1.out.trans ((HF2.out (fun _ => False) w'.heap.size (Or.inr (Nat.le_of_eq Hbo.out.symm))).below (Nat.le_refl _) fun _ _ h => h)
    have hlo : w'.heap.size ≤ bo := Nat.le_of_eq Hbo.out.symm
    clear HX1 HB1 HS1 HF2 HO2 HS2 Hbo hr hsb hfree
    simp only [Act.put]
    refine Ks.done ?_
    refine wp_seq ?_
    refine Ks.reg ?_
    refine Ks.v (.pointer (some ⟨bo, 1, none⟩)) ?_
    simp only [zD]
    refine Ks.cell rfl _ _ rfl Tryz.underlying3 rfl bo 1 (.int .i64 o.what) rfl (z0c HR2.out 1 rfl) ?_
    simp only [zD]
    refine Ks.call rfl 30 #[.int .i64 o.what, .int .i64 (5 : Nat)] (by kernel_rfl) (y1e o.what hoI.what 5 (by decide) (by decide) w2) ?_
    rintro _ w2 ⟨rfl, rfl⟩
    have hx := y4l o.what (n := 5) (by decide)
    generalize pk o.what 5 = x at hx
    simp only [zD]
    refine Ks.v (.pointer (some ⟨bo, 1, none⟩)) ?_
    simp only [zD]
    refine Ks.store rfl _ _ _ rfl bo 1 (.int .i64 (x : Int)) rfl rfl HR2.out (show 1 < 4 by decide) (by kernel_rfl) rfl (s4C ⟨o.gate, (x : Int), o.ticket, o.most⟩).toArray rfl ?_
    intro w3 HR3 HF3 HO3 HS3
    have hb13 : Below w'.heap.size w' w3 := hb12.trans ((HF3.out (fun _ => False) w'.heap.size (Or.inr hlo)).below (Nat.le_refl _) fun _ _ h => h)
    have hA3 := hA.below hb13
    obtain ⟨o', ho'⟩ : ∃ o' : S4, o' = ⟨o.gate, (x : Int), o.ticket, o.most⟩ := ⟨_, rfl⟩
    have ho1 : o'.gate = o.gate := by rw [ho']
    have ho2 : o'.what = (x : Int) := by rw [ho']
    have ho4 : o'.most = o.most := by rw [ho']
    have ho'I : o'.In := by rw [ho']; exact ⟨hoI.gate, ⟨by show -9223372036854775808 ≤ (x : Int); omega, by show (x : Int) < 9223372036854775808; omega⟩, hoI.ticket, hoI.most⟩
    rw [← ho'] at HR3
    have hlo3 : w.heap.size ≤ bo := Nat.le_trans hA.town.tin.wN hlo
    have hfo : z9b O bo := fun j hj => by have := (hA.town.tin.lt bo j hj).2; omega
    clear hb12 hb13 HF3 HO3 HS3 HR2 hA ho' hlo
    simp only [Act.put]
    refine Ks.done ?_
    refine wp_seq ?_
    refine Ks.reg ?_
    refine Ks.v (.slice none 0 0) ?_
    simp only [zD]
    refine Ks.done ?_
    refine wp_seq ?_
    refine Ks.reg ?_
    refine Ks.v (.slice none 0 0) ?_
    simp only [zD]
    refine Ks.row rfl _ _ rfl bo rfl HR3.out Tryz.underlying81 rfl (by kernel_rfl) ?_
    simp only [zD]
    refine Ks.push rfl rfl 56 81 _ _ _ rfl rfl (.agg (s4C o').toArray) (.agg #[.int .i64 0, .int .i64 0, .int .i64 0, .int .i64 0]) rfl (s4C o').toArray 4 32 Tryz.underlying56 k6n (by decide) (by decide) (by kernel_rfl) rfl (by decide) (fun _ => False) (.slice none 0 0) 0 [] (fun _ => rfl) (fun _ => rfl) (Row.nil _ _ _ _) rfl (by simp [s4C, Value.oneCell']) (by omega) ?_
    intro u one w4 hone hf4
    have hb4 : Below w3.heap.size w3 w4 := hf4.below (Nat.le_refl _) fun k _ e => by cases e
    have hA4 := hA3.below hb4
    have HR4 : Hid (w4.heap[bo]? = some (.cells (s4C o').toArray 81 (0, 0))) := (hb4.block bo (aL HR3.out)).trans HR3.out
    have hw3N := hA3.town.tin.wN
    obtain ⟨p1, c1, rfl, hc1⟩ := Row.form hone
    obtain ⟨gs, curs, rfl, hgs, hts⟩ := hc1 0 (by decide)
    have hgs3 : w3.heap.size ≤ gs := by
     have := hone.2 gs rfl
     rcases this with h | h
     ·exact h.elim
     ·exact h
    have hSc : q6z O w4 (some ⟨gs, 0, none⟩) [o'] := by
     refine ⟨Or.inr ⟨gs, 0, rfl, (aL hgs), fun j hj => by have := (hA3.town.tin.lt gs j hj).2; omega, fun j q hq => ?_⟩, fun q hq => ?_⟩
     ·have hj0 : j = 0 := by
       have := (lL hq)
       simp at this
       omega
      subst hj0
      obtain rfl : o' = q := by simpa using hq
      rw [Nat.zero_add]
      exact Row.range (f := s4C) (m := 4) (n := 1) (l := [o']) (fun _ => rfl) hgs (by simpa using hts) rfl
     ·obtain rfl : q = o' := by simpa using hq
      exact ho'I
    clear hone hf4 hc1 hgs hts HR3 hA3 hb4
    simp only [zD]
    refine Ks.v (.slice (some ⟨gs, 0, none⟩) (0 + 1) c1) ?_
    simp only [zD]
    refine Ks.done ?_
    refine wp_seq ?_
    refine Ks.reg ?_
    refine Ks.v (.slice (some ⟨gb, 0, none⟩) 4 gc) ?_
    simp only [zD]
    refine Ks.v (str sd) ?_
    simp only [zD]
    refine Ks.v (.slice (some ⟨gs, 0, none⟩) (0 + 1) c1) ?_
    simp only [zD]
    refine Ks.call rfl 25 #[.slice (some ⟨gb, 0, none⟩) 4 gc, str sd, .slice (some ⟨gs, 0, none⟩) [o'].length c1] (by kernel_rfl) (hPlay x3d hA4.town (some ⟨gs, 0, none⟩) c1 [o'] hSc (fun q hq e => by
     obtain rfl : q = o' := by simpa using hq
     rw [ho2, x8j (by omega)] at e
     omega) (by omega) (show 1 ≤ 1000000000000 by decide)) ?_
    rintro _ w5 ⟨rfl, n1, O5, ps5, P5, ow5, _, hn1, hOn⟩
    have hA5 := (hA4.goes hOn).more (m' := i + 1) (by
     have : [o'].length = 1 := rfl
     omega)
    have hbol := (aL HR4.out)
    obtain ⟨hfo5, hbo5⟩ := hOn.kept.free bo hbol hfo
    have HR5 : Hid (w5.heap[bo]? = some (.cells (s4C o').toArray 81 (0, 0))) := hbo5.trans HR4.out
    clear hOn hA4 HR4 hbo5 hfo hSc hbol
    simp only [zD]
    refine Ks.v (.bool true) ?_
    simp only [zD]
    refine Ks.done ?_
    have hgi := y4l o.gate (n := 4) (by decide)
    have hPk := y7b o.gate hoI.gate 4 (by decide) (by decide)
    generalize pk o.gate 4 = gi at hgi hPk
    have hPm := y7b o.most hoI.most 6 (by decide) (by decide)
    have hmo := y4l o.most (n := 6) (by decide)
    generalize pk o.most 6 = mo at hPm hmo
    have hp5 : 6 = ps5.length := hA5.town.len.symm
    obtain ⟨p, hp⟩ : ∃ p, ps5[gi]? = some p := ⟨_, List.getElem?_eq_getElem (by omega)⟩
    obtain ⟨hgl, z3s⟩ := hA5.town.cell
    obtain ⟨hPp, hGp, _⟩ := hA5.town.at_ hp
    obtain ⟨hPa, hGa, _⟩ := hA5.town.at_ hA5.a
    have hfp : p.2.floor = 0 := by
     rcases hGp.floor with e | ⟨e, _⟩
     ·exact e
     ·exact e.elim
    have hfa : sa.floor = 0 := by
     rcases hGa.floor with e | ⟨e, _⟩
     ·exact e
     ·exact e.elim
    have hnews := hGp.town.news sa (1 + mo)
    have hnl2 : (z1m p.2 sa (1 + mo)).length ≤ 16000 := Nat.le_trans (z8x p.2 sa (1 + mo)).length_le hGp.town.inv.few
    rw [hfp] at hnews
    obtain ⟨n, hn⟩ : ∃ n, n = z1m p.2 sa (1 + mo) := ⟨_, rfl⟩
    rw [← hn] at hnews hnl2
    have hbo5 := (aL HR5.out)
    have hc0 : w5.cell? ⟨bo, 0, none⟩ = some (.int .i64 o.gate) := by rw [← ho1]; exact z0c HR5.out 0 rfl
    have hc3 : w5.cell? ⟨bo, 3, none⟩ = some (.int .i64 o.most) := by rw [← ho4]; exact z0c HR5.out 3 rfl
    refine wp_seq ?_
    refine Qt.k2c 17 15 (.int .i64 0) (Qt.rl [Qt.pu (.slice (some ⟨gb, 0, none⟩) 4 gc), Qt.pu (.pointer (some ⟨bo, 0, none⟩)), Qt.pu (.int .i64 o.gate), Qt.pu (.int .i64 (gi : Int)), Qt.pu (.pointer (some ⟨gb, gi * 1, none⟩)), Qt.pu (.pointer (some ⟨p.1, 0, none⟩)), Qt.pu (.pointer (some ⟨ga, 0, none⟩)), k2q w5.heap.size sa, Qt.pu (.pointer (some ⟨bo, 3, none⟩)), Qt.pu (.int .i64 o.most), Qt.pu (.int .i64 (mo : Int)), Qt.pu (.int .i64 ((1 + mo : Nat) : Int)), x5f w5.heap.size n (fun hv => .tuple #[.agg #[str [], hv], .int .i64 0]), x5f w5.heap.size n (fun hv => .tuple #[.agg #[str [], hv], .int .i64 0]), x5f w5.heap.size n (fun hv => .agg #[str [], hv]), Qt.pu (.int .i64 0), k2p w5.heap.size]) (by kernel_rfl) (by kernel_rfl) rfl _ rfl _ _ rfl (fun _ _ _ h => h) (Qt.q4c ?_) ?_
    ·intro r hr
     simp only [List.mem_cons, List.not_mem_nil, or_false] at hr
     rcases hr with rfl | rfl | rfl | rfl | rfl | rfl | rfl | rfl | rfl | rfl | rfl | rfl | rfl | rfl | rfl | rfl | rfl
     all_goals first | exact Qt.q3w _ | exact k2q.y6q _ _ | exact x5f.y6q _ _ _ | exact k2p.y6q _
    simp only [List.take_succ_cons, List.take_zero]
    refine Qt.q0h _ rfl (fun w' _ _ => Qt.z4s (by kernel_rfl)) ?_
    simp only [zD]
    refine Qt.q0h _ rfl (fun w' _ _ => Qt.z4s (by kernel_rfl)) ?_
    simp only [zD]
    refine Qt.x8x _ _ rfl Tryz.underlying3 rfl bo 0 (.int .i64 o.gate) rfl hbo5 hc0 rfl ?_
    simp only [zD]
    refine Qt.q0h _ rfl (fun w' _ _ => Qt.y7v 30 #[.int .i64 o.gate, .int .i64 (4 : Nat)] (by kernel_rfl) ((hPk w').mono fun e w'' hx => ⟨hx.1, by rw [hx.2]; exact Below.refl _ _⟩)) ?_
    simp only [zD]
    refine Qt.j0a _ _ _ rfl 62 1 Tryz.underlying57 (by kernel_rfl) (by kernel_rfl) gb 4 gc gi rfl rfl hgi rfl ?_
    simp only [zD]
    refine Qt.x8x _ _ rfl Tryz.underlying62 rfl gb (gi * 1) (.pointer (some ⟨p.1, 0, none⟩)) rfl hgl (z3s gi p hgi hp) rfl ?_
    simp only [zD]
    refine Qt.q0h _ rfl (fun w' _ _ => Qt.z4s (by kernel_rfl)) ?_
    simp only [zD]
    refine Qt.x8w (fun w' hw' _ => Qt.y3b 36 #[.pointer (some ⟨ga, 0, none⟩)] (by kernel_rfl) ((y6k (hPa.below hw') hGa.town.inv).mono fun e w'' hx => ?_)) ?_
    ·obtain ⟨u, he, ⟨sv, l, h1, h2, h3⟩, hb⟩ := hx
     exact ⟨u, he, ⟨sv, l, h1, h2, h3.mono fun k hk => Nat.le_trans hw'.size hk⟩, hb⟩
    intro u7
    simp only [zD]
    refine Qt.q0h _ rfl (fun w' _ _ => Qt.z4s (by kernel_rfl)) ?_
    simp only [zD]
    refine Qt.x8x _ _ rfl Tryz.underlying3 rfl bo 3 (.int .i64 o.most) rfl hbo5 hc3 rfl ?_
    simp only [zD]
    refine Qt.q0h _ rfl (fun w' _ _ => Qt.y7v 30 #[.int .i64 o.most, .int .i64 (6 : Nat)] (by kernel_rfl) ((hPm w').mono fun e w'' hx => ⟨hx.1, by rw [hx.2]; exact Below.refl _ _⟩)) ?_
    simp only [zD]
    refine Qt.q0h _ rfl (fun w' _ _ => Qt.z4s (by simp [execOp, go_sem]; exact IntWalk.i64_in _ ⟨by omega, by omega⟩)) ?_
    simp only [zD]
    refine Qt.x8w (fun w' hw' hF => ?_) ?_
    ·have h7 : k2q w5.heap.size sa u7 w' := (hF 7 (by kernel_rfl)).2 rfl
     obtain ⟨sv, l, rfl, h2, h3⟩ := h7
     refine Qt.y3b 28 #[.pointer (some ⟨p.1, 0, none⟩), .agg #[.int .i64 sa.floor, sv], .int .i64 ((1 + mo : Nat) : Int)] (by kernel_rfl) ((k6w (hPp.below hw') hGp.town.inv hGa.town.inv hfp hfa h2 h3 (1 + mo)).mono fun e w'' hx => ?_)
     obtain ⟨u, he, ⟨hv, h4, h5⟩, hb⟩ := hx
     rw [← hn] at h5
     exact ⟨u, he, ⟨hv, h4, h5.mono fun k hk => Nat.le_trans hw'.size hk⟩, hb⟩
    intro u12
    simp only [zD]
    refine Qt.x8w (fun w' hw' hF => ?_) ?_
    ·have h12 : x5f w5.heap.size n (fun hv => .tuple #[.agg #[str [], hv], .int .i64 0]) u12 w' := (hF 12 (by kernel_rfl)).2 rfl
     exact Qt.x2w u12 (by kernel_rfl) h12
    intro u13
    simp only [zD]
    refine Qt.x8w (fun w' hw' hF => ?_) ?_
    ·have h13 : x5f w5.heap.size n (fun hv => .tuple #[.agg #[str [], hv], .int .i64 0]) u13 w' := (hF 13 (by kernel_rfl)).2 rfl
     obtain ⟨hv, rfl, h2⟩ := h13
     exact Qt.x2w (.agg #[str [], hv]) (by kernel_rfl) ⟨hv, rfl, h2⟩
    intro u14
    simp only [zD]
    refine Qt.q0h (.int .i64 0) rfl (fun w' hw' hF => ?_) ?_
    ·have h13 : x5f w5.heap.size n (fun hv => .tuple #[.agg #[str [], hv], .int .i64 0]) u13 w' := (hF 13 (by kernel_rfl)).1.2 rfl
     obtain ⟨hv, rfl, h2⟩ := h13
     exact Qt.z4s (by kernel_rfl)
    simp only [zD]
    refine Qt.x8w (fun w' hw' hF => Gw.y7j 66 rfl #[.string ⟨#[]⟩, .slice none 0 0] (by kernel_rfl) ⟨w'.heap.size, rfl, hw'.size, heap_alloc_new _ _⟩) ?_
    intro u16
    simp only [zD]
    refine Qt.j0b ?_
    intro w6 hb6 hF
    have h14 : x5f w5.heap.size n (fun hv => .agg #[str [], hv]) u14 w6 := (hF 14).1.2 rfl
    have h16 : k2p w5.heap.size u16 w6 := (hF 16).2 rfl
    have h12 : x5f w5.heap.size n (fun hv => .tuple #[.agg #[str [], hv], .int .i64 0]) u12 w6 := (hF 12).1.1.1.2 rfl
    clear hF
    obtain ⟨hv, rfl, hrow⟩ := h14
    obtain ⟨bn, rfl, hbn, hbn6⟩ := h16
    have hcells : hv.oneCell' = true := Row.one hrow
    simp only [List.drop_succ_cons, List.drop_zero]
    refine Ks.whole rfl _ _ _ rfl bn #[str [], hv] rfl rfl hbn6 (by kernel_rfl) rfl (by
     simp [Value.oneCell'] at hcells ⊢
     exact ⟨rfl, hcells⟩) ?_
    intro w7 HR7 HF7 HO7 HS7
    have hb67 : Below w5.heap.size w5 w7 := Below.trans hb6 ((HF7.out (fun _ => False) w5.heap.size (Or.inr hbn)).below (Nat.le_refl _) fun _ _ h => h)
    have hA7 := hA5.below hb67
    have hrow7 : Row (fun b => w.heap.size ≤ b ∧ z9b O5 b) w7 73 5 hv n.length (itL n) := (hrow.congr fun b hb => HO7.out b fun e => by
     subst e
     exact z2e hrow hbn6 (by decide) hb).mono fun b hb => ⟨Nat.le_trans hA5.town.tin.wN hb, fun j hj => by have := (hA5.town.tin.lt b j hj).2; omega⟩
    have HO7' : Hid (w7.heap[bo]? = some (.cells (s4C o').toArray 81 (0, 0))) := (hb67.block bo hbo5).trans HR5.out
    have hnvb : nv.ownBlock ≠ some bn := fun e => by
     have := hA5.at_.row.lt bn e
     omega
    clear hrow hbn6 HF7 HO7 HS7 hb67 hb6 hc0 hc3 hPp hGp hPa hGa z3s hgl HR5 hA5 hbn
    simp only [Act.put]
    refine Ks.v (.int .i64 0) ?_
    simp only [zD]
    refine Ks.done ?_
    refine wp_seq ?_
    refine wp_seq ?_
    refine Ks.reg ?_
    refine Ks.v (.bool true) ?_
    simp only [zD]
    refine Ks.v (.bool false) ?_
    simp only [zD]
    refine Ks.v (.bool false) ?_
    simp only [zD]
    refine Ks.g (.int .i64 0) ?_
    simp only [zD]
    refine Ks.g (.bool false) ?_
    simp only [zD]
    refine Ks.v (.bool false) ?_
    simp only [zD]
    refine Ks.done ?_
    refine wp_cond_false rfl ?_
    refine wp_skip ?_
    refine Ks.norm ?_
    refine wp_seq ?_
    refine Ks.reg ?_
    refine Ks.v (nv) ?_
    simp only [zD]
    refine Ks.row rfl _ _ rfl bn rfl HR7.out Tryz.underlying66 rfl (by kernel_rfl) ?_
    simp only [zD]
    refine Ks.push rfl rfl 90 66 _ _ _ rfl rfl (.agg #[str [], hv]) (.agg #[.string ⟨#[]⟩, .slice none 0 0]) rfl #[str [], hv] 2 40 Tryz.underlying90 k5s (by decide) (by decide) (by kernel_rfl) rfl (by decide) _ nv ns.length (nwC ns) (fun _ => rfl) (fun _ => rfl) hA7.at_.row rfl (by
     simp [Value.oneCell'] at hcells ⊢
     exact ⟨rfl, hcells⟩) (by omega) ?_
    intro u nv' w8 hr8 hf8
    have hA8 := hA7.push hnews hnl2 hrow7 hr8 hf8
    have HR8 : Hid (w8.heap[bn]? = some (.cells #[str [], hv] 66 (0, 0))) := (hf8.block bn (aL HR7.out) hnvb).trans HR7.out
    have HO8 : Hid (w8.heap[bo]? = some (.cells (s4C o').toArray 81 (0, 0))) := (hf8.block bo (aL HO7'.out) fun e => by
     obtain ⟨cur, hc⟩ := Row.blk hA7.at_.row e
     rw [HO7'.out] at hc
     injection hc with hc
     injection hc with _ hc _
     exact absurd hc (by decide)).trans HO7'.out
    have hnl8 : (ns ++ [(n, hv)]).length = i + 1 := by rw [List.length_append, hnl]; rfl
    have hmem8 : (n, hv) ∈ ns ++ [(n, hv)] := by simp
    clear hA7 HR7 HO7' hr8 hf8 hrow7 hnews hnl2 hn hnvb
    generalize ns ++ [(n, hv)] = ns8 at *
    simp only [zD]
    refine Ks.v (nv') ?_
    simp only [zD]
    refine Ks.done ?_
    refine wp_seq ?_
    refine Ks.reg ?_
    refine Ks.v (.pointer (some ⟨bo, 3, none⟩)) ?_
    simp only [zD]
    refine Ks.cell rfl _ _ rfl Tryz.underlying3 rfl bo 3 (.int .i64 o'.most) rfl (z0c HO8.out 3 rfl) ?_
    simp only [zD]
    refine Ks.call rfl 30 #[.int .i64 o'.most, .int .i64 (3 : Nat)] (by kernel_rfl) (y1e o'.most ho'I.most 3 (by decide) (by decide) w8) ?_
    rintro _ w8 ⟨rfl, rfl⟩
    generalize pk o'.most 3 = c
    simp only [zD]
    refine Ks.v (.bool (decide ((c : Int) = 0))) ?_
    simp only [zD]
    refine Ks.done ?_
    refine wp_cond_split rfl ?_ ?_
    ·intro _
     refine wp_seq ?_
     refine Ks.reg ?_
     refine Ks.v (.pointer (some ⟨ga, 0, none⟩)) ?_
     simp only [zD]
     refine Ks.row rfl _ _ rfl bn rfl HR8.out Tryz.underlying66 rfl (by kernel_rfl) ?_
     simp only [zD]
     have hh := hA8.a_k hmem8
     simp only at hh
     refine Ks.call rfl 37 #[.pointer (some ⟨ga, 0, none⟩), .agg #[str [], hv]] (by kernel_rfl) hh ?_
     rintro _ w9 ⟨rfl, O9, ps9, sa9, hA9, hK9, hk9⟩
     simp only [zD]
     refine Ks.v (.int .i64 0) ?_
     simp only [zD]
     refine Ks.done ?_
     refine wp_seq ?_
     refine Ks.reg ?_
     refine Ks.v (.int .i64 0) ?_
     simp only [zD]
     refine Ks.v (.bool false) ?_
     simp only [zD]
     refine Ks.done ?_
     refine wp_cond_false rfl ?_
     refine wp_skip ?_
     exact finM _ w9 O9 ps9 P5 ow5 nv' ns8 sa9 sz hnl8 hA9 rfl
    ·intro _
     refine wp_skip ?_
     exact finM _ w8 O5 ps5 P5 ow5 nv' ns8 sa sz hnl8 hA8 rfl
   ·rintro a' w9 ⟨O9, ps9, P9, ow9, nv9, ns9, sa9, sz9, f9, hnl9, hA9, rfl⟩
    unfold tu1
    refine Ks.reg ?_
    refine Ks.v (.int .i64 (i : Int)) ?_
    simp only [zD]
    refine Ks.val rfl (.int .i64 ((i + 1 : Nat) : Int)) (by
     simp [execOp, go_sem]
     exact IntWalk.i64_in _ ⟨by omega, by omega⟩) ?_
    simp only [zD]
    refine Ks.v (.int .i64 ((i + 1 : Nat) : Int)) ?_
    simp only [zD]
    refine Ks.done ?_
    exact fin _ w9 (i + 1) O9 ps9 P9 ow9 nv9 ns9 sa9 sz9 (by omega) (by omega) hlt hnl9 hA9 rfl
 rintro a' w3 ⟨m, O, ps, P, ow, nv, ns, sa, sz, f3, hnl, hA3, rfl⟩
 clear hA5 hPlay hS
 obtain ⟨pn, cn, rfl, hcn⟩ := Row.form hA3.at_.row
 generalize Value.slice a0 os.length cap = sv
 refine Ks.cut (fun a' w' => ∃ (O' : Nat → Nat → Prop) (ps' : List (Nat × St)) (sa sz : St) (f : Nat → Value), TAt K od w.heap.size w (.slice (some ⟨gb, 0, none⟩) 4 gc) w' O' ps' m P ow (.slice pn ns.length cn) ns ga sa gz sz ∧ (∀ p ∈ ns, ∀ x ∈ p.1.map It.key, x ∈ sa.keys) ∧ (∀ p ∈ ns, ∀ x ∈ p.1.map It.key, x ∈ sz.keys) ∧ a' = tu0 sd sv tv gb gc ga gz (.slice pn ns.length cn) f) ?_ ?_
 ·unfold tu0
  refine wp_seq ?_
  refine Ks.reg ?_
  refine Ks.v (.int .i64 0) ?_
  simp only [zD]
  refine Ks.done ?_
  refine wp_block ?_
  have start : ∀ a' : Act, a' = tu2 sd sv tv gb gc ga gz (.slice pn ns.length cn) 0 (fun j => a'.tmps.getD j undef) → ∃ (i : Nat) (O' : Nat → Nat → Prop) (ps' : List (Nat × St)) (sa sz : St) (f : Nat → Value), i ≤ ns.length ∧ ns.length = ns.length - i ∧ TAt K od w.heap.size w (.slice (some ⟨gb, 0, none⟩) 4 gc) w3 O' ps' m P ow (.slice pn ns.length cn) ns ga sa gz sz ∧ (∀ (j : Nat) p, j < i → ns[j]? = some p → ∀ x ∈ p.1.map It.key, x ∈ sa.keys) ∧ (∀ (j : Nat) p, j < i → ns[ns.length - 1 - j]? = some p → ∀ x ∈ p.1.map It.key, x ∈ sz.keys) ∧ a' = tu2 sd sv tv gb gc ga gz (.slice pn ns.length cn) i f := fun a' e => ⟨0, O, ps, sa, sz, _, by omega, rfl, hA3, fun j p hj => absurd hj (Nat.not_lt_zero _), fun j p hj => absurd hj (Nat.not_lt_zero _), e⟩
  refine Ks.loop (fun q a wr => ∃ (i : Nat) (O' : Nat → Nat → Prop) (ps' : List (Nat × St)) (sa sz : St) (f : Nat → Value), i ≤ ns.length ∧ q = ns.length - i ∧ TAt K od w.heap.size w (.slice (some ⟨gb, 0, none⟩) 4 gc) wr O' ps' m P ow (.slice pn ns.length cn) ns ga sa gz sz ∧ (∀ (j : Nat) p, j < i → ns[j]? = some p → ∀ x ∈ p.1.map It.key, x ∈ sa.keys) ∧ (∀ (j : Nat) p, j < i → ns[ns.length - 1 - j]? = some p → ∀ x ∈ p.1.map It.key, x ∈ sz.keys) ∧ a = tu2 sd sv tv gb gc ga gz (.slice pn ns.length cn) i f) ns.length (start _ rfl) ?_
  clear start hA3
  rintro q a w4 ⟨i, O4, ps4, sa4, sz4, f4, hi, rfl, hA4, ha4, hz4, rfl⟩
  have fin : ∀ (a' : Act) (w' : World) (i' : Nat) (O' : Nat → Nat → Prop) (ps' : List (Nat × St)) (sa sz : St), i < i' → i' ≤ ns.length → TAt K od w.heap.size w (.slice (some ⟨gb, 0, none⟩) 4 gc) w' O' ps' m P ow (.slice pn ns.length cn) ns ga sa gz sz → (∀ (j : Nat) p, j < i' → ns[j]? = some p → ∀ x ∈ p.1.map It.key, x ∈ sa.keys) → (∀ (j : Nat) p, j < i' → ns[ns.length - 1 - j]? = some p → ∀ x ∈ p.1.map It.key, x ∈ sz.keys) → a' = tu2 sd sv tv gb gc ga gz (.slice pn ns.length cn) i' (fun j => a'.tmps.getD j undef) → ∃ q, q < ns.length - i ∧ ∃ (i : Nat) (O' : Nat → Nat → Prop) (ps' : List (Nat × St)) (sa sz : St) (f : Nat → Value), i ≤ ns.length ∧ q = ns.length - i ∧ TAt K od w.heap.size w (.slice (some ⟨gb, 0, none⟩) 4 gc) w' O' ps' m P ow (.slice pn ns.length cn) ns ga sa gz sz ∧ (∀ (j : Nat) p, j < i → ns[j]? = some p → ∀ x ∈ p.1.map It.key, x ∈ sa.keys) ∧ (∀ (j : Nat) p, j < i → ns[ns.length - 1 - j]? = some p → ∀ x ∈ p.1.map It.key, x ∈ sz.keys) ∧ a' = tu2 sd sv tv gb gc ga gz (.slice pn ns.length cn) i f := fun a' w' i' O' ps' sa sz q1 q2 q3 q4 q5 q6 => ⟨ns.length - i', by omega, i', O', ps', sa, sz, _, q2, rfl, q3, q4, q5, q6⟩
  unfold tu2
  refine wp_seq ?_
  refine wp_seq ?_
  refine Ks.reg ?_
  refine Ks.v (.int .i64 (i : Int)) ?_
  simp only [zD]
  refine Ks.v (.slice pn ns.length cn) ?_
  simp only [zD]
  refine Ks.v (.int .i64 (ns.length : Int)) ?_
  simp only [zD]
  refine Ks.v (.bool (decide ((i : Int) < (ns.length : Int)))) ?_
  simp only [zD]
  refine Ks.done ?_
  refine wp_cond_split rfl ?_ ?_
  ·intro hlt
   have hlt : i < ns.length := by have := of_decide_eq_true hlt; omega
   obtain ⟨gn, curn, rfl, _, _⟩ := hcn i hlt
   obtain ⟨p1, hp1⟩ : ∃ p, ns[i]? = some p := ⟨_, List.getElem?_eq_getElem hlt⟩
   refine wp_skip ?_
   refine Ks.norm ?_
   refine Ks.cut (fun a' w' => ∃ (O' : Nat → Nat → Prop) (ps' : List (Nat × St)) (sa sz : St) (f : Nat → Value), TAt K od w.heap.size w (.slice (some ⟨gb, 0, none⟩) 4 gc) w' O' ps' m P ow (.slice (some ⟨gn, 0, none⟩) ns.length cn) ns ga sa gz sz ∧ (∀ (j : Nat) p, j < i + 1 → ns[j]? = some p → ∀ x ∈ p.1.map It.key, x ∈ sa.keys) ∧ (∀ (j : Nat) p, j < i + 1 → ns[ns.length - 1 - j]? = some p → ∀ x ∈ p.1.map It.key, x ∈ sz.keys) ∧ a' = tu2 sd sv tv gb gc ga gz (.slice (some ⟨gn, 0, none⟩) ns.length cn) i f) ?_ ?_
   ·have finM : ∀ (a' : Act) (w' : World) (O' : Nat → Nat → Prop) (ps' : List (Nat × St)) (sa sz : St), TAt K od w.heap.size w (.slice (some ⟨gb, 0, none⟩) 4 gc) w' O' ps' m P ow (.slice (some ⟨gn, 0, none⟩) ns.length cn) ns ga sa gz sz → (∀ (j : Nat) p, j < i + 1 → ns[j]? = some p → ∀ x ∈ p.1.map It.key, x ∈ sa.keys) → (∀ (j : Nat) p, j < i + 1 → ns[ns.length - 1 - j]? = some p → ∀ x ∈ p.1.map It.key, x ∈ sz.keys) → a' = tu2 sd sv tv gb gc ga gz (.slice (some ⟨gn, 0, none⟩) ns.length cn) i (fun j => a'.tmps.getD j undef) → ∃ (O' : Nat → Nat → Prop) (ps' : List (Nat × St)) (sa sz : St) (f : Nat → Value), TAt K od w.heap.size w (.slice (some ⟨gb, 0, none⟩) 4 gc) w' O' ps' m P ow (.slice (some ⟨gn, 0, none⟩) ns.length cn) ns ga sa gz sz ∧ (∀ (j : Nat) p, j < i + 1 → ns[j]? = some p → ∀ x ∈ p.1.map It.key, x ∈ sa.keys) ∧ (∀ (j : Nat) p, j < i + 1 → ns[ns.length - 1 - j]? = some p → ∀ x ∈ p.1.map It.key, x ∈ sz.keys) ∧ a' = tu2 sd sv tv gb gc ga gz (.slice (some ⟨gn, 0, none⟩) ns.length cn) i f := fun a' w' O' ps' sa sz q1 q2 q3 q4 => ⟨O', ps', sa, sz, _, q1, q2, q3, q4⟩
    refine wp_block ?_
    refine wp_seq ?_
    refine Ks.reg ?_
    refine Ks.v (.pointer (some ⟨ga, 0, none⟩)) ?_
    simp only [zD]
    refine Ks.v (.slice (some ⟨gn, 0, none⟩) ns.length cn) ?_
    simp only [zD]
    refine Ks.v (.int .i64 (i : Int)) ?_
    simp only [zD]
    refine Ks.idx (by kernel_rfl) _ _ _ rfl 66 2 Tryz.underlying90 (by kernel_rfl) (by kernel_rfl) gn ns.length cn i rfl rfl hlt ?_
    simp only [zD]
    refine Ks.mid rfl _ _ rfl gn (i * 2) rfl [str [], p1.2] (hA4.cell hp1) Tryz.underlying66 rfl (by kernel_rfl) ?_
    simp only [zD]
    refine Ks.call rfl 37 #[.pointer (some ⟨ga, 0, none⟩), .agg #[str [], p1.2]] (by kernel_rfl) (hA4.a_k (List.mem_of_getElem? hp1)) ?_
    rintro _ w5 ⟨rfl, O5, ps5, sa5, hA5, _, hk5⟩
    clear hA4
    simp only [zD]
    refine Ks.v (.int .i64 0) ?_
    simp only [zD]
    refine Ks.done ?_
    have hpt := y4l tv (n := ns.length) (by omega)
    refine wp_seq ?_
    refine Ks.reg ?_
    refine Ks.v (.int .i64 (i : Int)) ?_
    simp only [zD]
    refine Ks.val rfl (.int .i64 ((i * 7 : Nat) : Int)) (by
     simp [execOp, go_sem]
     exact IntWalk.i64_in _ ⟨by omega, by omega⟩) ?_
    simp only [zD]
    refine Ks.v (.int .i64 tv) ?_
    simp only [zD]
    refine Ks.v (.slice (some ⟨gn, 0, none⟩) ns.length cn) ?_
    simp only [zD]
    refine Ks.v (.int .i64 (ns.length : Int)) ?_
    simp only [zD]
    refine Ks.call rfl 30 #[.int .i64 tv, .int .i64 (ns.length : Int)] (by kernel_rfl) (y1e tv htv ns.length (by omega) (by omega) w5) ?_
    rintro _ w5 ⟨rfl, rfl⟩
    generalize pk tv ns.length = pt at hpt
    simp only [zD]
    refine Ks.val rfl (.int .i64 ((i * 7 + pt : Nat) : Int)) (by
     simp [execOp, go_sem]
     exact IntWalk.i64_in _ ⟨by omega, by omega⟩) ?_
    simp only [zD]
    refine Ks.v (.slice (some ⟨gn, 0, none⟩) ns.length cn) ?_
    simp only [zD]
    refine Ks.v (.int .i64 (ns.length : Int)) ?_
    simp only [zD]
    have hns : ns ≠ [] := fun e => by rw [e] at hlt; exact absurd hlt (Nat.not_lt_zero _)
    refine Ks.val rfl (.int .i64 (((i * 7 + pt) % ns.length : Nat) : Int)) (by
     simp [execOp, go_sem]
     rw [if_neg hns, Int.tmod_eq_emod_of_nonneg (by omega)]) ?_
    simp only [zD]
    refine Ks.v (.int .i64 (((i * 7 + pt) % ns.length : Nat) : Int)) ?_
    simp only [zD]
    refine Ks.done ?_
    have hat : (i * 7 + pt) % ns.length < ns.length := Nat.mod_lt _ (by omega)
    generalize (i * 7 + pt) % ns.length = at_ at hat
    obtain ⟨p2, hp2⟩ : ∃ p, ns[at_]? = some p := ⟨_, List.getElem?_eq_getElem hat⟩
    refine wp_seq ?_
    refine Ks.reg ?_
    refine Ks.v (.pointer (some ⟨gz, 0, none⟩)) ?_
    simp only [zD]
    refine Ks.v (.slice (some ⟨gn, 0, none⟩) ns.length cn) ?_
    simp only [zD]
    refine Ks.v (.int .i64 (at_ : Int)) ?_
    simp only [zD]
    refine Ks.idx (by kernel_rfl) _ _ _ rfl 66 2 Tryz.underlying90 (by kernel_rfl) (by kernel_rfl) gn ns.length cn at_ rfl rfl hat ?_
    simp only [zD]
    refine Ks.mid rfl _ _ rfl gn (at_ * 2) rfl [str [], p2.2] (hA5.cell hp2) Tryz.underlying66 rfl (by kernel_rfl) ?_
    simp only [zD]
    refine Ks.call rfl 37 #[.pointer (some ⟨gz, 0, none⟩), .agg #[str [], p2.2]] (by kernel_rfl) (hA5.z_k (List.mem_of_getElem? hp2)) ?_
    rintro _ w6 ⟨rfl, O6, ps6, sz6, hA6, _, hk6⟩
    clear hA5
    simp only [zD]
    refine Ks.v (.int .i64 0) ?_
    simp only [zD]
    refine Ks.done ?_
    obtain ⟨p3, hp3⟩ : ∃ p, ns[ns.length - 1 - i]? = some p := ⟨_, List.getElem?_eq_getElem (by omega)⟩
    refine wp_seq ?_
    refine Ks.reg ?_
    refine Ks.v (.pointer (some ⟨gz, 0, none⟩)) ?_
    simp only [zD]
    refine Ks.v (.slice (some ⟨gn, 0, none⟩) ns.length cn) ?_
    simp only [zD]
    refine Ks.v (.slice (some ⟨gn, 0, none⟩) ns.length cn) ?_
    simp only [zD]
    refine Ks.v (.int .i64 (ns.length : Int)) ?_
    simp only [zD]
    refine Ks.val rfl (.int .i64 ((ns.length - 1 : Nat) : Int)) (by
     rw [show ((ns.length - 1 : Nat) : Int) = (ns.length : Int) - 1 by omega]
     simp [execOp, go_sem]
     exact IntWalk.i64_in _ ⟨by omega, by omega⟩) ?_
    simp only [zD]
    refine Ks.v (.int .i64 (i : Int)) ?_
    simp only [zD]
    refine Ks.val rfl (.int .i64 ((ns.length - 1 - i : Nat) : Int)) (by
     rw [show ((ns.length - 1 - i : Nat) : Int) = ((ns.length - 1 : Nat) : Int) - (i : Int) by omega]
     simp [execOp, go_sem]
     exact IntWalk.i64_in _ ⟨by omega, by omega⟩) ?_
    simp only [zD]
    refine Ks.idx (by kernel_rfl) _ _ _ rfl 66 2 Tryz.underlying90 (by kernel_rfl) (by kernel_rfl) gn ns.length cn (ns.length - 1 - i) rfl rfl (by omega) ?_
    simp only [zD]
    refine Ks.mid rfl _ _ rfl gn ((ns.length - 1 - i) * 2) rfl [str [], p3.2] (hA6.cell hp3) Tryz.underlying66 rfl (by kernel_rfl) ?_
    simp only [zD]
    refine Ks.call rfl 37 #[.pointer (some ⟨gz, 0, none⟩), .agg #[str [], p3.2]] (by kernel_rfl) (hA6.z_k (List.mem_of_getElem? hp3)) ?_
    rintro _ w7 ⟨rfl, O7, ps7, sz7, hA7, _, hk7⟩
    clear hA6
    simp only [zD]
    refine Ks.v (.int .i64 0) ?_
    simp only [zD]
    refine Ks.done ?_
    refine wp_seq ?_
    refine Ks.reg ?_
    refine Ks.v (.int .i64 0) ?_
    simp only [zD]
    refine Ks.v (.bool false) ?_
    simp only [zD]
    refine Ks.v (.bool false) ?_
    simp only [zD]
    refine Ks.g (.int .i64 0) ?_
    simp only [zD]
    refine Ks.g (.bool false) ?_
    simp only [zD]
    refine Ks.v (.bool false) ?_
    simp only [zD]
    refine Ks.v (.bool false) ?_
    simp only [zD]
    refine Ks.g (.int .i64 0) ?_
    simp only [zD]
    refine Ks.g (.bool false) ?_
    simp only [zD]
    refine Ks.v (.bool false) ?_
    simp only [zD]
    refine Ks.done ?_
    refine wp_cond_false rfl ?_
    refine wp_skip ?_
    refine finM _ w7 O7 ps7 sa5 sz7 hA7 ?_ ?_ rfl
    ·intro j p hj hp x hx
     refine (hk5 x).2 ?_
     by_cases e : j = i
     ·subst e
      rw [hp1] at hp
      cases hp
      exact Or.inr hx
     ·exact Or.inl (ha4 j p (by omega) hp x hx)
    ·intro j p hj hp x hx
     refine (hk7 x).2 ?_
     by_cases e : j = i
     ·subst e
      rw [hp3] at hp
      cases hp
      exact Or.inr hx
     ·exact Or.inl ((hk6 x).2 (Or.inl (hz4 j p (by omega) hp x hx)))
   ·rintro a' w5 ⟨O5, ps5, sa5, sz5, f5, hA5, ha5, hz5, rfl⟩
    unfold tu2
    refine Ks.reg ?_
    refine Ks.v (.int .i64 (i : Int)) ?_
    simp only [zD]
    refine Ks.val rfl (.int .i64 ((i + 1 : Nat) : Int)) (by
     simp [execOp, go_sem]
     exact IntWalk.i64_in _ ⟨by omega, by omega⟩) ?_
    simp only [zD]
    refine Ks.v (.int .i64 ((i + 1 : Nat) : Int)) ?_
    simp only [zD]
    refine Ks.done ?_
    exact fin _ w5 (i + 1) O5 ps5 sa5 sz5 (by omega) hlt hA5 ha5 hz5 rfl
  ·intro hlt
   obtain rfl : i = ns.length := by have := of_decide_eq_false hlt; omega
   have finX : ∀ a' : Act, a' = tu0 sd sv tv gb gc ga gz (.slice pn ns.length cn) (fun j => a'.tmps.getD j undef) → ∃ (O' : Nat → Nat → Prop) (ps' : List (Nat × St)) (sa sz : St) (f : Nat → Value), TAt K od w.heap.size w (.slice (some ⟨gb, 0, none⟩) 4 gc) w4 O' ps' m P ow (.slice pn ns.length cn) ns ga sa gz sz ∧ (∀ p ∈ ns, ∀ x ∈ p.1.map It.key, x ∈ sa.keys) ∧ (∀ p ∈ ns, ∀ x ∈ p.1.map It.key, x ∈ sz.keys) ∧ a' = tu0 sd sv tv gb gc ga gz (.slice pn ns.length cn) f := fun a' e => ⟨O4, ps4, sa4, sz4, _, hA4, fun p hp => by
    obtain ⟨j, hj⟩ := List.getElem?_of_mem hp
    exact ha4 j p (lL hj) hj, fun p hp => by
    obtain ⟨j, hj⟩ := List.getElem?_of_mem hp
    have hjl := (lL hj)
    exact hz4 (ns.length - 1 - j) p (by omega) (by rw [show ns.length - 1 - (ns.length - 1 - j) = j by omega]; exact hj), e⟩
   refine wp_exit ?_
   refine Ks.z3r ?_
   exact finX _ rfl
 rintro a' w4 ⟨O4, ps4, sa4, sz4, f4, hA4, ha4, hz4, rfl⟩
 obtain ⟨e1, e2, e3⟩ := hA4.same ha4 hz4
 obtain ⟨hPa, hGa, _⟩ := hA4.town.at_ hA4.a
 obtain ⟨hPz, hGz, _⟩ := hA4.town.at_ hA4.z
 have hB4 := hA4.low
 unfold tu0
 refine wp_seq ?_
 refine Ks.reg ?_
 refine Ks.v (.pointer (some ⟨ga, 0, none⟩)) ?_
 simp only [zD]
 refine Ks.v (.pointer (some ⟨gz, 0, none⟩)) ?_
 simp only [zD]
 refine Ks.call rfl 27 #[.pointer (some ⟨ga, 0, none⟩), .pointer (some ⟨gz, 0, none⟩)] (by kernel_rfl) (q7e hPa hPz hGa.town.inv hGz.town.inv e1 e2 e3) ?_
 rintro _ w5 ⟨rfl, hb5⟩
 simp only [zD]
 refine Ks.v (.bool true) ?_
 simp only [zD]
 refine Ks.done ?_
 refine wp_seq ?_
 refine Ks.reg ?_
 refine Ks.v (.bool true) ?_
 simp only [zD]
 refine Ks.v (.bool true) ?_
 simp only [zD]
 refine Ks.done ?_
 refine wp_ret ?_
 repeat (refine Ks.ret ?_)
 refine bodyPost_ret (v := .bool true) (by simp [results, Tryz.results9]) rfl ?_
 exact ⟨rfl, hB4.trans (hb5.mono hA4.town.tin.wN)⟩
end Tn
end Go.Proofs.YtbojijefenfbgaaGreatDoor

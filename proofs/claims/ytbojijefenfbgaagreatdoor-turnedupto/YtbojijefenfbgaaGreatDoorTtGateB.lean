/- Walks of the program's book: what writes. Walks of the program's book: Add, Raise. Walk of the program's book: Raise. Walks of the program's papers: what a text says. Walks of the program's papers: ReadTicket, ReadOrder, Right. -/
import Derived.Test.YtbojijefenfbgaaGreatDoorTtPartStore
import Derived.Test.YtbojijefenfbgaaGreatDoorTtDocN
set_option maxRecDepth 100000
namespace Go.Proofs.YtbojijefenfbgaaGreatDoor
open Go Go.RowKit
namespace Gt
open Mp Bk
theorem q2z (b : Nat) (w : World) : Sem.run Tryz.prog (binOp BinOp.eql 137 (.map (some b)) (.map none)) w = .ok (.bool false) w := by kernel_rfl
structure Made (S : Nat → Prop) (w : World) (g : Nat) (s : St) (bh bd bu : Nat) (lh : List ((Int × Int) × Unit)) (ld : List ((Int × Int) × (Int × Int))) (lu : List ((Int × Int) × Unit)) : Prop where
 gate : w.heap[g]? = some (.cells (z3h s (.map (some bh)) (.map (some bd)) (.map (some bu))) 143 (0, 0))
 sh : S bh
 sd : S bd
 su : S bu
 hd : bh ≠ bd
 du : bd ≠ bu
 hu : bh ≠ bu
 ih : Is w bh two unit lh
 id : Is w bd two two ld
 iu : Is w bu two unit lu
theorem Made.k7s {S : Nat → Prop} {w : World} {g : Nat} {s : St} {bh bd bu : Nat} {lh ld lu} (h : Made S w g s bh bd bu lh ld lu) : g ≠ bh ∧ g ≠ bd ∧ g ≠ bu := by
 have hg := h.gate
 obtain ⟨_, _, h1, _⟩ := h.ih
 obtain ⟨_, _, h2, _⟩ := h.id
 obtain ⟨_, _, h3, _⟩ := h.iu
 refine ⟨?_, ?_, ?_⟩
 ·rintro rfl; rw [hg] at h1; cases h1
 ·rintro rfl; rw [hg] at h2; cases h2
 ·rintro rfl; rw [hg] at h3; cases h3
theorem Made.congr {S T : Nat → Prop} {w w' : World} {g : Nat} {s : St} {bh bd bu : Nat} {lh ld lu} (h : Made S w g s bh bd bu lh ld lu) (hS : ∀ k, S k → T k) (hw : ∀ k, k < w.heap.size → w'.heap[k]? = w.heap[k]?) : Made T w' g s bh bd bu lh ld lu :=
 ⟨by rw [hw g (aL h.gate)]; exact h.gate, hS _ h.sh, hS _ h.sd, hS _ h.su, h.hd, h.du, h.hu, h.ih.congr (hw _ h.ih.lt), h.id.congr (hw _ h.id.lt), h.iu.congr (hw _ h.iu.lt)⟩
theorem Made.heard {S : Nat → Prop} {w w' : World} {g : Nat} {s : St} {bh bd bu : Nat} {lh ld lu lh'} (h : Made S w g s bh bd bu lh ld lu) (hi : Is w' bh two unit lh') (ht : w.mapTurned w' bh) : Made S w' g s bh bd bu lh' ld lu := by
 have hn := h.k7s
 have hw : ∀ k, k < w.heap.size → k ≠ bh → w'.heap[k]? = w.heap[k]? := fun k hk hne => ht.grown.block k hk (fun e => hne (by injection e))
 exact ⟨by rw [hw g (aL h.gate) hn.1]; exact h.gate, h.sh, h.sd, h.su, h.hd, h.du, h.hu, hi, h.id.congr (hw _ h.id.lt h.hd.symm), h.iu.congr (hw _ h.iu.lt h.hu.symm)⟩
theorem Made.held {S : Nat → Prop} {w w' : World} {g : Nat} {s : St} {bh bd bu : Nat} {lh ld lu ld'} (h : Made S w g s bh bd bu lh ld lu) (hi : Is w' bd two two ld') (ht : w.mapTurned w' bd) : Made S w' g s bh bd bu lh ld' lu := by
 have hn := h.k7s
 have hw : ∀ k, k < w.heap.size → k ≠ bd → w'.heap[k]? = w.heap[k]? := fun k hk hne => ht.grown.block k hk (fun e => hne (by injection e))
 exact ⟨by rw [hw g (aL h.gate) hn.2.1]; exact h.gate, h.sh, h.sd, h.su, h.hd, h.du, h.hu, h.ih.congr (hw _ h.ih.lt h.hd), hi, h.iu.congr (hw _ h.iu.lt h.du.symm)⟩
theorem Made.used {S : Nat → Prop} {w w' : World} {g : Nat} {s : St} {bh bd bu : Nat} {lh ld lu lu'} (h : Made S w g s bh bd bu lh ld lu) (hi : Is w' bu two unit lu') (ht : w.mapTurned w' bu) : Made S w' g s bh bd bu lh ld lu' := by
 have hn := h.k7s
 have hw : ∀ k, k < w.heap.size → k ≠ bu → w'.heap[k]? = w.heap[k]? := fun k hk hne => ht.grown.block k hk (fun e => hne (by injection e))
 exact ⟨by rw [hw g (aL h.gate) hn.2.2]; exact h.gate, h.sh, h.sd, h.su, h.hd, h.du, h.hu, h.ih.congr (hw _ h.ih.lt h.hu), h.id.congr (hw _ h.id.lt h.du), hi⟩
theorem Made.k6a {S : Nat → Prop} {w : World} {g : Nat} {s : St} {bh bd bu : Nat} {lh ld lu} (h : Made S w g s bh bd bu lh ld lu) (hS : S g) (H : Has s.l lh ld lu) : z0h S w g s :=
 ⟨hS, _, _, _, h.gate, Or.inr ⟨bh, bd, bu, lh, ld, lu, rfl, rfl, rfl, h.sh, h.sd, h.su, h.hd, h.du, h.hu, h.ih, h.id, h.iu, H⟩⟩
theorem x7r {S : Nat → Prop} {w : World} {g : Nat} {s : St} {bh bd bu : Nat} {lh ld lu} (h : Made S w g s bh bd bu lh ld lu) (c : Int × Int) : Calls Tryz.prog 151 #[.pointer (some ⟨g, 3, none⟩), two c] w fun e w' => e = .returned (.tuple #[]) ∧ Made S w' g s bh bd bu (put c () lh) ld lu ∧ Fr S w.heap.size w w' := by
 have hc4 : w.cell? ⟨g, 4, none⟩ = some (.map (some bh)) := z0c h.gate 4 rfl
 have hgl := (aL h.gate)
 have hns := q2z bh
 have HB : Hid (Below w.heap.size w (w.alloc (.cells #[.int .i64 c.1, .int .i64 c.2] 154))) := (Below.refl _ _).alloc (Nat.le_refl _) _
 have HM : Hid (Made S (w.alloc (.cells #[.int .i64 c.1, .int .i64 c.2] 154)) g s bh bd bu lh ld lu) := h.congr (fun _ h => h) HB.out.block
 have HC : Hid ((w.alloc (.cells #[.int .i64 c.1, .int .i64 c.2] 154)).heap[w.heap.size]? = some (.cells #[.int .i64 c.1, .int .i64 c.2] 154 (0, 0))) := heap_alloc_new _ _
 clear h
 unfold two
 go_enter Tryz.func151, Tryz.ntmps151
 go_wp2
 generalize World.alloc _ _ = w1 at *
 refine Qt.z0q 6 (by kernel_rfl) (by kernel_rfl) ?_
 simp only [List.take_succ_cons, List.take_zero]
 refine Qt.z0b rfl (.pointer (some ⟨g, 3, none⟩)) (fun _ _ => by kernel_rfl) ?_
 refine Qt.z0b rfl (.pointer (some ⟨g, 3, none⟩)) (fun _ _ => by kernel_rfl) ?_
 refine Qt.z0b rfl (.pointer (some ⟨g, 4, none⟩)) (fun _ _ => by kernel_rfl) ?_
 simp only [zD]
 refine z5f rfl _ _ rfl z6d rfl g 4 (.map (some bh)) rfl (aL HM.out.gate) (z0c HM.out.gate 4 rfl) ?_
 simp only [zD]
 refine Qt.z7g rfl _ _ rfl _ rfl _ _ _ _ HC.out Tryz.underlying154 rfl (by kernel_rfl) ?_
 simp only [zD]
 refine Qt.z0b rfl (.agg #[]) (fun _ _ => by kernel_rfl) ?_
 simp only [zD]
 refine Qt.z1a ?_
 intro w2 hb2
 have HM2 : Hid (Made S w2 g s bh bd bu lh ld lu) := HM.out.congr (fun _ h => h) hb2.block
 have HB2 : Hid (Below w.heap.size w w2) := HB.out.trans (hb2.mono HB.out.size)
 clear hb2 HM HC HB
 simp only [List.drop_succ_cons, List.drop_zero]
 refine z7a _ rfl _ _ _ _ rfl k2h z6d rfl HM2.out.ih c () rfl rfl ?_
 intro w3 hi ht
 have HM3 : Hid (Made S w3 g s bh bd bu (put c () lh) ld lu) := HM2.out.heard hi ht
 have HF3 : Hid (Fr S w.heap.size w w3) := (Fr.z0z HB2.out (Nat.le_refl _)).turned ht HB2.out.size (Or.inl HM2.out.sh)
 clear hi ht HM2 HB2
 simp only [Act.put]
 go_wp2
 go_end0
 exact ⟨rfl, HM3.out, HF3.out⟩
theorem q3a {S : Nat → Prop} {w : World} {g : Nat} {s : St} (hS : S g) (hg : w.heap[g]? = some (.cells (z3h s (.map none) (.map none) (.map none)) 143 (0, 0))) (c : Int × Int) : Calls Tryz.prog 151 #[.pointer (some ⟨g, 3, none⟩), two c] w fun e w' => e = .returned (.tuple #[]) ∧ (∃ bh bd bu, Made (fun k => S k ∨ w.heap.size ≤ k) w' g s bh bd bu (put c () []) [] []) ∧ Fr S w.heap.size w w' := by
 have hgl := (aL hg)
 have Hg : Hid _ := hg
 clear hg
 unfold two
 go_enter Tryz.func151, Tryz.ntmps151
 refine wp_seq ?_
 refine Ks.reg ?_
 refine Ks.box rfl _ _ rfl #[.int .i64 c.1, .int .i64 c.2] rfl ?_
 intro w1 b1 Hb1 HC1 HB HS1
 have HG1 : Hid (w1.heap[g]? = some (.cells (z3h s (.map none) (.map none) (.map none)) 143 (0, 0))) := (HB.out.block g hgl).trans Hg.out
 have HF1 : Hid (Fr S w.heap.size w w1) := Fr.z0z HB.out (Nat.le_refl _)
 clear Hg HB
 simp only [zD]
 refine Ks.done ?_
 refine wp_seq ?_
 refine wp_seq ?_
 refine Ks.reg ?_
 refine Ks.v (.pointer (some ⟨g, 3, none⟩)) ?_
 simp only [zD]
 refine Ks.v (.pointer (some ⟨g, 3, none⟩)) ?_
 simp only [zD]
 refine Ks.v (.pointer (some ⟨g, 4, none⟩)) ?_
 simp only [zD]
 refine Ks.cell rfl _ _ rfl z6d rfl g 4 (.map none) rfl (z0c HG1.out 4 rfl) ?_
 simp only [zD]
 refine Ks.v (.bool true) ?_
 simp only [zD]
 refine Ks.done ?_
 refine wp_cond_true rfl ?_
 refine wp_seq ?_
 refine Ks.reg ?_
 refine Ks.v (.pointer (some ⟨g, 3, none⟩)) ?_
 simp only [zD]
 refine Ks.make rfl _ rfl ?_
 intro w2 bh H1 H2 H3 H4
 have HG2 : Hid (w2.heap[g]? = some (.cells (z3h s (.map none) (.map none) (.map none)) 143 (0, 0))) := (H3.out.block g (aL HG1.out)).trans HG1.out
 have HC2 : Hid (w2.heap[b1]? = _) := (H3.out.block _ (aL HC1.out)).trans HC1.out
 have HF2 : Hid (Fr S w.heap.size w w2) := HF1.out.calls H3.out HF1.out.size
 have HIbh2 : Hid (Is w2 bh two unit ([] : List ((Int × Int) × (Unit)))) := ⟨_, _, H2.out, by simp, by simp, by simp, by simp⟩
 have HNbh : Hid (bh = w.heap.size + 1) := H1.out.trans HS1.out
 have HS2 : Hid (w2.heap.size = w.heap.size + 2) := H4.out.trans (by rw [HS1.out])
 clear H1 H2 H3 H4 HG1 HC1 HF1 HS1
 simp only [zD]
 refine Ks.v (.pointer (some ⟨g, 3, none⟩)) ?_
 simp only [zD]
 refine Ks.v (.pointer (some ⟨g, 4, none⟩)) ?_
 simp only [zD]
 refine Ks.store rfl _ _ _ rfl g 4 _ rfl rfl HG2.out (by show 4 < 8; omega) (by kernel_rfl) rfl (z3h s (.map (some bh)) (.map none) (.map none)) rfl ?_
 intro w3 HG3 H2 H3 H4
 have HC3 : Hid (w3.heap[b1]? = _) := (H3.out b1 (by have := Hb1.out; omega)).trans HC2.out
 have HF3 : Hid (Fr S w.heap.size w w3) := HF2.out.trans (H2.out _ _ (Or.inl hS))
 have HIbh3 : Hid (Is w3 bh two unit ([] : List ((Int × Int) × (Unit)))) := HIbh2.out.congr (H3.out _ (by have := HNbh.out; omega))
 have HS3 : Hid (w3.heap.size = w.heap.size + 2) := H4.out.trans HS2.out
 clear H2 H3 H4 HG2 HC2 HF2 HS2 HIbh2
 simp only [Act.put]
 refine Ks.done ?_
 refine wp_seq ?_
 refine Ks.reg ?_
 refine Ks.v (.pointer (some ⟨g, 3, none⟩)) ?_
 simp only [zD]
 refine Ks.make rfl _ rfl ?_
 intro w4 bd H1 H2 H3 H4
 have HG4 : Hid (w4.heap[g]? = some (.cells (z3h s (.map (some bh)) (.map none) (.map none)) 143 (0, 0))) := (H3.out.block g (aL HG3.out)).trans HG3.out
 have HC4 : Hid (w4.heap[b1]? = _) := (H3.out.block _ (aL HC3.out)).trans HC3.out
 have HF4 : Hid (Fr S w.heap.size w w4) := HF3.out.calls H3.out HF3.out.size
 have HIbh4 : Hid (Is w4 bh two unit ([] : List ((Int × Int) × Unit))) := HIbh3.out.congr (H3.out.block _ HIbh3.out.lt)
 have HIbd4 : Hid (Is w4 bd two two ([] : List ((Int × Int) × (Int × Int)))) := ⟨_, _, H2.out, by simp, by simp, by simp, by simp⟩
 have HNbd : Hid (bd = w.heap.size + 2) := H1.out.trans HS3.out
 have HS4 : Hid (w4.heap.size = w.heap.size + 3) := H4.out.trans (by rw [HS3.out])
 clear H1 H2 H3 H4 HG3 HC3 HF3 HS3 HIbh3
 simp only [zD]
 refine Ks.v (.pointer (some ⟨g, 3, none⟩)) ?_
 simp only [zD]
 refine Ks.v (.pointer (some ⟨g, 5, none⟩)) ?_
 simp only [zD]
 refine Ks.store rfl _ _ _ rfl g 5 _ rfl rfl HG4.out (by show 5 < 8; omega) (by kernel_rfl) rfl (z3h s (.map (some bh)) (.map (some bd)) (.map none)) rfl ?_
 intro w5 HG5 H2 H3 H4
 have HC5 : Hid (w5.heap[b1]? = _) := (H3.out b1 (by have := Hb1.out; omega)).trans HC4.out
 have HF5 : Hid (Fr S w.heap.size w w5) := HF4.out.trans (H2.out _ _ (Or.inl hS))
 have HIbh5 : Hid (Is w5 bh two unit ([] : List ((Int × Int) × Unit))) := HIbh4.out.congr (H3.out _ (by have := HNbh.out; omega))
 have HIbd5 : Hid (Is w5 bd two two ([] : List ((Int × Int) × (Int × Int)))) := HIbd4.out.congr (H3.out _ (by have := HNbd.out; omega))
 have HS5 : Hid (w5.heap.size = w.heap.size + 3) := H4.out.trans HS4.out
 clear H2 H3 H4 HG4 HC4 HF4 HS4 HIbh4 HIbd4
 simp only [Act.put]
 refine Ks.done ?_
 refine Ks.reg ?_
 refine Ks.v (.pointer (some ⟨g, 3, none⟩)) ?_
 simp only [zD]
 refine Ks.make rfl _ rfl ?_
 intro w6 bu H1 H2 H3 H4
 have HG6 : Hid (w6.heap[g]? = some (.cells (z3h s (.map (some bh)) (.map (some bd)) (.map none)) 143 (0, 0))) := (H3.out.block g (aL HG5.out)).trans HG5.out
 have HC6 : Hid (w6.heap[b1]? = _) := (H3.out.block _ (aL HC5.out)).trans HC5.out
 have HF6 : Hid (Fr S w.heap.size w w6) := HF5.out.calls H3.out HF5.out.size
 have HIbh6 : Hid (Is w6 bh two unit ([] : List ((Int × Int) × Unit))) := HIbh5.out.congr (H3.out.block _ HIbh5.out.lt)
 have HIbd6 : Hid (Is w6 bd two two ([] : List ((Int × Int) × (Int × Int)))) := HIbd5.out.congr (H3.out.block _ HIbd5.out.lt)
 have HIbu6 : Hid (Is w6 bu two unit ([] : List ((Int × Int) × (Unit)))) := ⟨_, _, H2.out, by simp, by simp, by simp, by simp⟩
 have HNbu : Hid (bu = w.heap.size + 3) := H1.out.trans HS5.out
 have HS6 : Hid (w6.heap.size = w.heap.size + 4) := H4.out.trans (by rw [HS5.out])
 clear H1 H2 H3 H4 HG5 HC5 HF5 HS5 HIbh5 HIbd5
 simp only [zD]
 refine Ks.v (.pointer (some ⟨g, 3, none⟩)) ?_
 simp only [zD]
 refine Ks.v (.pointer (some ⟨g, 6, none⟩)) ?_
 simp only [zD]
 refine Ks.store rfl _ _ _ rfl g 6 _ rfl rfl HG6.out (by show 6 < 8; omega) (by kernel_rfl) rfl (z3h s (.map (some bh)) (.map (some bd)) (.map (some bu))) rfl ?_
 intro w7 HG7 H2 H3 H4
 have HC7 : Hid (w7.heap[b1]? = _) := (H3.out b1 (by have := Hb1.out; omega)).trans HC6.out
 have HF7 : Hid (Fr S w.heap.size w w7) := HF6.out.trans (H2.out _ _ (Or.inl hS))
 have HIbh7 : Hid (Is w7 bh two unit ([] : List ((Int × Int) × Unit))) := HIbh6.out.congr (H3.out _ (by have := HNbh.out; omega))
 have HIbd7 : Hid (Is w7 bd two two ([] : List ((Int × Int) × (Int × Int)))) := HIbd6.out.congr (H3.out _ (by have := HNbd.out; omega))
 have HIbu7 : Hid (Is w7 bu two unit ([] : List ((Int × Int) × (Unit)))) := HIbu6.out.congr (H3.out _ (by have := HNbu.out; omega))
 have HS7 : Hid (w7.heap.size = w.heap.size + 4) := H4.out.trans HS6.out
 clear H2 H3 H4 HG6 HC6 HF6 HS6 HIbh6 HIbd6 HIbu6
 simp only [Act.put]
 refine Ks.done ?_
 have HM : Hid (Made (fun k => S k ∨ w.heap.size ≤ k) w7 g s bh bd bu [] [] []) := by
  have h1 := HNbh.out
  have h2 := HNbd.out
  have h3 := HNbu.out
  exact ⟨HG7.out, Or.inr (by omega), Or.inr (by omega), Or.inr (by omega), by omega, by omega, by omega, HIbh7.out, HIbd7.out, HIbu7.out⟩
 clear HG7 HIbh7 HIbd7 HIbu7 HNbh HNbd HNbu HS7
 refine Qt.z0q 6 (by kernel_rfl) (by kernel_rfl) ?_
 simp only [List.take_succ_cons, List.take_zero]
 refine Qt.z0b rfl (.pointer (some ⟨g, 3, none⟩)) (fun _ _ => by kernel_rfl) ?_
 refine Qt.z0b rfl (.pointer (some ⟨g, 3, none⟩)) (fun _ _ => by kernel_rfl) ?_
 refine Qt.z0b rfl (.pointer (some ⟨g, 4, none⟩)) (fun _ _ => by kernel_rfl) ?_
 simp only [zD]
 refine z5f rfl _ _ rfl z6d rfl g 4 (.map (some bh)) rfl (aL HM.out.gate) (z0c HM.out.gate 4 rfl) ?_
 simp only [zD]
 refine Qt.z7g rfl _ _ rfl _ rfl _ _ _ _ HC7.out Tryz.underlying154 rfl (by kernel_rfl) ?_
 simp only [zD]
 refine Qt.z0b rfl (.agg #[]) (fun _ _ => by kernel_rfl) ?_
 simp only [zD]
 refine Qt.z1a ?_
 simp only [List.drop_succ_cons, List.drop_zero]
 intro w8 hb2
 have HM2 : Hid (Made (fun k => S k ∨ w.heap.size ≤ k) w8 g s bh bd bu [] [] []) := HM.out.congr (fun _ h => h) hb2.block
 have HF8 : Hid (Fr S w.heap.size w w8) := HF7.out.calls hb2 HF7.out.size
 clear hb2 HM HC7 HF7
 refine z7a _ rfl _ _ _ _ rfl k2h z6d rfl HM2.out.ih c () rfl rfl ?_
 intro w9 hi ht
 have HM3 : Hid (Made (fun k => S k ∨ w.heap.size ≤ k) w9 g s bh bd bu (put c () []) [] []) := HM2.out.heard hi ht
 have HF9 : Hid (Fr S w.heap.size w w9) := HF8.out.turned ht HF8.out.size HM2.out.sh
 clear hi ht HM2 HF8
 simp only [Act.put]
 go_wp2
 go_end0
 exact ⟨rfl, ⟨bh, bd, bu, HM3.out⟩, HF9.out⟩
end Gt
open Go Go.RowKit
namespace Gt
open Mp Bk
theorem q6f {S : Nat → Prop} {w : World} {g : Nat} {s : St} (h : z0h S w g s) (c : Int × Int) : Calls Tryz.prog 151 #[.pointer (some ⟨g, 3, none⟩), two c] w fun e w' => ∃ v, e = .returned v ∧ v = .tuple #[] ∧ (∃ bh bd bu lh ld lu, Has s.l lh ld lu ∧ Made (fun k => S k ∨ w.heap.size ≤ k) w' g s bh bd bu (put c () lh) ld lu) ∧ Fr S w.heap.size w w' := by
 obtain ⟨hS, vh, vd, vu, hg, hm⟩ := h
 rcases hm with ⟨rfl, rfl, rfl, hl⟩ | ⟨bh, bd, bu, lh, ld, lu, rfl, rfl, rfl, s1, s2, s3, n1, n2, n3, h1, h2, h3, H⟩
 ·refine (q3a hS hg c).mono ?_
  rintro e w' ⟨rfl, ⟨bh, bd, bu, hm⟩, hf⟩
  exact ⟨_, rfl, rfl, ⟨bh, bd, bu, [], [], [], by rw [hl]; exact Has.nil, hm⟩, hf⟩
 ·refine (x7r ⟨hg, s1, s2, s3, n1, n2, n3, h1, h2, h3⟩ c).mono ?_
  rintro e w' ⟨rfl, hm, hf⟩
  refine ⟨_, rfl, rfl, ⟨bh, bd, bu, lh, ld, lu, H, ?_⟩, hf⟩
  exact ⟨hm.gate, Or.inl s1, Or.inl s2, Or.inl s3, n1, n2, n3, hm.ih, hm.id, hm.iu⟩
theorem z0h.cut {S : Nat → Prop} {w : World} {g : Nat} {s : St} (h : z0h S w g s) {B : Nat} (hB : w.heap.size ≤ B) : z0h (fun k => S k ∧ k < B) w g s := by
 have hlt := h.lt
 obtain ⟨hS, vh, vd, vu, hg, hm⟩ := h
 refine ⟨⟨hS, by omega⟩, vh, vd, vu, hg, ?_⟩
 rcases hm with h | ⟨bh, bd, bu, lh, ld, lu, e1, e2, e3, s1, s2, s3, n1, n2, n3, h1, h2, h3, H⟩
 ·exact Or.inl h
 ·exact Or.inr ⟨bh, bd, bu, lh, ld, lu, e1, e2, e3, ⟨s1, Nat.lt_of_lt_of_le h1.lt hB⟩, ⟨s2, Nat.lt_of_lt_of_le h2.lt hB⟩, ⟨s3, Nat.lt_of_lt_of_le h3.lt hB⟩, n1, n2, n3, h1, h2, h3, H⟩
theorem k2w {S : Nat → Prop} {w : World} {g : Nat} {s : St} (h : z0h S w g s) (x : It) (hx : x.key ∉ s.l.map It.key) (hn : x.gone = false) : Calls Tryz.prog 79 #[.pointer (some ⟨g, 3, none⟩), two x.key, two x.pass] w fun e w' => e = .returned (.tuple #[]) ∧ z0h (fun k => S k ∨ w.heap.size ≤ k) w' g { s with l := ins x s.l } ∧ Fr S w.heap.size w w' := by
 have HP : Hid (z0h S w g s) := h
 have hS := h.1
 clear h
 obtain ⟨kx, hkx⟩ : ∃ y, y = x.key := ⟨_, rfl⟩
 obtain ⟨px, hpx⟩ : ∃ y, y = x.pass := ⟨_, rfl⟩
 rw [← hkx, ← hpx]
 unfold two
 go_enter Tryz.func79, Tryz.ntmps79
 refine wp_seq ?_
 refine Ks.reg ?_
 refine Ks.box rfl _ _ rfl #[.int .i64 kx.1, .int .i64 kx.2] rfl ?_
 intro w1 b1 Hb1 HK1 HB1 HS1
 simp only [zD]
 refine Ks.box rfl _ _ rfl #[.int .i64 px.1, .int .i64 px.2] rfl ?_
 intro w2 b2 Hb2 HC2 HB2 HS2
 have HK2 : Hid (w2.heap[b1]? = _) := (HB2.out.block _ (aL HK1.out)).trans HK1.out
 have HB : Hid (Below w.heap.size w w2) := HB1.out.trans (HB2.out.mono HB1.out.size)
 have HP2 : Hid (z0h (fun k => S k ∧ k < w.heap.size) w2 g s) := (HP.out.cut (Nat.le_refl _)).below HB.out
 have hb1 : w.heap.size ≤ b1 := Nat.le_of_eq Hb1.out.symm
 have hb2 : w.heap.size ≤ b2 := Nat.le_trans HB1.out.size (Nat.le_of_eq Hb2.out.symm)
 clear HK1 HB1 HS1 HB2 HS2 HP Hb1 Hb2
 simp only [zD]
 refine Ks.done ?_
 refine wp_seq ?_
 refine Ks.reg ?_
 refine Ks.v (.pointer (some ⟨g, 3, none⟩)) ?_
 simp only [zD]
 refine Ks.row rfl _ _ rfl b1 rfl HK2.out Tryz.underlying154 rfl (by kernel_rfl) ?_
 simp only [zD]
 refine Ks.call rfl 151 #[.pointer (some ⟨g, 3, none⟩), two kx] (by unfold two; kernel_rfl) (q6f HP2.out kx) ?_
 rintro v w3 ⟨rfl, ⟨bh, bd, bu, lh, ld, lu, H, hm⟩, hf⟩
 have HH : Hid (Has s.l lh ld lu) := H
 have hT : ∀ k, (S k ∧ k < w.heap.size) ∨ w2.heap.size ≤ k → S k ∨ w.heap.size ≤ k := fun k hk => hk.imp (fun h => h.1) (Nat.le_trans HB.out.size)
 have HM3 : Hid (Made (fun k => S k ∨ w.heap.size ≤ k) w3 g s bh bd bu (put kx () lh) ld lu) := hm.congr hT fun _ _ => rfl
 have HF3 : Hid (Fr S w.heap.size w w3) := (Fr.z0z HB.out (Nat.le_refl _)).trans (hf.mono HB.out.size fun k _ h => h.1)
 have HK3 : Hid (w3.heap[b1]? = _) := (hf.block b1 (aL HK2.out) (fun h => by omega)).trans HK2.out
 have HC3 : Hid (w3.heap[b2]? = _) := (hf.block b2 (aL HC2.out) (fun h => by omega)).trans HC2.out
 clear H hm hf hT HK2 HC2 HP2 HB
 simp only [zD]
 refine Ks.done ?_
 refine wp_seq ?_
 refine Qt.z0q 6 (by kernel_rfl) (by kernel_rfl) ?_
 simp only [List.take_succ_cons, List.take_zero]
 refine Qt.z0b rfl (.pointer (some ⟨g, 3, none⟩)) (fun _ _ => by kernel_rfl) ?_
 refine Qt.z0b rfl (.pointer (some ⟨g, 3, none⟩)) (fun _ _ => by kernel_rfl) ?_
 refine Qt.z0b rfl (.pointer (some ⟨g, 5, none⟩)) (fun _ _ => by kernel_rfl) ?_
 simp only [zD]
 refine z5f rfl _ _ rfl z7e rfl g 5 (.map (some bd)) rfl (aL HM3.out.gate) (z0c HM3.out.gate 5 rfl) ?_
 simp only [zD]
 refine Qt.z7g rfl _ _ rfl _ rfl _ _ _ _ HK3.out Tryz.underlying154 rfl (by kernel_rfl) ?_
 simp only [zD]
 refine Qt.z7g rfl _ _ rfl _ rfl _ _ _ _ HC3.out Tryz.underlying150 rfl (by kernel_rfl) ?_
 simp only [zD]
 refine Qt.z1a ?_
 simp only [List.drop_succ_cons, List.drop_zero]
 intro w4 hb4
 have HM4 : Hid (Made (fun k => S k ∨ w.heap.size ≤ k) w4 g s bh bd bu (put kx () lh) ld lu) := HM3.out.congr (fun _ h => h) hb4.block
 have HF4 : Hid (Fr S w.heap.size w w4) := HF3.out.calls hb4 HF3.out.size
 have HC4 : Hid (w4.heap[b2]? = _) := (hb4.block b2 (aL HC3.out)).trans HC3.out
 clear hb4 HM3 HF3 HK3 HC3
 refine z7a _ rfl _ _ _ _ rfl k2h z7e rfl HM4.out.id kx px rfl rfl ?_
 intro w5 hi ht
 have HM5 : Hid (Made (fun k => S k ∨ w.heap.size ≤ k) w5 g s bh bd bu (put kx () lh) (put kx px ld) lu) := HM4.out.held hi ht
 have HF5 : Hid (Fr S w.heap.size w w5) := HF4.out.turned ht HF4.out.size HM4.out.sd
 have HC5 : Hid (w5.heap[b2]? = _) := (ht.grown.block b2 (aL HC4.out) (fun e => by
  injection e with e
  obtain ⟨_, _, h2, _⟩ := HM4.out.id
  rw [← e, HC4.out] at h2
  cases h2)).trans HC4.out
 clear hi ht HM4 HF4 HC4
 simp only [Act.put]
 refine Ks.done ?_
 refine Qt.z0q 6 (by kernel_rfl) (by kernel_rfl) ?_
 simp only [List.take_succ_cons, List.take_zero]
 refine Qt.z0b rfl (.pointer (some ⟨g, 3, none⟩)) (fun _ _ => by kernel_rfl) ?_
 refine Qt.z0b rfl (.pointer (some ⟨g, 3, none⟩)) (fun _ _ => by kernel_rfl) ?_
 refine Qt.z0b rfl (.pointer (some ⟨g, 6, none⟩)) (fun _ _ => by kernel_rfl) ?_
 simp only [zD]
 refine z5f rfl _ _ rfl x4x rfl g 6 (.map (some bu)) rfl (aL HM5.out.gate) (z0c HM5.out.gate 6 rfl) ?_
 simp only [zD]
 refine Qt.z7g rfl _ _ rfl _ rfl _ _ _ _ HC5.out Tryz.underlying150 rfl (by kernel_rfl) ?_
 simp only [zD]
 refine Qt.z0b rfl (.agg #[]) (fun _ _ => by kernel_rfl) ?_
 simp only [zD]
 refine Qt.z1a ?_
 simp only [List.drop_succ_cons, List.drop_zero]
 intro w6 hb6
 have HM6 : Hid (Made (fun k => S k ∨ w.heap.size ≤ k) w6 g s bh bd bu (put kx () lh) (put kx px ld) lu) := HM5.out.congr (fun _ h => h) hb6.block
 have HF6 : Hid (Fr S w.heap.size w w6) := HF5.out.calls hb6 HF5.out.size
 clear hb6 HM5 HF5 HC5
 refine z7a _ rfl _ _ _ _ rfl q3l x4x rfl HM6.out.iu px () rfl rfl ?_
 intro w7 hi ht
 have HM7 : Hid (Made (fun k => S k ∨ w.heap.size ≤ k) w7 g s bh bd bu (put kx () lh) (put kx px ld) (put px () lu)) := HM6.out.used hi ht
 have HF7 : Hid (Fr S w.heap.size w w7) := HF6.out.turned ht HF6.out.size HM6.out.su
 have Hnd : Hid _ := HM6.out.iu.keys
 clear hi ht HM6 HF6
 simp only [Act.put]
 go_wp2
 go_end0
 refine ⟨rfl, ?_, HF7.out⟩
 subst hkx hpx
 exact Made.k6a (s := { s with l := ins x s.l }) ⟨HM7.out.gate, HM7.out.sh, HM7.out.sd, HM7.out.su, HM7.out.hd, HM7.out.du, HM7.out.hu, HM7.out.ih, HM7.out.id, HM7.out.iu⟩ (Or.inl hS) (HH.out.add Hnd.out hn hx)
end Gt
open Go Go.RowKit
namespace Gt
open Mp Bk
theorem Made.ran {S : Nat → Prop} {w w' : World} {g : Nat} {s : St} {bh bd bu : Nat} {lh ld lu} (h : Made S w g s bh bd bu lh ld lu) {r : Nat} (hr : g ≠ r ∧ bh ≠ r ∧ bd ≠ r ∧ bu ≠ r) (hg : w.grownBy w' (some r)) : Made S w' g s bh bd bu lh ld lu := by
 have hw : ∀ k, k < w.heap.size → k ≠ r → w'.heap[k]? = w.heap[k]? := fun k hk hne => hg.block k hk (fun e => hne (by injection e))
 exact ⟨by rw [hw g (aL h.gate) hr.1]; exact h.gate, h.sh, h.sd, h.su, h.hd, h.du, h.hu, h.ih.congr (hw _ h.ih.lt hr.2.1), h.id.congr (hw _ h.id.lt hr.2.2.1), h.iu.congr (hw _ h.iu.lt hr.2.2.2)⟩
theorem Ran.lt {w : World} {b r : Nat} {α β : Type} {ke : α → Value} {ve : β → Value} {l : List (α × β)} {left : α → Bool} (h : Ran w b r ke ve l left) : r < w.heap.size := by
 obtain ⟨_, _, _, _, _, _, hr, _⟩ := h
 exact (aL hr)
def x2a (g : Nat) (F : Int) (r : Nat) (bd : Nat) (f : Nat → Value) : Act := { tmps := #[.pointer (some ⟨g, 3, none⟩), .int .i64 F, f 2, f 3, f 4, f 5, .pointer (some ⟨g, 3, none⟩), .int .i64 F, .pointer (some ⟨g, 3, none⟩), .pointer (some ⟨g, 3, none⟩), .pointer (some ⟨g, 3, none⟩), .pointer (some ⟨g, 3, none⟩), .pointer (some ⟨g, 5, none⟩), .map (some bd), .pointer (some ⟨r, 0, none⟩), f 15, f 16, f 17, f 18, f 19, f 20, f 21, f 22, f 23, f 24, f 25, f 26, f 27, f 28, f 29, f 30, f 31, f 32, f 33], defers := [] }
theorem x4m {S : Nat → Prop} {w : World} {g : Nat} {s : St} {bh bd bu : Nat} {lh ld lu} (h : Made S w g s bh bd bu lh ld lu) (hS : S g) (H : Has s.l lh ld lu) (F : Int) : Calls Tryz.prog 216 #[.pointer (some ⟨g, 3, none⟩), .int .i64 F] w fun e w' => e = .returned (.tuple #[]) ∧ z0h S w' g { s with floor := F, l := s.l.map (z5e F) } ∧ Fr S w.heap.size w w' := by
 have HM : Hid (Made S w g s bh bd bu lh ld lu) := h
 have HH : Hid (Has s.l lh ld lu) := H
 clear h H
 go_enter Tryz.func216, Tryz.ntmps216
 refine wp_seq ?_
 refine Ks.reg ?_
 refine Ks.v (.pointer (some ⟨g, 3, none⟩)) ?_
 simp only [zD]
 refine Ks.v (.int .i64 F) ?_
 simp only [zD]
 refine Ks.v (.pointer (some ⟨g, 3, none⟩)) ?_
 simp only [zD]
 refine Ks.v (.pointer (some ⟨g, 3, none⟩)) ?_
 simp only [zD]
 refine Ks.store rfl _ _ _ rfl g 3 _ rfl rfl HM.out.gate (by show 3 < 8; omega) (by kernel_rfl) rfl (z3h { s with floor := F } (.map (some bh)) (.map (some bd)) (.map (some bu))) rfl ?_
 intro w1 HG H2 H3 H4
 have HM1 : Hid (Made S w1 g { s with floor := F } bh bd bu lh ld lu) := by
  have hn := HM.out.k7s
  have h := HM.out
  exact ⟨HG.out, h.sh, h.sd, h.su, h.hd, h.du, h.hu, h.ih.congr (H3.out _ hn.1.symm), h.id.congr (H3.out _ hn.2.1.symm), h.iu.congr (H3.out _ hn.2.2.symm)⟩
 have HF1 : Hid (Fr S w.heap.size w w1) := H2.out _ _ (Or.inl hS)
 clear HM HG H2 H3 H4
 simp only [Act.put]
 refine Ks.done ?_
 refine wp_seq ?_
 refine Ks.reg ?_
 refine Ks.v (.pointer (some ⟨g, 3, none⟩)) ?_
 simp only [zD]
 refine Ks.v (.pointer (some ⟨g, 3, none⟩)) ?_
 simp only [zD]
 refine Ks.v (.pointer (some ⟨g, 5, none⟩)) ?_
 simp only [zD]
 refine Ks.cell rfl _ _ rfl z7e rfl g 5 (.map (some bd)) rfl (z0c HM1.out.gate 5 rfl) ?_
 simp only [zD]
 refine z9q _ rfl _ _ rfl z7e rfl HM1.out.id ?_
 rintro w2 hr2 ⟨o2, hw2⟩
 obtain ⟨r, hr⟩ : ∃ r, r = w1.heap.size := ⟨_, rfl⟩
 rw [← hr] at hr2 ⊢
 have hbel : Below w1.heap.size w1 w2 := by rw [hw2]; exact (Below.refl _ _).alloc (Nat.le_refl _) _
 have HM2 : Hid (Made S w2 g { s with floor := F } bh bd bu lh ld lu) := HM1.out.congr (fun _ h => h) hbel.block
 have HF2 : Hid (Fr S w.heap.size w w2) := HF1.out.calls hbel HF1.out.size
 have hne : g ≠ r ∧ bh ≠ r ∧ bd ≠ r ∧ bu ≠ r := by
  have h1 := (aL HM1.out.gate)
  have h2 := HM1.out.ih.lt
  have h3 := HM1.out.id.lt
  have h4 := HM1.out.iu.lt
  omega
 have hrB : w.heap.size ≤ r := by rw [hr]; exact HF1.out.size
 have Hnd : Hid _ := HM1.out.id.keys
 have HR2 : Hid (Ran w2 bd r two two ld (fun _ => true)) := hr2
 clear hr2 hw2 hr hbel HM1 HF1
 simp only [zD]
 refine Ks.done ?_
 refine wp_block ?_
 refine Ks.loop (fun n a wr => ∃ f ld' lu' left, a = x2a g F r bd f ∧ Made S wr g { s with floor := F } bh bd bu lh ld' lu' ∧ Ran wr bd r two two ld' left ∧ z5b F ld ld' lu lu' left ∧ Fr S w.heap.size w wr ∧ n = (ld'.filter fun p => left p.1).length) _ ⟨fun _ => undef, ld, lu, _, rfl, HM2.out, HR2.out, z5b.start F ld lu, HF2.out, rfl⟩ ?_
 clear HM2 HR2 HF2 w2 w1
 rintro n a wr ⟨f, ld', lu', left, rfl, hM, hR, hW, hF, rfl⟩
 have fin : ∀ (a' : Act) (w' : World) ld2 lu2 lf2, a' = x2a g F r bd (fun j => a'.tmps.getD j undef) → Made S w' g { s with floor := F } bh bd bu lh ld2 lu2 → Ran w' bd r two two ld2 lf2 → z5b F ld ld2 lu lu2 lf2 → Fr S w.heap.size w w' → (ld2.filter fun p => lf2 p.1).length < (ld'.filter fun p => left p.1).length → ∃ m, m < (ld'.filter fun p => left p.1).length ∧ ∃ f ld' lu' left, a' = x2a g F r bd f ∧ Made S w' g { s with floor := F } bh bd bu lh ld' lu' ∧ Ran w' bd r two two ld' left ∧ z5b F ld ld' lu lu' left ∧ Fr S w.heap.size w w' ∧ m = (ld'.filter fun p => left p.1).length :=
  fun a' w' ld2 lu2 lf2 h1 h2 h3 h4 h5 h6 => ⟨_, h6, _, ld2, lu2, lf2, h1, h2, h3, h4, h5, rfl⟩
 have Hfin : Hid _ := fin
 clear fin
 have HM : Hid _ := hM
 have HR : Hid (Ran wr bd r two two ld' left) := hR
 have HW : Hid _ := hW
 have HF : Hid _ := hF
 clear hM hR hW hF
 unfold x2a
 refine wp_seq ?_
 refine Ks.reg ?_
 refine y1z _ rfl _ rfl y1v hne.2.2.1 rfl HR.out ?_ ?_
 ·intro hl
  simp only [zD]
  refine Ks.v (.bool false) ?_
  simp only [zD]
  refine Ks.done ?_
  refine wp_seq ?_
  refine wp_cond_false rfl ?_
  refine wp_exit ?_
  refine Ks.z3r ?_
  go_end0
  refine ⟨rfl, ?_, HF.out⟩
  exact Made.k6a (s := { s with floor := F, l := s.l.map (z5e F) }) ⟨HM.out.gate, HM.out.sh, HM.out.sd, HM.out.su, HM.out.hd, HM.out.du, HM.out.hu, HM.out.ih, HM.out.id, HM.out.iu⟩ hS (HH.out.raise HW.out hl)
 ·intro c v w3 hcv hlc hR3 hg3 hs3 hen
  have HM3 : Hid (Made S w3 g { s with floor := F } bh bd bu lh ld' lu') := HM.out.ran hne hg3
  have HF3 : Hid (Fr S w.heap.size w w3) := HF.out.grown hg3 HF.out.size (fun b e => by injection e with e; subst e; exact Or.inr hrB)
  obtain ⟨lf, hlf⟩ : ∃ l : Int × Int → Bool, l = fun x => left x && decide (x ≠ c) := ⟨_, rfl⟩
  rw [← hlf] at hR3
  have HR3 : Hid (Ran w3 bd r two two ld' lf) := hR3
  clear hR3 hg3 hs3 HM HF HR
  have Hen : Hid _ := hen
  clear hen
  simp only [zD]
  refine Ks.v (.bool true) ?_
  simp only [zD]
  refine Ks.done ?_
  refine wp_seq ?_
  refine wp_cond_true rfl ?_
  refine wp_skip ?_
  refine Ks.norm ?_
  refine wp_block ?_
  refine wp_seq ?_
  refine Ks.reg ?_
  refine Ks.entry rfl _ rfl r _ rfl Hen.out ?_
  simp only [zD]
  refine Ks.v (two c) ?_
  simp only [zD]
  refine Ks.v (two v) ?_
  simp only [zD]
  refine Ks.alloc rfl _ rfl (.agg #[.int .i64 0, .int .i64 0]) (by kernel_rfl) _ rfl ?_
  intro w4 b4 H1 HA4 H3 H4
  have HM4 : Hid (Made S w4 g { s with floor := F } bh bd bu lh ld' lu') := HM3.out.congr (fun _ h => h) H3.out.block
  have HF4 : Hid (Fr S w.heap.size w w4) := HF3.out.calls H3.out HF3.out.size
  have HR4 : Hid (Ran w4 bd r two two ld' lf) := HR3.out.congr (H3.out.block _ HM3.out.id.lt) (H3.out.block _ (Ran.lt HR3.out))
  have hl4 : w.heap.size ≤ b4 ∧ r < b4 ∧ g < b4 ∧ bd < b4 ∧ bu < b4 ∧ bh < b4 := by
   have e := H1.out
   have h1 := HF3.out.size
   have h2 := Ran.lt HR3.out
   have h3 := (aL HM3.out.gate)
   have h4 := HM3.out.ih.lt
   have h5 := HM3.out.id.lt
   have h6 := HM3.out.iu.lt
   omega
  clear H1 H3 H4 HM3 HF3 HR3
  simp only [zD]
  refine Ks.alloc rfl _ rfl (.agg #[.int .i64 0, .int .i64 0]) (by kernel_rfl) _ rfl ?_
  intro w5 b5 H1 HP5 H3 H4
  have HM5 : Hid (Made S w5 g { s with floor := F } bh bd bu lh ld' lu') := HM4.out.congr (fun _ h => h) H3.out.block
  have HF5 : Hid (Fr S w.heap.size w w5) := HF4.out.calls H3.out HF4.out.size
  have HR5 : Hid (Ran w5 bd r two two ld' lf) := HR4.out.congr (H3.out.block _ HM4.out.id.lt) (H3.out.block _ (Ran.lt HR4.out))
  have HA5 : Hid (w5.heap[b4]? = _) := (H3.out.block _ (aL HA4.out)).trans HA4.out
  have hl5 : b4 < b5 := by
   have e := H1.out
   have h1 := (aL HA4.out)
   omega
  clear H1 H3 H4 HM4 HF4 HR4 HA4
  simp only [zD]
  refine Ks.whole rfl _ _ _ rfl b4 #[.int .i64 c.1, .int .i64 c.2] rfl rfl HA5.out (by kernel_rfl) rfl (by simp [Value.oneCell']) ?_
  intro w6 HA6 H2 H3 H4
  have HM6 : Hid (Made S w6 g { s with floor := F } bh bd bu lh ld' lu') := by
   have h := HM5.out
   exact ⟨(H3.out _ (by omega)).trans h.gate, h.sh, h.sd, h.su, h.hd, h.du, h.hu, h.ih.congr (H3.out _ (by omega)), h.id.congr (H3.out _ (by omega)), h.iu.congr (H3.out _ (by omega))⟩
  have HF6 : Hid (Fr S w.heap.size w w6) := HF5.out.trans (H2.out _ _ (Or.inr hl4.1))
  have HR6 : Hid (Ran w6 bd r two two ld' lf) := HR5.out.congr (H3.out _ (by omega)) (H3.out _ (by omega))
  have HP6 : Hid (w6.heap[b5]? = _) := (H3.out _ (by omega)).trans HP5.out
  clear H2 H3 H4 HM5 HF5 HR5 HA5 HP5
  simp only [Act.put]
  refine Ks.whole rfl _ _ _ rfl b5 #[.int .i64 v.1, .int .i64 v.2] rfl rfl HP6.out (by kernel_rfl) rfl (by simp [Value.oneCell']) ?_
  intro w7 HP7 H2 H3 H4
  have HM7 : Hid (Made S w7 g { s with floor := F } bh bd bu lh ld' lu') := by
   have h := HM6.out
   exact ⟨(H3.out _ (by omega)).trans h.gate, h.sh, h.sd, h.su, h.hd, h.du, h.hu, h.ih.congr (H3.out _ (by omega)), h.id.congr (H3.out _ (by omega)), h.iu.congr (H3.out _ (by omega))⟩
  have HF7 : Hid (Fr S w.heap.size w w7) := HF6.out.trans (H2.out _ _ (Or.inr (by omega)))
  have HR7 : Hid (Ran w7 bd r two two ld' lf) := HR6.out.congr (H3.out _ (by omega)) (H3.out _ (by omega))
  have HA7 : Hid (w7.heap[b4]? = _) := (H3.out _ (by omega)).trans HA6.out
  clear H2 H3 H4 HM6 HF6 HR6 HP6 HA6
  simp only [Act.put]
  refine Ks.done ?_
  refine wp_seq ?_
  refine Ks.reg ?_
  refine Ks.v (.pointer (some ⟨b5, 0, none⟩)) ?_
  simp only [zD]
  refine Ks.cell rfl _ _ rfl Tryz.underlying3 rfl b5 0 (.int .i64 v.1) rfl (z0c HP7.out 0 rfl) ?_
  simp only [zD]
  refine Ks.v (.int .i64 F) ?_
  simp only [zD]
  refine Ks.v (.bool (decide (v.1 < F))) ?_
  simp only [zD]
  refine Ks.done ?_
  refine wp_cond_split rfl ?_ ?_
  ·intro hlt
   have hlt := of_decide_eq_true hlt
   refine wp_seq ?_
   refine Qt.z0q 5 (by kernel_rfl) (by kernel_rfl) ?_
   simp only [List.take_succ_cons, List.take_zero]
   refine Qt.z0b rfl (.pointer (some ⟨g, 3, none⟩)) (fun _ _ => by kernel_rfl) ?_
   refine Qt.z0b rfl (.pointer (some ⟨g, 3, none⟩)) (fun _ _ => by kernel_rfl) ?_
   refine Qt.z0b rfl (.pointer (some ⟨g, 5, none⟩)) (fun _ _ => by kernel_rfl) ?_
   simp only [zD]
   refine z5f rfl _ _ rfl z7e rfl g 5 (.map (some bd)) rfl (aL HM7.out.gate) (z0c HM7.out.gate 5 rfl) ?_
   simp only [zD]
   refine Qt.z7g rfl _ _ rfl _ rfl _ _ _ _ HA7.out Tryz.underlying154 rfl (by kernel_rfl) ?_
   simp only [zD]
   refine Qt.z1a ?_
   simp only [List.drop_succ_cons, List.drop_zero]
   intro w8 hb8
   have HM8 : Hid (Made S w8 g { s with floor := F } bh bd bu lh ld' lu') := HM7.out.congr (fun _ h => h) hb8.block
   have HF8 : Hid (Fr S w.heap.size w w8) := HF7.out.calls hb8 HF7.out.size
   have HR8 : Hid (Ran w8 bd r two two ld' lf) := HR7.out.congr (hb8.block _ HM7.out.id.lt) (hb8.block _ (Ran.lt HR7.out))
   have HP8 : Hid (w8.heap[b5]? = _) := (hb8.block _ (aL HP7.out)).trans HP7.out
   clear hb8 HM7 HF7 HR7 HP7 HA7
   refine x0d _ rfl _ _ _ _ rfl k2h z7e hne.2.2.1 rfl HR8.out c rfl ?_
   intro w9 hR9 ht9
   have HM9 : Hid (Made S w9 g { s with floor := F } bh bd bu lh (del c ld') lu') := HM8.out.held hR9.is ht9
   have HF9 : Hid (Fr S w.heap.size w w9) := HF8.out.turned ht9 HF8.out.size (Or.inl HM8.out.sd)
   have HR9 : Hid (Ran w9 bd r two two (del c ld') lf) := hR9
   have HP9 : Hid (w9.heap[b5]? = _) := (ht9.grown.block b5 (aL HP8.out) (fun e => by injection e with e; omega)).trans HP8.out
   clear hR9 ht9 HM8 HF8 HR8 HP8
   simp only [Act.put]
   refine Ks.done ?_
   refine Qt.z0q 5 (by kernel_rfl) (by kernel_rfl) ?_
   simp only [List.take_succ_cons, List.take_zero]
   refine Qt.z0b rfl (.pointer (some ⟨g, 3, none⟩)) (fun _ _ => by kernel_rfl) ?_
   refine Qt.z0b rfl (.pointer (some ⟨g, 3, none⟩)) (fun _ _ => by kernel_rfl) ?_
   refine Qt.z0b rfl (.pointer (some ⟨g, 6, none⟩)) (fun _ _ => by kernel_rfl) ?_
   simp only [zD]
   refine z5f rfl _ _ rfl x4x rfl g 6 (.map (some bu)) rfl (aL HM9.out.gate) (z0c HM9.out.gate 6 rfl) ?_
   simp only [zD]
   refine Qt.z7g rfl _ _ rfl _ rfl _ _ _ _ HP9.out Tryz.underlying150 rfl (by kernel_rfl) ?_
   simp only [zD]
   refine Qt.z1a ?_
   simp only [List.drop_succ_cons, List.drop_zero]
   intro w10 hb10
   have HM10 : Hid (Made S w10 g { s with floor := F } bh bd bu lh (del c ld') lu') := HM9.out.congr (fun _ h => h) hb10.block
   have HF10 : Hid (Fr S w.heap.size w w10) := HF9.out.calls hb10 HF9.out.size
   have HR10 : Hid (Ran w10 bd r two two (del c ld') lf) := HR9.out.congr (hb10.block _ HM9.out.id.lt) (hb10.block _ (Ran.lt HR9.out))
   clear hb10 HM9 HF9 HR9 HP9
   refine x4y _ rfl _ _ _ _ rfl q3l x4x rfl HM10.out.iu v rfl ?_
   intro w11 hi11 ht11
   have HM11 : Hid (Made S w11 g { s with floor := F } bh bd bu lh (del c ld') (del v lu')) := HM10.out.used hi11 ht11
   have HF11 : Hid (Fr S w.heap.size w w11) := HF10.out.turned ht11 HF10.out.size (Or.inl HM10.out.su)
   have HR11 : Hid (Ran w11 bd r two two (del c ld') lf) := HR10.out.congr (ht11.grown.block _ HM10.out.id.lt (fun e => HM10.out.du (by injection e))) (ht11.grown.block _ (Ran.lt HR10.out) (fun e => hne.2.2.2 (by injection e with e; exact e.symm)))
   clear hi11 ht11 HM10 HF10 HR10
   simp only [Act.put]
   refine Ks.fin ?_
   refine Ks.inb ?_
   refine Hfin.out _ _ _ _ _ rfl HM11.out HR11.out (hlf ▸ HW.out.k6q Hnd.out hcv hlt) HF11.out ?_
   rw [hlf]
   exact Nat.lt_of_le_of_lt (q9g (left := fun x => left x && decide (x ≠ c)) c) (x7f hcv hlc)
  ·intro hlt
   have hlt := of_decide_eq_false hlt
   refine wp_skip ?_
   refine Ks.inb ?_
   refine Hfin.out _ _ _ _ _ rfl HM7.out HR7.out (hlf ▸ HW.out.stay Hnd.out hcv hlt) HF7.out ?_
   rw [hlf]
   exact x7f hcv hlc
theorem x8o {S : Nat → Prop} {w : World} {g : Nat} {s : St} (hS : S g) (hl : s.l = []) (hg : w.heap[g]? = some (.cells (z3h s (.map none) (.map none) (.map none)) 143 (0, 0))) (F : Int) : Calls Tryz.prog 216 #[.pointer (some ⟨g, 3, none⟩), .int .i64 F] w fun e w' => e = .returned (.tuple #[]) ∧ z0h S w' g { s with floor := F, l := s.l.map (z5e F) } ∧ Fr S w.heap.size w w' := by
 have HG0 : Hid _ := hg
 clear hg
 go_enter Tryz.func216, Tryz.ntmps216
 refine wp_seq ?_
 refine Ks.reg ?_
 refine Ks.v (.pointer (some ⟨g, 3, none⟩)) ?_
 simp only [zD]
 refine Ks.v (.int .i64 F) ?_
 simp only [zD]
 refine Ks.v (.pointer (some ⟨g, 3, none⟩)) ?_
 simp only [zD]
 refine Ks.v (.pointer (some ⟨g, 3, none⟩)) ?_
 simp only [zD]
 refine Ks.store rfl _ _ _ rfl g 3 _ rfl rfl HG0.out (by show 3 < 8; omega) (by kernel_rfl) rfl (z3h { s with floor := F } (.map none) (.map none) (.map none)) rfl ?_
 intro w1 HG1 H2 H3 H4
 have HF1 : Hid (Fr S w.heap.size w w1) := H2.out _ _ (Or.inl hS)
 clear HG0 H2 H3 H4
 simp only [Act.put]
 refine Ks.done ?_
 refine wp_seq ?_
 refine Ks.reg ?_
 refine Ks.v (.pointer (some ⟨g, 3, none⟩)) ?_
 simp only [zD]
 refine Ks.v (.pointer (some ⟨g, 3, none⟩)) ?_
 simp only [zD]
 refine Ks.v (.pointer (some ⟨g, 5, none⟩)) ?_
 simp only [zD]
 refine Ks.cell rfl _ _ rfl z7e rfl g 5 (.map none) rfl (z0c HG1.out 5 rfl) ?_
 simp only [zD]
 refine Ks.y7g rfl _ _ rfl z7e rfl ?_
 intro w2 r Hr HR2 HB2
 have HG2 : Hid (w2.heap[g]? = _) := (HB2.out.block g (aL HG1.out)).trans HG1.out
 have HF2 : Hid (Fr S w.heap.size w w2) := HF1.out.calls HB2.out HF1.out.size
 clear HG1 HF1 HB2
 simp only [zD]
 refine Ks.done ?_
 refine wp_block ?_
 refine Ks.loop (fun n a wr => wr = w2 ∧ a = _) 0 ⟨rfl, rfl⟩ ?_
 rintro n a wr ⟨rfl, rfl⟩
 refine wp_seq ?_
 refine Ks.reg ?_
 refine Ks.x1o rfl _ rfl r rfl HR2.out ?_
 simp only [zD]
 refine Ks.v (.bool false) ?_
 simp only [zD]
 refine Ks.done ?_
 refine wp_seq ?_
 refine wp_cond_false rfl ?_
 refine wp_exit ?_
 refine Ks.z3r ?_
 go_end0
 exact ⟨rfl, ⟨hS, _, _, _, HG2.out, Or.inl ⟨rfl, rfl, rfl, by show List.map _ s.l = []; rw [hl]; rfl⟩⟩, HF2.out⟩
theorem k0y {S : Nat → Prop} {w : World} {g : Nat} {s : St} (h : z0h S w g s) (F : Int) : Calls Tryz.prog 216 #[.pointer (some ⟨g, 3, none⟩), .int .i64 F] w fun e w' => ∃ v, e = .returned v ∧ v = .tuple #[] ∧ z0h S w' g { s with floor := F, l := s.l.map (z5e F) } ∧ Fr S w.heap.size w w' := by
 obtain ⟨hS, vh, vd, vu, hg, hm⟩ := h
 rcases hm with ⟨rfl, rfl, rfl, hl⟩ | ⟨bh, bd, bu, lh, ld, lu, rfl, rfl, rfl, s1, s2, s3, n1, n2, n3, h1, h2, h3, H⟩
 ·exact (x8o hS hl hg F).mono fun e w' ⟨h1, h2⟩ => ⟨_, h1, rfl, h2⟩
 ·exact (x4m ⟨hg, s1, s2, s3, n1, n2, n3, h1, h2, h3⟩ hS H F).mono fun e w' ⟨h1, h2⟩ => ⟨_, h1, rfl, h2⟩
end Gt
open Go Go.RowKit
namespace Gt
open Mp Bk
theorem k3h (l : List UInt8) (k : Nat) (hk : k ≤ l.length) (w : World) : (Instr.slice 9 (.string ⟨l.toArray⟩) (some (.int .i64 (k : Int))) none none).run Tryz.prog w = .ok (.string ⟨(l.drop k).toArray⟩) w := by
 rw [run_slice_string_l w 9 ⟨l.toArray⟩ Tryz.underlying9 .i64 (k : Int) (by omega) (by show (k : Int) ≤ (l.length : Int); omega), Int.toNat_natCast, Sw.z7l]
 rw [List.take_of_length_le (by rw [List.length_drop]; exact Nat.le_refl _)]
theorem k3g (l : List UInt8) (k : Nat) (hk : k ≤ l.length) (w : World) : (Instr.slice 9 (.string ⟨l.toArray⟩) none (some (.int .i64 (k : Int))) none).run Tryz.prog w = .ok (.string ⟨(l.take k).toArray⟩) w := by
 rw [run_slice_string_h w 9 ⟨l.toArray⟩ Tryz.underlying9 .i64 (k : Int) (by omega) (by show (k : Int) ≤ (l.length : Int); omega), Int.toNat_natCast, Sw.z7l]
 rfl
theorem q6s {W : World} {K : Act → Prop} {r : List Oper} {o : Oper} {a : Act} (hg : o.guard = none) (x y : Operand) (ho : o.op = .slice 9 x (some y) none none) (l : List UInt8) (k : Nat) (hk : k ≤ l.length) (hx : a.eval x = .string ⟨l.toArray⟩) (hy : a.eval y = .int .i64 (k : Int))
  (h : Qt.Lex Tryz.prog W K r (a.put o.dst (.string ⟨(l.drop k).toArray⟩))) : Qt.Lex Tryz.prog W K (o :: r) a := by
 refine Qt.z0b hg _ (fun w' _ => ?_) h
 unfold execOp
 have hu := run_underlying (P := Tryz.prog) Tryz.underlying9 w'
 simp only [ho, hx, hy, Instr.sliceAt, hu, Option.map_some, Option.map_none, k3h l k hk w', Sem.run_bind, Result.andThen_ok, Sem.run_pure]
theorem k7k {W : World} {K : Act → Prop} {r : List Oper} {o : Oper} {a : Act} (hg : o.guard = none) (x y : Operand) (ho : o.op = .slice 9 x none (some y) none) (l : List UInt8) (k : Nat) (hk : k ≤ l.length) (hx : a.eval x = .string ⟨l.toArray⟩) (hy : a.eval y = .int .i64 (k : Int))
  (h : Qt.Lex Tryz.prog W K r (a.put o.dst (.string ⟨(l.take k).toArray⟩))) : Qt.Lex Tryz.prog W K (o :: r) a := by
 refine Qt.z0b hg _ (fun w' _ => ?_) h
 unfold execOp
 have hu := run_underlying (P := Tryz.prog) Tryz.underlying9 w'
 simp only [ho, hx, hy, Instr.sliceAt, hu, Option.map_some, Option.map_none, k3g l k hk w', Sem.run_bind, Result.andThen_ok, Sem.run_pure]
def x1n (l : List UInt8) (n k : Nat) (f : Nat → Value) : Act := { tmps := #[.string ⟨l.toArray⟩, .int .i64 (n : Int), f 2, f 3, .int .i64 0, .string ⟨#[]⟩, .int .i64 (be (l.take k)), f 7, .int .i64 (n : Int), .int .i64 (k : Int), f 10, f 11, f 12, f 13, f 14, f 15, f 16, f 17, f 18, f 19, f 20, f 21, f 22, f 23], defers := [] }
theorem j3f (x : Nat) (h : x < 4294967296) : IntKind.i64.wrap ((x : Int) * 256) = ((256 * x : Nat) : Int) := by
 rw [IntWalk.i64_in _ ⟨by omega, by omega⟩]
 omega
theorem or8 (x b : Nat) (h : x < 4294967296) (hb : b < 256) : IntKind.i64.wrap ((BitVec.ofInt 64 ((256 * x : Nat) : Int) ||| BitVec.ofInt 64 (b : Int)).toNat : Int) = ((256 * x + b : Nat) : Int) := by
 have e : (BitVec.ofInt 64 ((256 * x : Nat) : Int) ||| BitVec.ofInt 64 (b : Int)).toNat = 256 * x + b := by
  rw [BitVec.toNat_or, BitVec.ofInt_natCast, BitVec.ofInt_natCast, BitVec.toNat_ofNat, BitVec.toNat_ofNat, Nat.mod_eq_of_lt (by omega), Nat.mod_eq_of_lt (by omega)]
  exact (Nat.two_pow_add_eq_or_of_lt (i := 8) hb x).symm
 rw [e, IntWalk.i64_in _ ⟨by omega, by omega⟩]
theorem y0f (l : List UInt8) (n : Nat) (hn : n ≤ l.length) (h4 : n ≤ 4) (w : World) : Calls Tryz.prog 149 #[.string ⟨l.toArray⟩, .int .i64 (n : Int)] w fun e w' => e = .returned (.tuple #[.int .i64 (be (l.take n)), .string ⟨(l.drop n).toArray⟩]) ∧ Below w.heap.size w w' := by
 have hix : ∀ (W : World) (k : Nat) (h : k < l.length), Sem.run Tryz.prog (Instr.index 9 (.string ⟨l.toArray⟩) (.int .i64 (k : Int))) W = .ok (.int .u8 ((l[k]).toNat : Int)) W := fun W k h => Dc.y4s W ⟨l.toArray⟩ k (by exact h) k rfl
 go_enter Tryz.func149, Tryz.ntmps149
 refine wp_seq ?_
 refine Ks.reg ?_
 refine Ks.v (.int .i64 0) ?_
 simp only [zD]
 refine Ks.v (.string ⟨#[]⟩) ?_
 simp only [zD]
 refine Ks.done ?_
 refine wp_seq ?_
 refine Ks.reg ?_
 refine Ks.v (.int .i64 0) ?_
 simp only [zD]
 refine Ks.done ?_
 refine wp_seq ?_
 refine wp_seq ?_
 refine Ks.reg ?_
 refine Ks.v (.int .i64 (n : Int)) ?_
 simp only [zD]
 refine Ks.v (.int .i64 0) ?_
 simp only [zD]
 refine Ks.done ?_
 refine wp_block ?_
 refine Ks.loop (fun m a wr => wr = w ∧ ∃ (k : Nat) (f : Nat → Value), k ≤ n ∧ m = n - k ∧ a = x1n l n k f) n ⟨rfl, 0, fun _ => undef, Nat.zero_le _, rfl, rfl⟩ ?_
 rintro m a wr ⟨rfl, k, f, hk, rfl, rfl⟩
 have fin : ∀ (a' : Act) (k' : Nat), k < k' → k' ≤ n → a' = x1n l n k' (fun j => a'.tmps.getD j undef) → ∃ m, m < n - k ∧ wr = wr ∧ ∃ (k : Nat) (f : Nat → Value), k ≤ n ∧ m = n - k ∧ a' = x1n l n k f := fun a' k' h1 h2 h3 => ⟨n - k', by omega, rfl, k', _, h2, rfl, h3⟩
 unfold x1n
 refine wp_seq ?_
 refine Ks.reg ?_
 refine Ks.v (.bool (decide ((k : Int) < n))) ?_
 simp only [zD]
 refine Ks.done ?_
 refine wp_seq ?_
 refine wp_cond_split rfl ?_ ?_
 ·intro hlt
  have hlt : k < n := by have := of_decide_eq_true hlt; omega
  refine wp_skip ?_
  refine Ks.norm ?_
  refine wp_seq ?_
  refine wp_block ?_
  refine wp_seq ?_
  refine Ks.reg ?_
  refine Ks.v (.int .i64 (k : Int)) ?_
  simp only [zD]
  refine Ks.v (.int .i64 (k : Int)) ?_
  simp only [zD]
  refine Ks.done ?_
  refine Ks.reg ?_
  refine Ks.v (.int .i64 (be (l.take k))) ?_
  simp only [zD]
  have hx : be (l.take k) < 4294967296 := Nat.lt_of_lt_of_le (q7i _) (by
   have : (l.take k).length ≤ 4 := by rw [List.length_take]; omega
   exact Nat.pow_le_pow_right (n := 256) (by omega) this)
  refine Ks.val rfl (.int .i64 ((256 * be (l.take k) : Nat) : Int)) (by simp [execOp, go_sem, ← j3f _ hx]) ?_
  simp only [zD]
  refine Ks.v (.string ⟨l.toArray⟩) ?_
  simp only [zD]
  refine Ks.v (.int .i64 (k : Int)) ?_
  simp only [zD]
  refine Ks.val rfl (.int .u8 ((l[k]'(by omega)).toNat : Int)) (by
   have := hix wr k (by omega)
   simp [execOp, go_sem, this]) ?_
  simp only [zD]
  refine Ks.val rfl (.int .i64 ((l[k]'(by omega)).toNat : Int)) (by
   have hb := (l[k]'(by omega)).toNat_lt
   simp [execOp, go_sem]
   exact IntWalk.i64_in _ ⟨by omega, by omega⟩) ?_
  simp only [zD]
  refine Ks.val rfl (.int .i64 ((be (l.take (k + 1)) : Nat) : Int)) (by
   have hb := (l[k]'(by omega)).toNat_lt
   have h1 := or8 (be (l.take k)) (l[k]'(by omega)).toNat hx (by omega)
   have e : be (l.take (k + 1)) = 256 * be (l.take k) + (l[k]'(by omega)).toNat := by rw [List.take_succ_eq_append_getElem (by omega), q7j]
   rw [e]
   simp [execOp, go_sem]
   exact h1) ?_
  simp only [zD]
  refine Ks.v (.int .i64 ((be (l.take (k + 1)) : Nat) : Int)) ?_
  simp only [zD]
  refine Ks.fin ?_
  refine Ks.inb ?_
  refine Ks.reg ?_
  refine Ks.val rfl (.int .i64 ((k + 1 : Nat) : Int)) (by
   simp [execOp, go_sem]
   rw [IntWalk.i64_in _ ⟨by omega, by omega⟩]) ?_
  simp only [zD]
  refine Ks.v (.int .i64 ((k + 1 : Nat) : Int)) ?_
  simp only [zD]
  refine Ks.done ?_
  exact fin _ (k + 1) (by omega) hlt rfl
 ·intro hlt
  obtain rfl : k = n := by have := of_decide_eq_false hlt; omega
  refine wp_exit ?_
  refine Ks.z3r ?_
  refine Ks.norm ?_
  refine wp_seq ?_
  refine Qt.y2a (by kernel_rfl) (by kernel_rfl) ?_
  refine Qt.z0b rfl (.int .i64 (be (l.take k))) (fun _ _ => by kernel_rfl) ?_
  refine Qt.z0b rfl (.string ⟨l.toArray⟩) (fun _ _ => by kernel_rfl) ?_
  refine Qt.z0b rfl (.int .i64 (k : Int)) (fun _ _ => by kernel_rfl) ?_
  simp only [zD]
  refine q6s rfl _ _ rfl l k hn rfl rfl ?_
  simp only [zD]
  refine Qt.z0b rfl (.int .i64 (be (l.take k))) (fun _ _ => by kernel_rfl) ?_
  refine Qt.z0b rfl (.string ⟨(l.drop k).toArray⟩) (fun _ _ => by kernel_rfl) ?_
  simp only [zD]
  refine Qt.z1a ?_
  intro w2 hb2
  refine Ks.norm ?_
  refine wp_ret ?_
  exact bodyPost_ret (v := .tuple #[.int .i64 (be (l.take k)), .string ⟨(l.drop k).toArray⟩]) (by simp [results, Tryz.results149]) rfl ⟨rfl, hb2⟩
end Gt
open Go Go.RowKit
namespace Gt
open Mp Bk
theorem y0i (l : List UInt8) (c : UInt8) : l.take 1 = [c] ↔ l.head? = some c := by cases l <;> simp
section
variable {ops : Array Oper} {rest : List Oper} {o : Oper} {a : Act} {w : World} {Q : Exit → Act → World → Prop}
theorem x1c (hw : Region.wanted o (yielded ops a.tmps) = true) (x y : Operand) (ho : o.op = .slice 9 x none (some y) none) (l : List UInt8) (k : Nat) (hk : k ≤ l.length) (hx : a.eval x = .string ⟨l.toArray⟩) (hy : a.eval y = .int .i64 (k : Int))
  (h : wpList Tryz.prog ops Q rest (a.put o.dst (.string ⟨(l.take k).toArray⟩)) w) : wpList Tryz.prog ops Q (o :: rest) a w := by
 refine Ks.y8b hw _ ?_ h
 unfold execOp
 have hu := run_underlying (P := Tryz.prog) Tryz.underlying9 w
 simp only [ho, hx, hy, Instr.sliceAt, hu, Option.map_some, Option.map_none, k3g l k hk w, Sem.run_bind, Result.andThen_ok, Sem.run_pure]
theorem q5v (hw : Region.wanted o (yielded ops a.tmps) = true) (x y : Operand) (ho : o.op = .slice 9 x (some y) none none) (l : List UInt8) (k : Nat) (hk : k ≤ l.length) (hx : a.eval x = .string ⟨l.toArray⟩) (hy : a.eval y = .int .i64 (k : Int))
  (h : wpList Tryz.prog ops Q rest (a.put o.dst (.string ⟨(l.drop k).toArray⟩)) w) : wpList Tryz.prog ops Q (o :: rest) a w := by
 refine Ks.y8b hw _ ?_ h
 unfold execOp
 have hu := run_underlying (P := Tryz.prog) Tryz.underlying9 w
 simp only [ho, hx, hy, Instr.sliceAt, hu, Option.map_some, Option.map_none, k3h l k hk w, Sem.run_bind, Result.andThen_ok, Sem.run_pure]
end
theorem y7i (l : List UInt8) (h : l.length ≠ 67 ∨ l.head? ≠ some 67) (w : World) : Calls Tryz.prog 143 #[.string ⟨l.toArray⟩] w fun e w' => e = .returned (.tuple #[.int .i64 0, .bool false]) ∧ Below w.heap.size w w' := by
 go_enter Tryz.func143, Tryz.ntmps143
 refine wp_seq ?_
 refine Ks.reg ?_
 refine Ks.v (.int .i64 0) ?_
 simp only [zD]
 refine Ks.v (.bool false) ?_
 simp only [zD]
 refine Ks.done ?_
 refine wp_seq ?_
 refine wp_seq ?_
 refine Ks.reg ?_
 refine Ks.v (.string ⟨l.toArray⟩) ?_
 simp only [zD]
 refine Ks.v (.int .i64 (l.length : Int)) ?_
 simp only [zD]
 by_cases hl : l.length = 67
 ·have hh := h.resolve_left (fun x => x hl)
  refine Ks.val rfl (.bool false) (by simp [execOp, go_sem, hl]) ?_
  simp only [zD]
  refine Ks.v (.bool false) ?_
  simp only [zD]
  refine Ks.g (.string ⟨l.toArray⟩) ?_
  simp only [zD]
  refine x1c (by kernel_rfl) _ _ rfl l 1 (by omega) rfl rfl ?_
  simp only [zD]
  refine Ks.y8b (by kernel_rfl) (.bool true) (by simp [execOp, go_sem, y0i, hh]) ?_
  simp only [zD]
  refine Ks.v (.bool true) ?_
  simp only [zD]
  refine Ks.done ?_
  refine wp_cond_true rfl ?_
  refine wp_seq ?_
  refine Ks.reg ?_
  refine Ks.v (.int .i64 0) ?_
  simp only [zD]
  refine Ks.v (.bool false) ?_
  simp only [zD]
  refine Ks.done ?_
  refine wp_ret ?_
  repeat (refine Ks.ret ?_)
  refine bodyPost_ret (v := .tuple #[.int .i64 0, .bool false]) (by simp [results, Tryz.results143]) rfl ?_
  exact ⟨rfl, Below.refl _ _⟩
 ·refine Ks.val rfl (.bool true) (by simp [execOp, go_sem]; omega) ?_
  simp only [zD]
  refine Ks.v (.bool true) ?_
  simp only [zD]
  with_reducible refine Ks.n ?_
  simp only [zD]
  with_reducible refine Ks.n ?_
  simp only [zD]
  with_reducible refine Ks.n ?_
  simp only [zD]
  refine Ks.v (.bool true) ?_
  simp only [zD]
  refine Ks.done ?_
  refine wp_cond_true rfl ?_
  refine wp_seq ?_
  refine Ks.reg ?_
  refine Ks.v (.int .i64 0) ?_
  simp only [zD]
  refine Ks.v (.bool false) ?_
  simp only [zD]
  refine Ks.done ?_
  refine wp_ret ?_
  repeat (refine Ks.ret ?_)
  refine bodyPost_ret (v := .tuple #[.int .i64 0, .bool false]) (by simp [results, Tryz.results143]) rfl ?_
  exact ⟨rfl, Below.refl _ _⟩
theorem y4o (l : List UInt8) (hl : l.length = 67) (hh : l.head? = some 67) (w : World) : Calls Tryz.prog 143 #[.string ⟨l.toArray⟩] w fun e w' => e = .returned (.tuple #[.int .i64 (z0g l), .bool true]) ∧ Below w.heap.size w w' := by
 have Hn : Hid (∀ w, Calls Tryz.prog 149 #[.string ⟨(l.drop 1).toArray⟩, .int .i64 2] w fun e w' => e = .returned (.tuple #[.int .i64 (z0g l), .string ⟨(l.drop 3).toArray⟩]) ∧ Below w.heap.size w w') := fun w => by
  have := y0f (l.drop 1) 2 (by rw [List.length_drop]; omega) (by omega) w
  rw [List.drop_drop] at this
  exact this
 go_enter Tryz.func143, Tryz.ntmps143
 refine wp_seq ?_
 refine Ks.reg ?_
 refine Ks.v (.int .i64 0) ?_
 simp only [zD]
 refine Ks.v (.bool false) ?_
 simp only [zD]
 refine Ks.done ?_
 refine wp_seq ?_
 refine wp_seq ?_
 refine Ks.reg ?_
 refine Ks.v (.string ⟨l.toArray⟩) ?_
 simp only [zD]
 refine Ks.v (.int .i64 (l.length : Int)) ?_
 simp only [zD]
 refine Ks.val rfl (.bool false) (by simp [execOp, go_sem, hl]) ?_
 simp only [zD]
 refine Ks.v (.bool false) ?_
 simp only [zD]
 refine Ks.g (.string ⟨l.toArray⟩) ?_
 simp only [zD]
 refine x1c (by kernel_rfl) _ _ rfl l 1 (by omega) rfl rfl ?_
 simp only [zD]
 refine Ks.y8b (by kernel_rfl) (.bool false) (by simp [execOp, go_sem, y0i, hh]) ?_
 simp only [zD]
 refine Ks.v (.bool false) ?_
 simp only [zD]
 refine Ks.done ?_
 refine wp_cond_false rfl ?_
 refine wp_skip ?_
 refine Ks.norm ?_
 refine wp_seq ?_
 refine Ks.reg ?_
 refine Ks.v (.string ⟨l.toArray⟩) ?_
 simp only [zD]
 refine q5v (by kernel_rfl) _ _ rfl l 1 (by omega) rfl rfl ?_
 simp only [zD]
 refine Ks.call rfl 149 #[.string ⟨(l.drop 1).toArray⟩, .int .i64 2] (by kernel_rfl) ((Hn.out w).mono fun e w' h => ⟨_, h.1, rfl, h.2⟩) (R := fun v w' => v = _ ∧ Below w.heap.size w w') ?_
 rintro v w1 ⟨rfl, hb⟩
 simp only [zD]
 refine Ks.v (.tuple #[.int .i64 (z0g l), .string ⟨(l.drop 3).toArray⟩]) ?_
 simp only [zD]
 refine Ks.v (.int .i64 (z0g l)) ?_
 simp only [zD]
 refine Ks.v (.string ⟨(l.drop 3).toArray⟩) ?_
 simp only [zD]
 refine Ks.v (.int .i64 (z0g l)) ?_
 simp only [zD]
 refine Ks.v (.string ⟨(l.drop 3).toArray⟩) ?_
 simp only [zD]
 refine Ks.done ?_
 refine wp_seq ?_
 refine Ks.reg ?_
 refine Ks.v (.int .i64 (z0g l)) ?_
 simp only [zD]
 refine Ks.v (.int .i64 (z0g l)) ?_
 simp only [zD]
 refine Ks.v (.bool true) ?_
 simp only [zD]
 refine Ks.done ?_
 refine wp_ret ?_
 repeat (refine Ks.ret ?_)
 refine bodyPost_ret (v := .tuple #[.int .i64 (z0g l), .bool true]) (by simp [results, Tryz.results143]) rfl ?_
 exact ⟨rfl, hb⟩
end Gt
end Go.Proofs.YtbojijefenfbgaaGreatDoor

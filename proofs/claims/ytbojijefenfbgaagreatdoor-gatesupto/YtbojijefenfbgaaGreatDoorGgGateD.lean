/- Walk of the program's book: Raise. Walks of the program's papers: what a text says. Walks of the program's papers: ReadTicket, ReadOrder, Right. Walks of the program's papers: ReadTicket, Right; whether a gate trusts one. -/
import Derived.Test.YtbojijefenfbgaaGreatDoorGgShort
import Derived.Test.YtbojijefenfbgaaGreatDoorGgGateA
import Derived.Test.YtbojijefenfbgaaGreatDoorGgDocL
import Derived.Test.YtbojijefenfbgaaGreatDoorGgWideE
import Derived.Test.YtbojijefenfbgaaGreatDoorGgSignN
namespace Go.Proofs.YtbojijefenfbgaaGreatDoor
open Go Go.RowKit
namespace Gt
open Mp Bk
theorem Made.ran {S : Nat → Prop} {w w' : World} {g : Nat} {s : St} {bh bd bu : Nat} {lh ld lu} (h : Made S w g s bh bd bu lh ld lu) {r : Nat} (hr : g ≠ r ∧ bh ≠ r ∧ bd ≠ r ∧ bu ≠ r) (hg : w.grownBy w' (some r)) : Made S w' g s bh bd bu lh ld lu := by
 have hw : ∀ k, k < w.heap.size → k ≠ r → w'.heap[k]? = w.heap[k]? := fun k hk hne => hg.block k hk (fun e => hne (by injection e))
 exact ⟨by rw [hw g (Array.getElem?_eq_some_iff.1 h.gate).1 hr.1]; exact h.gate, h.sh, h.sd, h.su, h.hd, h.du, h.hu, h.ih.congr (hw _ h.ih.lt hr.2.1), h.id.congr (hw _ h.id.lt hr.2.2.1), h.iu.congr (hw _ h.iu.lt hr.2.2.2)⟩
theorem Ran.lt {w : World} {b r : Nat} {α β : Type} {ke : α → Value} {ve : β → Value} {l : List (α × β)} {left : α → Bool} (h : Ran w b r ke ve l left) : r < w.heap.size := by
 obtain ⟨_, _, _, _, _, _, hr, _⟩ := h
 exact (Array.getElem?_eq_some_iff.1 hr).1
def rFrame (g : Nat) (F : Int) (r : Nat) (bd : Nat) (f : Nat → Value) : Act := { tmps := #[.pointer (some ⟨g, 3, none⟩), .int .i64 F, f 2, f 3, f 4, f 5, .pointer (some ⟨g, 3, none⟩), .int .i64 F, .pointer (some ⟨g, 3, none⟩), .pointer (some ⟨g, 3, none⟩), .pointer (some ⟨g, 3, none⟩), .pointer (some ⟨g, 3, none⟩), .pointer (some ⟨g, 5, none⟩), .map (some bd), .pointer (some ⟨r, 0, none⟩), f 15, f 16, f 17, f 18, f 19, f 20, f 21, f 22, f 23, f 24, f 25, f 26, f 27, f 28, f 29, f 30, f 31, f 32, f 33], defers := [] }
set_option maxRecDepth 10000 in
theorem raise_some {S : Nat → Prop} {w : World} {g : Nat} {s : St} {bh bd bu : Nat} {lh ld lu} (h : Made S w g s bh bd bu lh ld lu) (hS : S g) (H : Has s.l lh ld lu) (F : Int) : Calls Tryz.prog 216 #[.pointer (some ⟨g, 3, none⟩), .int .i64 F] w fun e w' => e = .returned (.tuple #[]) ∧ PGate S w' g { s with floor := F, l := s.l.map (fade F) } ∧ Fr S w.heap.size w w' := by
 have HM : Hid (Made S w g s bh bd bu lh ld lu) := h
 have HH : Hid (Has s.l lh ld lu) := H
 clear h H
 go_enter Tryz.func216, Tryz.ntmps216
 refine wp_seq ?_
 refine Ks.reg ?_
 refine Ks.v (.pointer (some ⟨g, 3, none⟩)) ?_
 simp only [Act.put, zA, zB, zC]
 refine Ks.v (.int .i64 F) ?_
 simp only [Act.put, zA, zB, zC]
 refine Ks.v (.pointer (some ⟨g, 3, none⟩)) ?_
 simp only [Act.put, zA, zB, zC]
 refine Ks.v (.pointer (some ⟨g, 3, none⟩)) ?_
 simp only [Act.put, zA, zB, zC]
 refine Ks.store rfl _ _ _ rfl g 3 _ rfl rfl HM.out.gate (by show 3 < 8; omega) (by kernel_rfl) rfl (cellsP { s with floor := F } (.map (some bh)) (.map (some bd)) (.map (some bu))) rfl ?_
 intro w1 HG H2 H3 H4
 have HM1 : Hid (Made S w1 g { s with floor := F } bh bd bu lh ld lu) := by
  have hn := HM.out.g_ne
  have h := HM.out
  exact ⟨HG.out, h.sh, h.sd, h.su, h.hd, h.du, h.hu, h.ih.congr (H3.out _ hn.1.symm), h.id.congr (H3.out _ hn.2.1.symm), h.iu.congr (H3.out _ hn.2.2.symm)⟩
 have HF1 : Hid (Fr S w.heap.size w w1) := H2.out _ _ (Or.inl hS)
 clear HM HG H2 H3 H4
 simp only [Act.put]
 refine Ks.done ?_
 refine wp_seq ?_
 refine Ks.reg ?_
 refine Ks.v (.pointer (some ⟨g, 3, none⟩)) ?_
 simp only [Act.put, zA, zB, zC]
 refine Ks.v (.pointer (some ⟨g, 3, none⟩)) ?_
 simp only [Act.put, zA, zB, zC]
 refine Ks.v (.pointer (some ⟨g, 5, none⟩)) ?_
 simp only [Act.put, zA, zB, zC]
 refine Ks.cell rfl _ _ rfl heldT rfl g 5 (.map (some bd)) rfl (row_at HM1.out.gate 5 rfl) ?_
 simp only [Act.put, zA, zB, zC]
 refine wpList_range _ rfl _ _ rfl heldT rfl HM1.out.id ?_
 rintro w2 hr2 ⟨o2, hw2⟩
 obtain ⟨r, hr⟩ : ∃ r, r = w1.heap.size := ⟨_, rfl⟩
 rw [← hr] at hr2 ⊢
 have hbel : Below w1.heap.size w1 w2 := by rw [hw2]; exact (Below.refl _ _).alloc (Nat.le_refl _) _
 have HM2 : Hid (Made S w2 g { s with floor := F } bh bd bu lh ld lu) := HM1.out.congr (fun _ h => h) hbel.block
 have HF2 : Hid (Fr S w.heap.size w w2) := HF1.out.calls hbel HF1.out.size
 have hne : g ≠ r ∧ bh ≠ r ∧ bd ≠ r ∧ bu ≠ r := by
  have h1 := (Array.getElem?_eq_some_iff.1 HM1.out.gate).1
  have h2 := HM1.out.ih.lt
  have h3 := HM1.out.id.lt
  have h4 := HM1.out.iu.lt
  omega
 have hrB : w.heap.size ≤ r := by rw [hr]; exact HF1.out.size
 have Hnd : Hid _ := HM1.out.id.keys
 have HR2 : Hid (Ran w2 bd r two two ld (fun _ => true)) := hr2
 clear hr2 hw2 hr hbel HM1 HF1
 simp only [Act.put, zA, zB, zC]
 refine Ks.done ?_
 refine wp_block ?_
 refine Ks.loop (fun n a wr => ∃ f ld' lu' left, a = rFrame g F r bd f ∧ Made S wr g { s with floor := F } bh bd bu lh ld' lu' ∧ Ran wr bd r two two ld' left ∧ Sweeps F ld ld' lu lu' left ∧ Fr S w.heap.size w wr ∧ n = (ld'.filter fun p => left p.1).length) _ ⟨fun _ => undef, ld, lu, _, rfl, HM2.out, HR2.out, Sweeps.start F ld lu, HF2.out, rfl⟩ ?_
 clear HM2 HR2 HF2 w2 w1
 rintro n a wr ⟨f, ld', lu', left, rfl, hM, hR, hW, hF, rfl⟩
 have fin : ∀ (a' : Act) (w' : World) ld2 lu2 lf2, a' = rFrame g F r bd (fun j => a'.tmps.getD j undef) → Made S w' g { s with floor := F } bh bd bu lh ld2 lu2 → Ran w' bd r two two ld2 lf2 → Sweeps F ld ld2 lu lu2 lf2 → Fr S w.heap.size w w' → (ld2.filter fun p => lf2 p.1).length < (ld'.filter fun p => left p.1).length → ∃ m, m < (ld'.filter fun p => left p.1).length ∧ ∃ f ld' lu' left, a' = rFrame g F r bd f ∧ Made S w' g { s with floor := F } bh bd bu lh ld' lu' ∧ Ran w' bd r two two ld' left ∧ Sweeps F ld ld' lu lu' left ∧ Fr S w.heap.size w w' ∧ m = (ld'.filter fun p => left p.1).length :=
  fun a' w' ld2 lu2 lf2 h1 h2 h3 h4 h5 h6 => ⟨_, h6, _, ld2, lu2, lf2, h1, h2, h3, h4, h5, rfl⟩
 have Hfin : Hid _ := fin
 clear fin
 have HM : Hid _ := hM
 have HR : Hid (Ran wr bd r two two ld' left) := hR
 have HW : Hid _ := hW
 have HF : Hid _ := hF
 clear hM hR hW hF
 unfold rFrame
 refine wp_seq ?_
 refine Ks.reg ?_
 refine wpList_next _ rfl _ rfl two_inj hne.2.2.1 rfl HR.out ?_ ?_
 ·intro hl
  simp only [Act.put, zA, zB, zC]
  refine Ks.v (.bool false) ?_
  simp only [Act.put, zA, zB, zC]
  refine Ks.done ?_
  refine wp_seq ?_
  refine wp_cond_false rfl ?_
  refine wp_exit ?_
  refine Ks.exit2 ?_
  go_end0
  refine ⟨rfl, ?_, HF.out⟩
  exact Made.pgate (s := { s with floor := F, l := s.l.map (fade F) }) ⟨HM.out.gate, HM.out.sh, HM.out.sd, HM.out.su, HM.out.hd, HM.out.du, HM.out.hu, HM.out.ih, HM.out.id, HM.out.iu⟩ hS (HH.out.raise HW.out hl)
 ·intro c v w3 hcv hlc hR3 hg3 hs3 hen
  have HM3 : Hid (Made S w3 g { s with floor := F } bh bd bu lh ld' lu') := HM.out.ran hne hg3
  have HF3 : Hid (Fr S w.heap.size w w3) := HF.out.grown hg3 HF.out.size (fun b e => by injection e with e; subst e; exact Or.inr hrB)
  obtain ⟨lf, hlf⟩ : ∃ l : Int × Int → Bool, l = fun x => left x && decide (x ≠ c) := ⟨_, rfl⟩
  rw [← hlf] at hR3
  have HR3 : Hid (Ran w3 bd r two two ld' lf) := hR3
  clear hR3 hg3 hs3 HM HF HR
  have Hen : Hid _ := hen
  clear hen
  simp only [Act.put, zA, zB, zC]
  refine Ks.v (.bool true) ?_
  simp only [Act.put, zA, zB, zC]
  refine Ks.done ?_
  refine wp_seq ?_
  refine wp_cond_true rfl ?_
  refine wp_skip ?_
  refine Ks.norm ?_
  refine wp_block ?_
  refine wp_seq ?_
  refine Ks.reg ?_
  refine Ks.entry rfl _ rfl r _ rfl Hen.out ?_
  simp only [Act.put, zA, zB, zC]
  refine Ks.v (two c) ?_
  simp only [Act.put, zA, zB, zC]
  refine Ks.v (two v) ?_
  simp only [Act.put, zA, zB, zC]
  refine Ks.alloc rfl _ rfl (.agg #[.int .i64 0, .int .i64 0]) (by kernel_rfl) _ rfl ?_
  intro w4 b4 H1 HA4 H3 H4
  have HM4 : Hid (Made S w4 g { s with floor := F } bh bd bu lh ld' lu') := HM3.out.congr (fun _ h => h) H3.out.block
  have HF4 : Hid (Fr S w.heap.size w w4) := HF3.out.calls H3.out HF3.out.size
  have HR4 : Hid (Ran w4 bd r two two ld' lf) := HR3.out.congr (H3.out.block _ HM3.out.id.lt) (H3.out.block _ (Ran.lt HR3.out))
  have hl4 : w.heap.size ≤ b4 ∧ r < b4 ∧ g < b4 ∧ bd < b4 ∧ bu < b4 ∧ bh < b4 := by
   have e := H1.out
   have h1 := HF3.out.size
   have h2 := Ran.lt HR3.out
   have h3 := (Array.getElem?_eq_some_iff.1 HM3.out.gate).1
   have h4 := HM3.out.ih.lt
   have h5 := HM3.out.id.lt
   have h6 := HM3.out.iu.lt
   omega
  clear H1 H3 H4 HM3 HF3 HR3
  simp only [Act.put, zA, zB, zC]
  refine Ks.alloc rfl _ rfl (.agg #[.int .i64 0, .int .i64 0]) (by kernel_rfl) _ rfl ?_
  intro w5 b5 H1 HP5 H3 H4
  have HM5 : Hid (Made S w5 g { s with floor := F } bh bd bu lh ld' lu') := HM4.out.congr (fun _ h => h) H3.out.block
  have HF5 : Hid (Fr S w.heap.size w w5) := HF4.out.calls H3.out HF4.out.size
  have HR5 : Hid (Ran w5 bd r two two ld' lf) := HR4.out.congr (H3.out.block _ HM4.out.id.lt) (H3.out.block _ (Ran.lt HR4.out))
  have HA5 : Hid (w5.heap[b4]? = _) := (H3.out.block _ (Array.getElem?_eq_some_iff.1 HA4.out).1).trans HA4.out
  have hl5 : b4 < b5 := by
   have e := H1.out
   have h1 := (Array.getElem?_eq_some_iff.1 HA4.out).1
   omega
  clear H1 H3 H4 HM4 HF4 HR4 HA4
  simp only [Act.put, zA, zB, zC]
  refine Ks.whole rfl _ _ _ rfl b4 #[.int .i64 c.1, .int .i64 c.2] rfl rfl HA5.out (by kernel_rfl) rfl (by simp [Value.oneCell']) ?_
  intro w6 HA6 H2 H3 H4
  have HM6 : Hid (Made S w6 g { s with floor := F } bh bd bu lh ld' lu') := by
   have h := HM5.out
   exact ⟨(H3.out _ (by omega)).trans h.gate, h.sh, h.sd, h.su, h.hd, h.du, h.hu, h.ih.congr (H3.out _ (by omega)), h.id.congr (H3.out _ (by omega)), h.iu.congr (H3.out _ (by omega))⟩
  have HF6 : Hid (Fr S w.heap.size w w6) := HF5.out.trans (H2.out _ _ (Or.inr hl4.1))
  have HR6 : Hid (Ran w6 bd r two two ld' lf) := HR5.out.congr (H3.out _ (by omega)) (H3.out _ (by omega))
  have HP6 : Hid (w6.heap[b5]? = _) := (H3.out _ (by omega)).trans HP5.out
  clear H2 H3 H4 HM5 HF5 HR5 HA5 HP5
  simp only [Act.put]
  refine Ks.whole rfl _ _ _ rfl b5 #[.int .i64 v.1, .int .i64 v.2] rfl rfl HP6.out (by kernel_rfl) rfl (by simp [Value.oneCell']) ?_
  intro w7 HP7 H2 H3 H4
  have HM7 : Hid (Made S w7 g { s with floor := F } bh bd bu lh ld' lu') := by
   have h := HM6.out
   exact ⟨(H3.out _ (by omega)).trans h.gate, h.sh, h.sd, h.su, h.hd, h.du, h.hu, h.ih.congr (H3.out _ (by omega)), h.id.congr (H3.out _ (by omega)), h.iu.congr (H3.out _ (by omega))⟩
  have HF7 : Hid (Fr S w.heap.size w w7) := HF6.out.trans (H2.out _ _ (Or.inr (by omega)))
  have HR7 : Hid (Ran w7 bd r two two ld' lf) := HR6.out.congr (H3.out _ (by omega)) (H3.out _ (by omega))
  have HA7 : Hid (w7.heap[b4]? = _) := (H3.out _ (by omega)).trans HA6.out
  clear H2 H3 H4 HM6 HF6 HR6 HP6 HA6
  simp only [Act.put]
  refine Ks.done ?_
  refine wp_seq ?_
  refine Ks.reg ?_
  refine Ks.v (.pointer (some ⟨b5, 0, none⟩)) ?_
  simp only [Act.put, zA, zB, zC]
  refine Ks.cell rfl _ _ rfl Tryz.underlying3 rfl b5 0 (.int .i64 v.1) rfl (row_at HP7.out 0 rfl) ?_
  simp only [Act.put, zA, zB, zC]
  refine Ks.v (.int .i64 F) ?_
  simp only [Act.put, zA, zB, zC]
  refine Ks.v (.bool (decide (v.1 < F))) ?_
  simp only [Act.put, zA, zB, zC]
  refine Ks.done ?_
  refine wp_cond_split rfl ?_ ?_
  ·intro hlt
   have hlt := of_decide_eq_true hlt
   refine wp_seq ?_
   refine Qt.wp_tail 5 (by kernel_rfl) (by kernel_rfl) ?_
   simp only [List.take_succ_cons, List.take_zero]
   refine Qt.y_val rfl (.pointer (some ⟨g, 3, none⟩)) (fun _ _ => by kernel_rfl) ?_
   refine Qt.y_val rfl (.pointer (some ⟨g, 3, none⟩)) (fun _ _ => by kernel_rfl) ?_
   refine Qt.y_val rfl (.pointer (some ⟨g, 5, none⟩)) (fun _ _ => by kernel_rfl) ?_
   simp only [Act.put, zA, zB, zC]
   refine y_cell rfl _ _ rfl heldT rfl g 5 (.map (some bd)) rfl (Array.getElem?_eq_some_iff.1 HM7.out.gate).1 (row_at HM7.out.gate 5 rfl) ?_
   simp only [Act.put, zA, zB, zC]
   refine Qt.y_row rfl _ _ rfl _ rfl _ _ _ _ HA7.out Tryz.underlying154 rfl (by kernel_rfl) ?_
   simp only [Act.put, zA, zB, zC]
   refine Qt.y_nil ?_
   simp only [List.drop_succ_cons, List.drop_zero]
   intro w8 hb8
   have HM8 : Hid (Made S w8 g { s with floor := F } bh bd bu lh ld' lu') := HM7.out.congr (fun _ h => h) hb8.block
   have HF8 : Hid (Fr S w.heap.size w w8) := HF7.out.calls hb8 HF7.out.size
   have HR8 : Hid (Ran w8 bd r two two ld' lf) := HR7.out.congr (hb8.block _ HM7.out.id.lt) (hb8.block _ (Ran.lt HR7.out))
   have HP8 : Hid (w8.heap[b5]? = _) := (hb8.block _ (Array.getElem?_eq_some_iff.1 HP7.out).1).trans HP7.out
   clear hb8 HM7 HF7 HR7 HP7 HA7
   refine wpList_delr _ rfl _ _ _ _ rfl admP heldT hne.2.2.1 rfl HR8.out c rfl ?_
   intro w9 hR9 ht9
   have HM9 : Hid (Made S w9 g { s with floor := F } bh bd bu lh (del c ld') lu') := HM8.out.held hR9.is ht9
   have HF9 : Hid (Fr S w.heap.size w w9) := HF8.out.turned ht9 HF8.out.size (Or.inl HM8.out.sd)
   have HR9 : Hid (Ran w9 bd r two two (del c ld') lf) := hR9
   have HP9 : Hid (w9.heap[b5]? = _) := (ht9.grown.block b5 (Array.getElem?_eq_some_iff.1 HP8.out).1 (fun e => by injection e with e; omega)).trans HP8.out
   clear hR9 ht9 HM8 HF8 HR8 HP8
   simp only [Act.put]
   refine Ks.done ?_
   refine Qt.wp_tail 5 (by kernel_rfl) (by kernel_rfl) ?_
   simp only [List.take_succ_cons, List.take_zero]
   refine Qt.y_val rfl (.pointer (some ⟨g, 3, none⟩)) (fun _ _ => by kernel_rfl) ?_
   refine Qt.y_val rfl (.pointer (some ⟨g, 3, none⟩)) (fun _ _ => by kernel_rfl) ?_
   refine Qt.y_val rfl (.pointer (some ⟨g, 6, none⟩)) (fun _ _ => by kernel_rfl) ?_
   simp only [Act.put, zA, zB, zC]
   refine y_cell rfl _ _ rfl usedT rfl g 6 (.map (some bu)) rfl (Array.getElem?_eq_some_iff.1 HM9.out.gate).1 (row_at HM9.out.gate 6 rfl) ?_
   simp only [Act.put, zA, zB, zC]
   refine Qt.y_row rfl _ _ rfl _ rfl _ _ _ _ HP9.out Tryz.underlying150 rfl (by kernel_rfl) ?_
   simp only [Act.put, zA, zB, zC]
   refine Qt.y_nil ?_
   simp only [List.drop_succ_cons, List.drop_zero]
   intro w10 hb10
   have HM10 : Hid (Made S w10 g { s with floor := F } bh bd bu lh (del c ld') lu') := HM9.out.congr (fun _ h => h) hb10.block
   have HF10 : Hid (Fr S w.heap.size w w10) := HF9.out.calls hb10 HF9.out.size
   have HR10 : Hid (Ran w10 bd r two two (del c ld') lf) := HR9.out.congr (hb10.block _ HM9.out.id.lt) (hb10.block _ (Ran.lt HR9.out))
   clear hb10 HM9 HF9 HR9 HP9
   refine wpList_del _ rfl _ _ _ _ rfl passP usedT rfl HM10.out.iu v rfl ?_
   intro w11 hi11 ht11
   have HM11 : Hid (Made S w11 g { s with floor := F } bh bd bu lh (del c ld') (del v lu')) := HM10.out.used hi11 ht11
   have HF11 : Hid (Fr S w.heap.size w w11) := HF10.out.turned ht11 HF10.out.size (Or.inl HM10.out.su)
   have HR11 : Hid (Ran w11 bd r two two (del c ld') lf) := HR10.out.congr (ht11.grown.block _ HM10.out.id.lt (fun e => HM10.out.du (by injection e))) (ht11.grown.block _ (Ran.lt HR10.out) (fun e => hne.2.2.2 (by injection e with e; exact e.symm)))
   clear hi11 ht11 HM10 HF10 HR10
   simp only [Act.put]
   refine Ks.fin ?_
   refine Ks.inb ?_
   refine Hfin.out _ _ _ _ _ rfl HM11.out HR11.out (hlf ▸ HW.out.strike Hnd.out hcv hlt) HF11.out ?_
   rw [hlf]
   exact Nat.lt_of_le_of_lt (left_le (left := fun x => left x && decide (x ≠ c)) c) (left_lt hcv hlc)
  ·intro hlt
   have hlt := of_decide_eq_false hlt
   refine wp_skip ?_
   refine Ks.inb ?_
   refine Hfin.out _ _ _ _ _ rfl HM7.out HR7.out (hlf ▸ HW.out.stay Hnd.out hcv hlt) HF7.out ?_
   rw [hlf]
   exact left_lt hcv hlc
set_option maxRecDepth 10000 in
theorem raise_nil {S : Nat → Prop} {w : World} {g : Nat} {s : St} (hS : S g) (hl : s.l = []) (hg : w.heap[g]? = some (.cells (cellsP s (.map none) (.map none) (.map none)) 143 (0, 0))) (F : Int) : Calls Tryz.prog 216 #[.pointer (some ⟨g, 3, none⟩), .int .i64 F] w fun e w' => e = .returned (.tuple #[]) ∧ PGate S w' g { s with floor := F, l := s.l.map (fade F) } ∧ Fr S w.heap.size w w' := by
 have HG0 : Hid _ := hg
 clear hg
 go_enter Tryz.func216, Tryz.ntmps216
 refine wp_seq ?_
 refine Ks.reg ?_
 refine Ks.v (.pointer (some ⟨g, 3, none⟩)) ?_
 simp only [Act.put, zA, zB, zC]
 refine Ks.v (.int .i64 F) ?_
 simp only [Act.put, zA, zB, zC]
 refine Ks.v (.pointer (some ⟨g, 3, none⟩)) ?_
 simp only [Act.put, zA, zB, zC]
 refine Ks.v (.pointer (some ⟨g, 3, none⟩)) ?_
 simp only [Act.put, zA, zB, zC]
 refine Ks.store rfl _ _ _ rfl g 3 _ rfl rfl HG0.out (by show 3 < 8; omega) (by kernel_rfl) rfl (cellsP { s with floor := F } (.map none) (.map none) (.map none)) rfl ?_
 intro w1 HG1 H2 H3 H4
 have HF1 : Hid (Fr S w.heap.size w w1) := H2.out _ _ (Or.inl hS)
 clear HG0 H2 H3 H4
 simp only [Act.put]
 refine Ks.done ?_
 refine wp_seq ?_
 refine Ks.reg ?_
 refine Ks.v (.pointer (some ⟨g, 3, none⟩)) ?_
 simp only [Act.put, zA, zB, zC]
 refine Ks.v (.pointer (some ⟨g, 3, none⟩)) ?_
 simp only [Act.put, zA, zB, zC]
 refine Ks.v (.pointer (some ⟨g, 5, none⟩)) ?_
 simp only [Act.put, zA, zB, zC]
 refine Ks.cell rfl _ _ rfl heldT rfl g 5 (.map none) rfl (row_at HG1.out 5 rfl) ?_
 simp only [Act.put, zA, zB, zC]
 refine Ks.range_nil rfl _ _ rfl heldT rfl ?_
 intro w2 r Hr HR2 HB2
 have HG2 : Hid (w2.heap[g]? = _) := (HB2.out.block g (Array.getElem?_eq_some_iff.1 HG1.out).1).trans HG1.out
 have HF2 : Hid (Fr S w.heap.size w w2) := HF1.out.calls HB2.out HF1.out.size
 clear HG1 HF1 HB2
 simp only [Act.put, zA, zB, zC]
 refine Ks.done ?_
 refine wp_block ?_
 refine Ks.loop (fun n a wr => wr = w2 ∧ a = _) 0 ⟨rfl, rfl⟩ ?_
 rintro n a wr ⟨rfl, rfl⟩
 refine wp_seq ?_
 refine Ks.reg ?_
 refine Ks.next_nil rfl _ rfl r rfl HR2.out ?_
 simp only [Act.put, zA, zB, zC]
 refine Ks.v (.bool false) ?_
 simp only [Act.put, zA, zB, zC]
 refine Ks.done ?_
 refine wp_seq ?_
 refine wp_cond_false rfl ?_
 refine wp_exit ?_
 refine Ks.exit2 ?_
 go_end0
 exact ⟨rfl, ⟨hS, _, _, _, HG2.out, Or.inl ⟨rfl, rfl, rfl, by show List.map _ s.l = []; rw [hl]; rfl⟩⟩, HF2.out⟩
theorem raise_b {S : Nat → Prop} {w : World} {g : Nat} {s : St} (h : PGate S w g s) (F : Int) : Calls Tryz.prog 216 #[.pointer (some ⟨g, 3, none⟩), .int .i64 F] w fun e w' => ∃ v, e = .returned v ∧ v = .tuple #[] ∧ PGate S w' g { s with floor := F, l := s.l.map (fade F) } ∧ Fr S w.heap.size w w' := by
 obtain ⟨hS, vh, vd, vu, hg, hm⟩ := h
 rcases hm with ⟨rfl, rfl, rfl, hl⟩ | ⟨bh, bd, bu, lh, ld, lu, rfl, rfl, rfl, s1, s2, s3, n1, n2, n3, h1, h2, h3, H⟩
 ·exact (raise_nil hS hl hg F).mono fun e w' ⟨h1, h2⟩ => ⟨_, h1, rfl, h2⟩
 ·exact (raise_some ⟨hg, s1, s2, s3, n1, n2, n3, h1, h2, h3⟩ hS H F).mono fun e w' ⟨h1, h2⟩ => ⟨_, h1, rfl, h2⟩
end Gt
end Go.Proofs.YtbojijefenfbgaaGreatDoor
namespace Go.Proofs.YtbojijefenfbgaaGreatDoor
open Go Go.RowKit
namespace Gt
open Mp Bk
theorem cut_l (l : List UInt8) (k : Nat) (hk : k ≤ l.length) (w : World) : (Instr.slice 9 (.string ⟨l.toArray⟩) (some (.int .i64 (k : Int))) none none).run Tryz.prog w = .ok (.string ⟨(l.drop k).toArray⟩) w := by
 rw [run_slice_string_l w 9 ⟨l.toArray⟩ Tryz.underlying9 .i64 (k : Int) (by omega) (by show (k : Int) ≤ (l.length : Int); omega), Int.toNat_natCast, Sw.ext_str]
 rw [List.take_of_length_le (by rw [List.length_drop]; exact Nat.le_refl _)]
theorem cut_h (l : List UInt8) (k : Nat) (hk : k ≤ l.length) (w : World) : (Instr.slice 9 (.string ⟨l.toArray⟩) none (some (.int .i64 (k : Int))) none).run Tryz.prog w = .ok (.string ⟨(l.take k).toArray⟩) w := by
 rw [run_slice_string_h w 9 ⟨l.toArray⟩ Tryz.underlying9 .i64 (k : Int) (by omega) (by show (k : Int) ≤ (l.length : Int); omega), Int.toNat_natCast, Sw.ext_str]
 rfl
theorem y_cutl {W : World} {K : Act → Prop} {r : List Oper} {o : Oper} {a : Act} (hg : o.guard = none) (x y : Operand) (ho : o.op = .slice 9 x (some y) none none) (l : List UInt8) (k : Nat) (hk : k ≤ l.length) (hx : a.eval x = .string ⟨l.toArray⟩) (hy : a.eval y = .int .i64 (k : Int))
  (h : Qt.Lex Tryz.prog W K r (a.put o.dst (.string ⟨(l.drop k).toArray⟩))) : Qt.Lex Tryz.prog W K (o :: r) a := by
 refine Qt.y_val hg _ (fun w' _ => ?_) h
 unfold execOp
 have hu := run_underlying (P := Tryz.prog) Tryz.underlying9 w'
 simp only [ho, hx, hy, Instr.sliceAt, hu, Option.map_some, Option.map_none, cut_l l k hk w', Sem.run_bind, Result.andThen_ok, Sem.run_pure]
theorem y_cuth {W : World} {K : Act → Prop} {r : List Oper} {o : Oper} {a : Act} (hg : o.guard = none) (x y : Operand) (ho : o.op = .slice 9 x none (some y) none) (l : List UInt8) (k : Nat) (hk : k ≤ l.length) (hx : a.eval x = .string ⟨l.toArray⟩) (hy : a.eval y = .int .i64 (k : Int))
  (h : Qt.Lex Tryz.prog W K r (a.put o.dst (.string ⟨(l.take k).toArray⟩))) : Qt.Lex Tryz.prog W K (o :: r) a := by
 refine Qt.y_val hg _ (fun w' _ => ?_) h
 unfold execOp
 have hu := run_underlying (P := Tryz.prog) Tryz.underlying9 w'
 simp only [ho, hx, hy, Instr.sliceAt, hu, Option.map_some, Option.map_none, cut_h l k hk w', Sem.run_bind, Result.andThen_ok, Sem.run_pure]
def nFrame (l : List UInt8) (n k : Nat) (f : Nat → Value) : Act := { tmps := #[.string ⟨l.toArray⟩, .int .i64 (n : Int), f 2, f 3, .int .i64 0, .string ⟨#[]⟩, .int .i64 (be (l.take k)), f 7, .int .i64 (n : Int), .int .i64 (k : Int), f 10, f 11, f 12, f 13, f 14, f 15, f 16, f 17, f 18, f 19, f 20, f 21, f 22, f 23], defers := [] }
theorem shl8 (x : Nat) (h : x < 4294967296) : IntKind.i64.wrap ((x : Int) * 256) = ((256 * x : Nat) : Int) := by
 rw [IntWalk.i64_in _ ⟨by omega, by omega⟩]
 omega
theorem or8 (x b : Nat) (h : x < 4294967296) (hb : b < 256) : IntKind.i64.wrap ((BitVec.ofInt 64 ((256 * x : Nat) : Int) ||| BitVec.ofInt 64 (b : Int)).toNat : Int) = ((256 * x + b : Nat) : Int) := by
 have e : (BitVec.ofInt 64 ((256 * x : Nat) : Int) ||| BitVec.ofInt 64 (b : Int)).toNat = 256 * x + b := by
  rw [BitVec.toNat_or, BitVec.ofInt_natCast, BitVec.ofInt_natCast, BitVec.toNat_ofNat, BitVec.toNat_ofNat, Nat.mod_eq_of_lt (by omega), Nat.mod_eq_of_lt (by omega)]
  exact (Nat.two_pow_add_eq_or_of_lt (i := 8) hb x).symm
 rw [e, IntWalk.i64_in _ ⟨by omega, by omega⟩]
theorem number_p (l : List UInt8) (n : Nat) (hn : n ≤ l.length) (h4 : n ≤ 4) (w : World) : Calls Tryz.prog 149 #[.string ⟨l.toArray⟩, .int .i64 (n : Int)] w fun e w' => e = .returned (.tuple #[.int .i64 (be (l.take n)), .string ⟨(l.drop n).toArray⟩]) ∧ Below w.heap.size w w' := by
 have hix : ∀ (W : World) (k : Nat) (h : k < l.length), Sem.run Tryz.prog (Instr.index 9 (.string ⟨l.toArray⟩) (.int .i64 (k : Int))) W = .ok (.int .u8 ((l[k]).toNat : Int)) W := fun W k h => Dc.run_index_str W ⟨l.toArray⟩ k (by exact h) k rfl
 go_enter Tryz.func149, Tryz.ntmps149
 refine wp_seq ?_
 refine Ks.reg ?_
 refine Ks.v (.int .i64 0) ?_
 simp only [Act.put, zA, zB, zC]
 refine Ks.v (.string ⟨#[]⟩) ?_
 simp only [Act.put, zA, zB, zC]
 refine Ks.done ?_
 refine wp_seq ?_
 refine Ks.reg ?_
 refine Ks.v (.int .i64 0) ?_
 simp only [Act.put, zA, zB, zC]
 refine Ks.done ?_
 refine wp_seq ?_
 refine wp_seq ?_
 refine Ks.reg ?_
 refine Ks.v (.int .i64 (n : Int)) ?_
 simp only [Act.put, zA, zB, zC]
 refine Ks.v (.int .i64 0) ?_
 simp only [Act.put, zA, zB, zC]
 refine Ks.done ?_
 refine wp_block ?_
 refine Ks.loop (fun m a wr => wr = w ∧ ∃ (k : Nat) (f : Nat → Value), k ≤ n ∧ m = n - k ∧ a = nFrame l n k f) n ⟨rfl, 0, fun _ => undef, Nat.zero_le _, rfl, rfl⟩ ?_
 rintro m a wr ⟨rfl, k, f, hk, rfl, rfl⟩
 have fin : ∀ (a' : Act) (k' : Nat), k < k' → k' ≤ n → a' = nFrame l n k' (fun j => a'.tmps.getD j undef) → ∃ m, m < n - k ∧ wr = wr ∧ ∃ (k : Nat) (f : Nat → Value), k ≤ n ∧ m = n - k ∧ a' = nFrame l n k f := fun a' k' h1 h2 h3 => ⟨n - k', by omega, rfl, k', _, h2, rfl, h3⟩
 unfold nFrame
 refine wp_seq ?_
 refine Ks.reg ?_
 refine Ks.v (.bool (decide ((k : Int) < n))) ?_
 simp only [Act.put, zA, zB, zC]
 refine Ks.done ?_
 refine wp_seq ?_
 refine wp_cond_split rfl ?_ ?_
 ·intro hlt
  have hlt : k < n := by have := of_decide_eq_true hlt; omega
  refine wp_skip ?_
  refine Ks.norm ?_
  refine wp_seq ?_
  refine wp_block ?_
  refine wp_seq ?_
  refine Ks.reg ?_
  refine Ks.v (.int .i64 (k : Int)) ?_
  simp only [Act.put, zA, zB, zC]
  refine Ks.v (.int .i64 (k : Int)) ?_
  simp only [Act.put, zA, zB, zC]
  refine Ks.done ?_
  refine Ks.reg ?_
  refine Ks.v (.int .i64 (be (l.take k))) ?_
  simp only [Act.put, zA, zB, zC]
  have hx : be (l.take k) < 4294967296 := Nat.lt_of_lt_of_le (be_lt _) (by
   have : (l.take k).length ≤ 4 := by rw [List.length_take]; omega
   exact Nat.pow_le_pow_right (n := 256) (by omega) this)
  refine Ks.val rfl (.int .i64 ((256 * be (l.take k) : Nat) : Int)) (by simp [execOp, go_sem, ← shl8 _ hx]) ?_
  simp only [Act.put, zA, zB, zC]
  refine Ks.v (.string ⟨l.toArray⟩) ?_
  simp only [Act.put, zA, zB, zC]
  refine Ks.v (.int .i64 (k : Int)) ?_
  simp only [Act.put, zA, zB, zC]
  refine Ks.val rfl (.int .u8 ((l[k]'(by omega)).toNat : Int)) (by
   have := hix wr k (by omega)
   simp [execOp, go_sem, this]) ?_
  simp only [Act.put, zA, zB, zC]
  refine Ks.val rfl (.int .i64 ((l[k]'(by omega)).toNat : Int)) (by
   have hb := (l[k]'(by omega)).toNat_lt
   simp [execOp, go_sem]
   exact IntWalk.i64_in _ ⟨by omega, by omega⟩) ?_
  simp only [Act.put, zA, zB, zC]
  refine Ks.val rfl (.int .i64 ((be (l.take (k + 1)) : Nat) : Int)) (by
   have hb := (l[k]'(by omega)).toNat_lt
   have h1 := or8 (be (l.take k)) (l[k]'(by omega)).toNat hx (by omega)
   have e : be (l.take (k + 1)) = 256 * be (l.take k) + (l[k]'(by omega)).toNat := by rw [List.take_succ_eq_append_getElem (by omega), be_snoc]
   rw [e]
   simp [execOp, go_sem]
   exact h1) ?_
  simp only [Act.put, zA, zB, zC]
  refine Ks.v (.int .i64 ((be (l.take (k + 1)) : Nat) : Int)) ?_
  simp only [Act.put, zA, zB, zC]
  refine Ks.fin ?_
  refine Ks.inb ?_
  refine Ks.reg ?_
  refine Ks.val rfl (.int .i64 ((k + 1 : Nat) : Int)) (by
   simp [execOp, go_sem]
   rw [IntWalk.i64_in _ ⟨by omega, by omega⟩]) ?_
  simp only [Act.put, zA, zB, zC]
  refine Ks.v (.int .i64 ((k + 1 : Nat) : Int)) ?_
  simp only [Act.put, zA, zB, zC]
  refine Ks.done ?_
  exact fin _ (k + 1) (by omega) hlt rfl
 ·intro hlt
  obtain rfl : k = n := by have := of_decide_eq_false hlt; omega
  refine wp_exit ?_
  refine Ks.exit2 ?_
  refine Ks.norm ?_
  refine wp_seq ?_
  refine Qt.wp_all (by kernel_rfl) (by kernel_rfl) ?_
  refine Qt.y_val rfl (.int .i64 (be (l.take k))) (fun _ _ => by kernel_rfl) ?_
  refine Qt.y_val rfl (.string ⟨l.toArray⟩) (fun _ _ => by kernel_rfl) ?_
  refine Qt.y_val rfl (.int .i64 (k : Int)) (fun _ _ => by kernel_rfl) ?_
  simp only [Act.put, zA, zB, zC]
  refine y_cutl rfl _ _ rfl l k hn rfl rfl ?_
  simp only [Act.put, zA, zB, zC]
  refine Qt.y_val rfl (.int .i64 (be (l.take k))) (fun _ _ => by kernel_rfl) ?_
  refine Qt.y_val rfl (.string ⟨(l.drop k).toArray⟩) (fun _ _ => by kernel_rfl) ?_
  simp only [Act.put, zA, zB, zC]
  refine Qt.y_nil ?_
  intro w2 hb2
  refine Ks.norm ?_
  refine wp_ret ?_
  exact bodyPost_ret (v := .tuple #[.int .i64 (be (l.take k)), .string ⟨(l.drop k).toArray⟩]) (by simp [results, Tryz.results149]) rfl ⟨rfl, hb2⟩
end Gt
end Go.Proofs.YtbojijefenfbgaaGreatDoor
namespace Go.Proofs.YtbojijefenfbgaaGreatDoor
open Go Go.RowKit
namespace Gt
open Mp Bk
theorem take1_eq (l : List UInt8) (c : UInt8) : l.take 1 = [c] ↔ l.head? = some c := by cases l <;> simp
section
variable {ops : Array Oper} {rest : List Oper} {o : Oper} {a : Act} {w : World} {Q : Exit → Act → World → Prop}
theorem k_cuth (hw : Region.wanted o (yielded ops a.tmps) = true) (x y : Operand) (ho : o.op = .slice 9 x none (some y) none) (l : List UInt8) (k : Nat) (hk : k ≤ l.length) (hx : a.eval x = .string ⟨l.toArray⟩) (hy : a.eval y = .int .i64 (k : Int))
  (h : wpList Tryz.prog ops Q rest (a.put o.dst (.string ⟨(l.take k).toArray⟩)) w) : wpList Tryz.prog ops Q (o :: rest) a w := by
 refine Ks.valg hw _ ?_ h
 unfold execOp
 have hu := run_underlying (P := Tryz.prog) Tryz.underlying9 w
 simp only [ho, hx, hy, Instr.sliceAt, hu, Option.map_some, Option.map_none, cut_h l k hk w, Sem.run_bind, Result.andThen_ok, Sem.run_pure]
theorem k_cutl (hw : Region.wanted o (yielded ops a.tmps) = true) (x y : Operand) (ho : o.op = .slice 9 x (some y) none none) (l : List UInt8) (k : Nat) (hk : k ≤ l.length) (hx : a.eval x = .string ⟨l.toArray⟩) (hy : a.eval y = .int .i64 (k : Int))
  (h : wpList Tryz.prog ops Q rest (a.put o.dst (.string ⟨(l.drop k).toArray⟩)) w) : wpList Tryz.prog ops Q (o :: rest) a w := by
 refine Ks.valg hw _ ?_ h
 unfold execOp
 have hu := run_underlying (P := Tryz.prog) Tryz.underlying9 w
 simp only [ho, hx, hy, Instr.sliceAt, hu, Option.map_some, Option.map_none, cut_l l k hk w, Sem.run_bind, Result.andThen_ok, Sem.run_pure]
end
set_option maxRecDepth 10000 in
theorem readOrder_no (l : List UInt8) (h : l.length ≠ 67 ∨ l.head? ≠ some 67) (w : World) : Calls Tryz.prog 143 #[.string ⟨l.toArray⟩] w fun e w' => e = .returned (.tuple #[.int .i64 0, .bool false]) ∧ Below w.heap.size w w' := by
 go_enter Tryz.func143, Tryz.ntmps143
 refine wp_seq ?_
 refine Ks.reg ?_
 refine Ks.v (.int .i64 0) ?_
 simp only [Act.put, zA, zB, zC]
 refine Ks.v (.bool false) ?_
 simp only [Act.put, zA, zB, zC]
 refine Ks.done ?_
 refine wp_seq ?_
 refine wp_seq ?_
 refine Ks.reg ?_
 refine Ks.v (.string ⟨l.toArray⟩) ?_
 simp only [Act.put, zA, zB, zC]
 refine Ks.v (.int .i64 (l.length : Int)) ?_
 simp only [Act.put, zA, zB, zC]
 by_cases hl : l.length = 67
 ·have hh := h.resolve_left (fun x => x hl)
  refine Ks.val rfl (.bool false) (by simp [execOp, go_sem, hl]) ?_
  simp only [Act.put, zA, zB, zC]
  refine Ks.v (.bool false) ?_
  simp only [Act.put, zA, zB, zC]
  refine Ks.valg (by kernel_rfl) (.string ⟨l.toArray⟩) (by kernel_rfl) ?_
  simp only [Act.put, zA, zB, zC]
  refine k_cuth (by kernel_rfl) _ _ rfl l 1 (by omega) rfl rfl ?_
  simp only [Act.put, zA, zB, zC]
  refine Ks.valg (by kernel_rfl) (.bool true) (by simp [execOp, go_sem, take1_eq, hh]) ?_
  simp only [Act.put, zA, zB, zC]
  refine Ks.v (.bool true) ?_
  simp only [Act.put, zA, zB, zC]
  refine Ks.done ?_
  refine wp_cond_true rfl ?_
  refine wp_seq ?_
  refine Ks.reg ?_
  refine Ks.v (.int .i64 0) ?_
  simp only [Act.put, zA, zB, zC]
  refine Ks.v (.bool false) ?_
  simp only [Act.put, zA, zB, zC]
  refine Ks.done ?_
  refine wp_ret ?_
  repeat (refine Ks.ret ?_)
  refine bodyPost_ret (v := .tuple #[.int .i64 0, .bool false]) (by simp [results, Tryz.results143]) rfl ?_
  exact ⟨rfl, Below.refl _ _⟩
 ·refine Ks.val rfl (.bool true) (by simp [execOp, go_sem]; omega) ?_
  simp only [Act.put, zA, zB, zC]
  refine Ks.v (.bool true) ?_
  simp only [Act.put, zA, zB, zC]
  with_reducible refine Ks.off (by kernel_rfl) ?_
  simp only [Act.put, zA, zB, zC]
  with_reducible refine Ks.off (by kernel_rfl) ?_
  simp only [Act.put, zA, zB, zC]
  with_reducible refine Ks.off (by kernel_rfl) ?_
  simp only [Act.put, zA, zB, zC]
  refine Ks.v (.bool true) ?_
  simp only [Act.put, zA, zB, zC]
  refine Ks.done ?_
  refine wp_cond_true rfl ?_
  refine wp_seq ?_
  refine Ks.reg ?_
  refine Ks.v (.int .i64 0) ?_
  simp only [Act.put, zA, zB, zC]
  refine Ks.v (.bool false) ?_
  simp only [Act.put, zA, zB, zC]
  refine Ks.done ?_
  refine wp_ret ?_
  repeat (refine Ks.ret ?_)
  refine bodyPost_ret (v := .tuple #[.int .i64 0, .bool false]) (by simp [results, Tryz.results143]) rfl ?_
  exact ⟨rfl, Below.refl _ _⟩
set_option maxRecDepth 10000 in
theorem readOrder_yes (l : List UInt8) (hl : l.length = 67) (hh : l.head? = some 67) (w : World) : Calls Tryz.prog 143 #[.string ⟨l.toArray⟩] w fun e w' => e = .returned (.tuple #[.int .i64 (epochOf l), .bool true]) ∧ Below w.heap.size w w' := by
 have Hn : Hid (∀ w, Calls Tryz.prog 149 #[.string ⟨(l.drop 1).toArray⟩, .int .i64 2] w fun e w' => e = .returned (.tuple #[.int .i64 (epochOf l), .string ⟨(l.drop 3).toArray⟩]) ∧ Below w.heap.size w w') := fun w => by
  have := number_p (l.drop 1) 2 (by rw [List.length_drop]; omega) (by omega) w
  rw [List.drop_drop] at this
  exact this
 go_enter Tryz.func143, Tryz.ntmps143
 refine wp_seq ?_
 refine Ks.reg ?_
 refine Ks.v (.int .i64 0) ?_
 simp only [Act.put, zA, zB, zC]
 refine Ks.v (.bool false) ?_
 simp only [Act.put, zA, zB, zC]
 refine Ks.done ?_
 refine wp_seq ?_
 refine wp_seq ?_
 refine Ks.reg ?_
 refine Ks.v (.string ⟨l.toArray⟩) ?_
 simp only [Act.put, zA, zB, zC]
 refine Ks.v (.int .i64 (l.length : Int)) ?_
 simp only [Act.put, zA, zB, zC]
 refine Ks.val rfl (.bool false) (by simp [execOp, go_sem, hl]) ?_
 simp only [Act.put, zA, zB, zC]
 refine Ks.v (.bool false) ?_
 simp only [Act.put, zA, zB, zC]
 refine Ks.valg (by kernel_rfl) (.string ⟨l.toArray⟩) (by kernel_rfl) ?_
 simp only [Act.put, zA, zB, zC]
 refine k_cuth (by kernel_rfl) _ _ rfl l 1 (by omega) rfl rfl ?_
 simp only [Act.put, zA, zB, zC]
 refine Ks.valg (by kernel_rfl) (.bool false) (by simp [execOp, go_sem, take1_eq, hh]) ?_
 simp only [Act.put, zA, zB, zC]
 refine Ks.v (.bool false) ?_
 simp only [Act.put, zA, zB, zC]
 refine Ks.done ?_
 refine wp_cond_false rfl ?_
 refine wp_skip ?_
 refine Ks.norm ?_
 refine wp_seq ?_
 refine Ks.reg ?_
 refine Ks.v (.string ⟨l.toArray⟩) ?_
 simp only [Act.put, zA, zB, zC]
 refine k_cutl (by kernel_rfl) _ _ rfl l 1 (by omega) rfl rfl ?_
 simp only [Act.put, zA, zB, zC]
 refine Ks.call rfl 149 #[.string ⟨(l.drop 1).toArray⟩, .int .i64 2] (by kernel_rfl) ((Hn.out w).mono fun e w' h => ⟨_, h.1, rfl, h.2⟩) (R := fun v w' => v = _ ∧ Below w.heap.size w w') ?_
 rintro v w1 ⟨rfl, hb⟩
 simp only [Act.put, zA, zB, zC]
 refine Ks.v (.tuple #[.int .i64 (epochOf l), .string ⟨(l.drop 3).toArray⟩]) ?_
 simp only [Act.put, zA, zB, zC]
 refine Ks.v (.int .i64 (epochOf l)) ?_
 simp only [Act.put, zA, zB, zC]
 refine Ks.v (.string ⟨(l.drop 3).toArray⟩) ?_
 simp only [Act.put, zA, zB, zC]
 refine Ks.v (.int .i64 (epochOf l)) ?_
 simp only [Act.put, zA, zB, zC]
 refine Ks.v (.string ⟨(l.drop 3).toArray⟩) ?_
 simp only [Act.put, zA, zB, zC]
 refine Ks.done ?_
 refine wp_seq ?_
 refine Ks.reg ?_
 refine Ks.v (.int .i64 (epochOf l)) ?_
 simp only [Act.put, zA, zB, zC]
 refine Ks.v (.int .i64 (epochOf l)) ?_
 simp only [Act.put, zA, zB, zC]
 refine Ks.v (.bool true) ?_
 simp only [Act.put, zA, zB, zC]
 refine Ks.done ?_
 refine wp_ret ?_
 repeat (refine Ks.ret ?_)
 refine bodyPost_ret (v := .tuple #[.int .i64 (epochOf l), .bool true]) (by simp [results, Tryz.results143]) rfl ?_
 exact ⟨rfl, hb⟩
end Gt
end Go.Proofs.YtbojijefenfbgaaGreatDoor
namespace Go.Proofs.YtbojijefenfbgaaGreatDoor
open Go Go.RowKit
namespace Gt
open Mp Bk
def tkC (e s c : Int) : Array Value := #[.int .i64 e, .int .i64 s, .int .i64 c]
set_option maxRecDepth 10000 in
theorem readTicket_no (l : List UInt8) (h : l.length ≠ 72 ∨ l.head? ≠ some 84) (w : World) : Calls Tryz.prog 76 #[.string ⟨l.toArray⟩] w fun e w' => e = .returned (.tuple #[.agg (tkC 0 0 0), .bool false]) ∧ Below w.heap.size w w' := by
 go_enter Tryz.func76, Tryz.ntmps76
 refine wp_seq ?_
 refine Ks.reg ?_
 refine Ks.alloc rfl _ rfl (.agg (tkC 0 0 0)) (by kernel_rfl) (tkC 0 0 0) rfl ?_
 intro w1 b1 Hb1 HR1 HB1 HS1
 simp only [Act.put, zA, zB, zC]
 refine Ks.v (.bool false) ?_
 simp only [Act.put, zA, zB, zC]
 refine Ks.done ?_
 refine wp_seq ?_
 refine wp_seq ?_
 refine Ks.reg ?_
 refine Ks.v (.string ⟨l.toArray⟩) ?_
 simp only [Act.put, zA, zB, zC]
 refine Ks.v (.int .i64 (l.length : Int)) ?_
 simp only [Act.put, zA, zB, zC]
 by_cases hl : l.length = 72
 ·have hh := h.resolve_left (fun x => x hl)
  refine Ks.val rfl (.bool false) (by simp [execOp, go_sem, hl]) ?_
  simp only [Act.put, zA, zB, zC]
  refine Ks.v (.bool false) ?_
  simp only [Act.put, zA, zB, zC]
  refine Ks.valg (by kernel_rfl) (.string ⟨l.toArray⟩) (by kernel_rfl) ?_
  simp only [Act.put, zA, zB, zC]
  refine k_cuth (by kernel_rfl) _ _ rfl l 1 (by omega) rfl rfl ?_
  simp only [Act.put, zA, zB, zC]
  refine Ks.valg (by kernel_rfl) (.bool true) (by simp [execOp, go_sem, take1_eq, hh]) ?_
  simp only [Act.put, zA, zB, zC]
  refine Ks.v (.bool true) ?_
  simp only [Act.put, zA, zB, zC]
  refine Ks.done ?_
  refine wp_cond_true rfl ?_
  refine wp_seq ?_
  refine Ks.reg ?_
  refine Ks.v (.agg (tkC 0 0 0)) ?_
  simp only [Act.put, zA, zB, zC]
  refine Ks.whole rfl _ _ _ rfl b1 (tkC 0 0 0) rfl rfl HR1.out (by kernel_rfl) rfl (by simp [tkC, Value.oneCell']) ?_
  intro w2 HR2 H2 H3 H4
  simp only [Act.put]
  refine Ks.v (.bool false) ?_
  simp only [Act.put, zA, zB, zC]
  refine Ks.done ?_
  refine wp_ret ?_
  repeat (refine Ks.ret ?_)
  exact Ww.ret_rv Tryz.results76 rfl b1 _ (tkC 0 0 0) _ _ (.bool false) rfl rfl HR2.out Tryz.underlying45 rfl (by kernel_rfl) ⟨rfl, HB1.out.trans ((H2.out (fun _ => False) w.heap.size (Or.inr (Nat.le_of_eq Hb1.out.symm))).below (Nat.le_refl _) (fun _ _ h => h))⟩
 ·refine Ks.val rfl (.bool true) (by simp [execOp, go_sem]; omega) ?_
  simp only [Act.put, zA, zB, zC]
  refine Ks.v (.bool true) ?_
  simp only [Act.put, zA, zB, zC]
  with_reducible refine Ks.off (by kernel_rfl) ?_
  simp only [Act.put, zA, zB, zC]
  with_reducible refine Ks.off (by kernel_rfl) ?_
  simp only [Act.put, zA, zB, zC]
  with_reducible refine Ks.off (by kernel_rfl) ?_
  simp only [Act.put, zA, zB, zC]
  refine Ks.v (.bool true) ?_
  simp only [Act.put, zA, zB, zC]
  refine Ks.done ?_
  refine wp_cond_true rfl ?_
  refine wp_seq ?_
  refine Ks.reg ?_
  refine Ks.v (.agg (tkC 0 0 0)) ?_
  simp only [Act.put, zA, zB, zC]
  refine Ks.whole rfl _ _ _ rfl b1 (tkC 0 0 0) rfl rfl HR1.out (by kernel_rfl) rfl (by simp [tkC, Value.oneCell']) ?_
  intro w2 HR2 H2 H3 H4
  simp only [Act.put]
  refine Ks.v (.bool false) ?_
  simp only [Act.put, zA, zB, zC]
  refine Ks.done ?_
  refine wp_ret ?_
  repeat (refine Ks.ret ?_)
  exact Ww.ret_rv Tryz.results76 rfl b1 _ (tkC 0 0 0) _ _ (.bool false) rfl rfl HR2.out Tryz.underlying45 rfl (by kernel_rfl) ⟨rfl, HB1.out.trans ((H2.out (fun _ => False) w.heap.size (Or.inr (Nat.le_of_eq Hb1.out.symm))).below (Nat.le_refl _) (fun _ _ h => h))⟩
def classOf (t : List UInt8) : Int := be ((t.drop 7).take 1)
set_option maxRecDepth 10000 in
theorem readTicket_yes (l : List UInt8) (hl : l.length = 72) (hh : l.head? = some 84) (w : World) : Calls Tryz.prog 76 #[.string ⟨l.toArray⟩] w fun e w' => e = .returned (.tuple #[.agg (tkC (epochOf l) (serialOf l) (classOf l)), .bool true]) ∧ Below w.heap.size w w' := by
 have Hn1 : Hid (∀ w, Calls Tryz.prog 149 #[.string ⟨(l.drop 1).toArray⟩, .int .i64 2] w fun e w' => e = .returned (.tuple #[.int .i64 (epochOf l), .string ⟨(l.drop 3).toArray⟩]) ∧ Below w.heap.size w w') := fun w => by
  have := number_p (l.drop 1) 2 (by rw [List.length_drop]; omega) (by omega) w
  rw [List.drop_drop] at this
  exact this
 have Hn2 : Hid (∀ w, Calls Tryz.prog 149 #[.string ⟨(l.drop 3).toArray⟩, .int .i64 4] w fun e w' => e = .returned (.tuple #[.int .i64 (serialOf l), .string ⟨(l.drop 7).toArray⟩]) ∧ Below w.heap.size w w') := fun w => by
  have := number_p (l.drop 3) 4 (by rw [List.length_drop]; omega) (by omega) w
  rw [List.drop_drop] at this
  exact this
 have Hn3 : Hid (∀ w, Calls Tryz.prog 149 #[.string ⟨(l.drop 7).toArray⟩, .int .i64 1] w fun e w' => e = .returned (.tuple #[.int .i64 (classOf l), .string ⟨(l.drop 8).toArray⟩]) ∧ Below w.heap.size w w') := fun w => by
  have := number_p (l.drop 7) 1 (by rw [List.length_drop]; omega) (by omega) w
  rw [List.drop_drop] at this
  exact this
 go_enter Tryz.func76, Tryz.ntmps76
 refine wp_seq ?_
 refine Ks.reg ?_
 refine Ks.alloc rfl _ rfl (.agg (tkC 0 0 0)) (by kernel_rfl) (tkC 0 0 0) rfl ?_
 intro w1 b1 Hb1 HR1 HB1 HS1
 simp only [Act.put, zA, zB, zC]
 refine Ks.v (.bool false) ?_
 simp only [Act.put, zA, zB, zC]
 refine Ks.done ?_
 refine wp_seq ?_
 refine wp_seq ?_
 refine Ks.reg ?_
 refine Ks.v (.string ⟨l.toArray⟩) ?_
 simp only [Act.put, zA, zB, zC]
 refine Ks.v (.int .i64 (l.length : Int)) ?_
 simp only [Act.put, zA, zB, zC]
 refine Ks.val rfl (.bool false) (by simp [execOp, go_sem, hl]) ?_
 simp only [Act.put, zA, zB, zC]
 refine Ks.v (.bool false) ?_
 simp only [Act.put, zA, zB, zC]
 refine Ks.valg (by kernel_rfl) (.string ⟨l.toArray⟩) (by kernel_rfl) ?_
 simp only [Act.put, zA, zB, zC]
 refine k_cuth (by kernel_rfl) _ _ rfl l 1 (by omega) rfl rfl ?_
 simp only [Act.put, zA, zB, zC]
 refine Ks.valg (by kernel_rfl) (.bool false) (by simp [execOp, go_sem, take1_eq, hh]) ?_
 simp only [Act.put, zA, zB, zC]
 refine Ks.v (.bool false) ?_
 simp only [Act.put, zA, zB, zC]
 refine Ks.done ?_
 refine wp_cond_false rfl ?_
 refine wp_skip ?_
 refine Ks.norm ?_
 refine wp_seq ?_
 refine Ks.reg ?_
 refine Ks.v (.string ⟨l.toArray⟩) ?_
 simp only [Act.put, zA, zB, zC]
 refine k_cutl (by kernel_rfl) _ _ rfl l 1 (by omega) rfl rfl ?_
 simp only [Act.put, zA, zB, zC]
 refine Ks.call rfl 149 #[.string ⟨(l.drop 1).toArray⟩, .int .i64 2] (by kernel_rfl) ((Hn1.out w1).mono fun e w' h => ⟨_, h.1, rfl, h.2⟩) (R := fun v w' => v = _ ∧ Below w1.heap.size w1 w') ?_
 rintro v w2 ⟨rfl, hb2⟩
 have HR2 : Hid (w2.heap[b1]? = _) := (hb2.block _ (Array.getElem?_eq_some_iff.1 HR1.out).1).trans HR1.out
 have HB2 : Hid (Below w.heap.size w w2) := HB1.out.trans (hb2.mono HB1.out.size)
 clear hb2 HR1 HB1
 simp only [Act.put, zA, zB, zC]
 refine Ks.v (.tuple #[.int .i64 (epochOf l), .string ⟨(l.drop 3).toArray⟩]) ?_
 simp only [Act.put, zA, zB, zC]
 refine Ks.v (.int .i64 (epochOf l)) ?_
 simp only [Act.put, zA, zB, zC]
 refine Ks.v (.string ⟨(l.drop 3).toArray⟩) ?_
 simp only [Act.put, zA, zB, zC]
 refine Ks.v (.int .i64 (epochOf l)) ?_
 simp only [Act.put, zA, zB, zC]
 refine Ks.v (.string ⟨(l.drop 3).toArray⟩) ?_
 simp only [Act.put, zA, zB, zC]
 refine Ks.done ?_
 refine wp_seq ?_
 refine Ks.reg ?_
 refine Ks.v (.string ⟨(l.drop 3).toArray⟩) ?_
 simp only [Act.put, zA, zB, zC]
 refine Ks.call rfl 149 #[.string ⟨(l.drop 3).toArray⟩, .int .i64 4] (by kernel_rfl) ((Hn2.out w2).mono fun e w' h => ⟨_, h.1, rfl, h.2⟩) (R := fun v w' => v = _ ∧ Below w2.heap.size w2 w') ?_
 rintro v w3 ⟨rfl, hb2⟩
 have HR3 : Hid (w3.heap[b1]? = _) := (hb2.block _ (Array.getElem?_eq_some_iff.1 HR2.out).1).trans HR2.out
 have HB3 : Hid (Below w.heap.size w w3) := HB2.out.trans (hb2.mono HB2.out.size)
 clear hb2 HR2 HB2
 simp only [Act.put, zA, zB, zC]
 refine Ks.v (.tuple #[.int .i64 (serialOf l), .string ⟨(l.drop 7).toArray⟩]) ?_
 simp only [Act.put, zA, zB, zC]
 refine Ks.v (.int .i64 (serialOf l)) ?_
 simp only [Act.put, zA, zB, zC]
 refine Ks.v (.string ⟨(l.drop 7).toArray⟩) ?_
 simp only [Act.put, zA, zB, zC]
 refine Ks.v (.int .i64 (serialOf l)) ?_
 simp only [Act.put, zA, zB, zC]
 refine Ks.v (.string ⟨(l.drop 7).toArray⟩) ?_
 simp only [Act.put, zA, zB, zC]
 refine Ks.done ?_
 refine wp_seq ?_
 refine Ks.reg ?_
 refine Ks.v (.string ⟨(l.drop 7).toArray⟩) ?_
 simp only [Act.put, zA, zB, zC]
 refine Ks.call rfl 149 #[.string ⟨(l.drop 7).toArray⟩, .int .i64 1] (by kernel_rfl) ((Hn3.out w3).mono fun e w' h => ⟨_, h.1, rfl, h.2⟩) (R := fun v w' => v = _ ∧ Below w3.heap.size w3 w') ?_
 rintro v w4 ⟨rfl, hb2⟩
 have HR4 : Hid (w4.heap[b1]? = _) := (hb2.block _ (Array.getElem?_eq_some_iff.1 HR3.out).1).trans HR3.out
 have HB4 : Hid (Below w.heap.size w w4) := HB3.out.trans (hb2.mono HB3.out.size)
 clear hb2 HR3 HB3
 simp only [Act.put, zA, zB, zC]
 refine Ks.v (.tuple #[.int .i64 (classOf l), .string ⟨(l.drop 8).toArray⟩]) ?_
 simp only [Act.put, zA, zB, zC]
 refine Ks.v (.int .i64 (classOf l)) ?_
 simp only [Act.put, zA, zB, zC]
 refine Ks.v (.string ⟨(l.drop 8).toArray⟩) ?_
 simp only [Act.put, zA, zB, zC]
 refine Ks.v (.int .i64 (classOf l)) ?_
 simp only [Act.put, zA, zB, zC]
 refine Ks.v (.string ⟨(l.drop 8).toArray⟩) ?_
 simp only [Act.put, zA, zB, zC]
 refine Ks.done ?_
 refine wp_seq ?_
 refine Ks.reg ?_
 refine Ks.v (.int .i64 (epochOf l)) ?_
 simp only [Act.put, zA, zB, zC]
 refine Ks.v (.int .i64 (serialOf l)) ?_
 simp only [Act.put, zA, zB, zC]
 refine Ks.v (.int .i64 (classOf l)) ?_
 simp only [Act.put, zA, zB, zC]
 refine Ks.v (.agg (tkC (epochOf l) (serialOf l) (classOf l))) ?_
 simp only [Act.put, zA, zB, zC]
 refine Ks.whole rfl _ _ _ rfl b1 (tkC (epochOf l) (serialOf l) (classOf l)) rfl rfl HR4.out (by kernel_rfl) rfl (by simp [tkC, Value.oneCell']) ?_
 intro w5 HR5 H2 H3 H4
 simp only [Act.put]
 refine Ks.v (.bool true) ?_
 simp only [Act.put, zA, zB, zC]
 refine Ks.done ?_
 refine wp_ret ?_
 repeat (refine Ks.ret ?_)
 exact Ww.ret_rv Tryz.results76 rfl b1 _ (tkC (epochOf l) (serialOf l) (classOf l)) _ _ (.bool true) rfl rfl HR5.out Tryz.underlying45 rfl (by kernel_rfl) ⟨rfl, HB4.out.trans ((H2.out (fun _ => False) w.heap.size (Or.inr (Nat.le_of_eq Hb1.out.symm))).below (Nat.le_refl _) (fun _ _ h => h))⟩
set_option maxRecDepth 10000 in
theorem right_p (k l : List UInt8) (n : Nat) (hl : l.length = n + 64) (hn : n ≤ 1000) (w : World) (ht : Hs.TabAt w) : Calls Tryz.prog 150 #[.string ⟨k.toArray⟩, .string ⟨l.toArray⟩] w fun e w' => e = .returned (.bool (Gw.rightE k (l.take n) (l.drop n))) ∧ Below w.heap.size w w' := by
 have Hr : Hid (∀ w, Hs.TabAt w → Calls Tryz.prog 52 #[.string ⟨k.toArray⟩, .string ⟨(l.take n).toArray⟩, .string ⟨(l.drop n).toArray⟩] w fun e w' => e = .returned (.bool (Gw.rightE k (l.take n) (l.drop n))) ∧ Below w.heap.size w w') := fun w ht => Gw.right_f k (l.take n) (l.drop n) (by rw [List.length_take]; omega) w ht
 obtain ⟨b, hb⟩ : ∃ b, b = Gw.rightE k (l.take n) (l.drop n) := ⟨_, rfl⟩
 rw [← hb] at Hr ⊢
 clear hb
 go_enter Tryz.func150, Tryz.ntmps150
 refine wp_seq ?_
 refine Ks.reg ?_
 refine Ks.v (.bool false) ?_
 simp only [Act.put, zA, zB, zC]
 refine Ks.done ?_
 refine wp_seq ?_
 refine wp_seq ?_
 refine Ks.reg ?_
 refine Ks.v (.string ⟨l.toArray⟩) ?_
 simp only [Act.put, zA, zB, zC]
 refine Ks.v (.int .i64 (l.length : Int)) ?_
 simp only [Act.put, zA, zB, zC]
 refine Ks.val rfl (.bool false) (by simp [execOp, go_sem, hl]; omega) ?_
 simp only [Act.put, zA, zB, zC]
 refine Ks.done ?_
 refine wp_cond_false rfl ?_
 refine wp_skip ?_
 refine Ks.norm ?_
 refine wp_seq ?_
 refine Ks.reg ?_
 refine Ks.v (.string ⟨l.toArray⟩) ?_
 simp only [Act.put, zA, zB, zC]
 refine Ks.v (.int .i64 (l.length : Int)) ?_
 simp only [Act.put, zA, zB, zC]
 refine Ks.val rfl (.int .i64 (n : Int)) (by
  simp [execOp, go_sem, hl]
  rw [IntWalk.i64_in _ ⟨by omega, by omega⟩]) ?_
 simp only [Act.put, zA, zB, zC]
 refine Ks.v (.int .i64 (n : Int)) ?_
 simp only [Act.put, zA, zB, zC]
 refine Ks.done ?_
 refine wp_seq ?_
 refine Qt.wp_all (by kernel_rfl) (by kernel_rfl) ?_
 refine Qt.y_val rfl (.string ⟨k.toArray⟩) (fun _ _ => by kernel_rfl) ?_
 refine Qt.y_val rfl (.string ⟨l.toArray⟩) (fun _ _ => by kernel_rfl) ?_
 refine Qt.y_val rfl (.int .i64 (n : Int)) (fun _ _ => by kernel_rfl) ?_
 simp only [Act.put, zA, zB, zC]
 refine y_cuth rfl _ _ rfl l n (by omega) rfl rfl ?_
 simp only [Act.put, zA, zB, zC]
 refine Qt.y_val rfl (.string ⟨l.toArray⟩) (fun _ _ => by kernel_rfl) ?_
 refine Qt.y_val rfl (.int .i64 (n : Int)) (fun _ _ => by kernel_rfl) ?_
 simp only [Act.put, zA, zB, zC]
 refine y_cutl rfl _ _ rfl l n (by omega) rfl rfl ?_
 simp only [Act.put, zA, zB, zC]
 refine Qt.y_call rfl 52 #[.string ⟨k.toArray⟩, .string ⟨(l.take n).toArray⟩, .string ⟨(l.drop n).toArray⟩] (.bool b) (fun _ => by kernel_rfl) (fun w' hb => Hr.out w' (ht.below hb ht.lt)) ?_
 simp only [Act.put, zA, zB, zC]
 refine Qt.y_val rfl (.bool b) (fun _ _ => by kernel_rfl) ?_
 simp only [Act.put, zA, zB, zC]
 refine Qt.y_nil ?_
 intro w2 hb2
 refine Ks.norm ?_
 refine wp_ret ?_
 repeat (refine Ks.ret ?_)
 refine bodyPost_ret (v := .bool b) (by simp [results, Tryz.results150]) rfl ?_
 exact ⟨rfl, hb2⟩
set_option maxRecDepth 10000 in
theorem trusts_p {S : Nat → Prop} {w : World} {g : Nat} {s : St} (h : PGate S w g s) (l : List UInt8) (n : Nat) (hl : l.length = n + 64) (hn : n ≤ 1000) (ht : Hs.TabAt w) : Calls Tryz.prog 77 #[.pointer (some ⟨g, 0, none⟩), .string ⟨l.toArray⟩] w fun e w' => e = .returned (.bool (Gw.rightE s.key (l.take n) (l.drop n))) ∧ Below w.heap.size w w' := by
 obtain ⟨_, vh, vd, vu, hg, _⟩ := h
 have hc : w.cell? ⟨g, 1, none⟩ = some (.string ⟨s.key.toArray⟩) := row_at hg 1 rfl
 have Hr : Hid _ := right_p s.key l n hl hn w ht
 obtain ⟨b, hb⟩ : ∃ b, b = Gw.rightE s.key (l.take n) (l.drop n) := ⟨_, rfl⟩
 rw [← hb] at Hr ⊢
 clear hb hg
 go_enter Tryz.func77, Tryz.ntmps77
 refine wp_seq ?_
 refine Ks.reg ?_
 refine Ks.v (.bool false) ?_
 simp only [Act.put, zA, zB, zC]
 refine Ks.done ?_
 refine wp_seq ?_
 refine Ks.reg ?_
 refine Ks.v (.pointer (some ⟨g, 0, none⟩)) ?_
 simp only [Act.put, zA, zB, zC]
 refine Ks.v (.bool true) ?_
 simp only [Act.put, zA, zB, zC]
 refine Ks.v (.bool true) ?_
 simp only [Act.put, zA, zB, zC]
 refine Ks.valg (by kernel_rfl) (.pointer (some ⟨g, 0, none⟩)) (by kernel_rfl) ?_
 simp only [Act.put, zA, zB, zC]
 refine Ks.valg (by kernel_rfl) (.pointer (some ⟨g, 0, none⟩)) (by kernel_rfl) ?_
 simp only [Act.put, zA, zB, zC]
 refine Ks.valg (by kernel_rfl) (.pointer (some ⟨g, 1, none⟩)) (by kernel_rfl) ?_
 simp only [Act.put, zA, zB, zC]
 refine Ks.cellg (by kernel_rfl) _ _ rfl Tryz.underlying9 rfl g 1 _ rfl hc ?_
 simp only [Act.put, zA, zB, zC]
 refine Ks.valg (by kernel_rfl) (.string ⟨l.toArray⟩) (by kernel_rfl) ?_
 simp only [Act.put, zA, zB, zC]
 refine Ks.pure (by kernel_rfl) 150 #[.string ⟨s.key.toArray⟩, .string ⟨l.toArray⟩] (by kernel_rfl) Hr.out ?_
 intro w1 hb1
 simp only [Act.put, zA, zB, zC]
 refine Ks.val rfl (.bool b) (by cases b <;> kernel_rfl) ?_
 simp only [Act.put, zA, zB, zC]
 refine Ks.v (.bool b) ?_
 simp only [Act.put, zA, zB, zC]
 refine Ks.done ?_
 refine wp_ret ?_
 repeat (refine Ks.ret ?_)
 refine bodyPost_ret (v := .bool b) (by simp [results, Tryz.results77]) rfl ?_
 exact ⟨rfl, hb1⟩
end Gt
end Go.Proofs.YtbojijefenfbgaaGreatDoor

/- Walk of posternlaw's Tickets. -/
import Derived.Test.YtbojijefenfbgaaGreatDoorTkTickB
namespace Go.Proofs.YtbojijefenfbgaaGreatDoor
open Go.RowKit
namespace Tk
open Bt Gw
theorem known_order : ∃ x : List UInt8, oAns seedA 7 = (⟨x.toArray⟩, 0) ∧ x.length = 67 := by
  refine ⟨oText 7 ++ sigB seedA (oText 7), ?_, ?_⟩
  · unfold oAns
    rw [if_pos (show seedA.length = 32 from rfl), if_pos (show bet 0 7 65535 = true from rfl)]
    rfl
  · rw [List.length_append, o_len, sig_len]
set_option maxRecDepth 100000 in
set_option maxHeartbeats 400000 in
theorem tickets_f (l : List UInt8) (e s c n : Int) (w : World) (ht : Hs.TabAt w) : Calls Tryz.prog 4 #[.string ⟨l.toArray⟩, .agg (tk e s c), .int .i64 n] w fun x w' => x = .returned (.bool true) ∧ Below w.heap.size w w' := by
  have H1 : Hid (∀ w, Hs.TabAt w → _) := ticket_f l e s c
  have H2 : Hid _ := refTicket_f l e s c
  have H3 : Hid (∀ w, Hs.TabAt w → _) := order_f l n
  have H4 : Hid _ := refOrder_f l n
  obtain ⟨x, hx, hxl⟩ := known_order
  have H5 : Hid (∀ w, Hs.TabAt w → Calls Tryz.prog 20 #[.string ⟨seedA.toArray⟩, .int .i64 7] w fun e w' => e = .returned (.tuple #[.string ⟨x.toArray⟩, .int .i64 0]) ∧ Below w.heap.size w w') := by
    intro w ht
    have h := order_f seedA 7 w ht
    rw [hx] at h
    exact h
  have Hse : Hid _ := lseed_f
  obtain ⟨sA, hsA⟩ : ∃ x, x = seedA.toArray := ⟨_, rfl⟩
  rw [← hsA] at H5 Hse
  have Hn1 : Hid _ := num_f (tAns l e s c).2
  have Hn2 : Hid _ := num_f (oAns l n).2
  generalize (tAns l e s c).1 = a1 at *
  generalize (tAns l e s c).2 = n1 at *
  generalize (oAns l n).1 = a2 at *
  generalize (oAns l n).2 = n2 at *
  have hxl' : (x.length : Int) = 67 := by omega
  have Ht : Hid (Hs.TabAt w) := ht
  clear hx hxl hsA ht
  have HB0 : Hid (Below w.heap.size w (w.alloc (.cells (tk e s c) 45))) := (Below.refl _ _).alloc (Nat.le_refl _) _
  have HT0 : Hid ((w.alloc (.cells (tk e s c) 45)).heap[w.heap.size]? = some (.cells (tk e s c) 45 (0, 0))) := heap_alloc_new _ _
  have Ht0 : Hid (Hs.TabAt (w.alloc (.cells (tk e s c) 45))) := Ht.out.below HB0.out Ht.out.lt
  go_enter Tryz.func4, Tryz.ntmps4
  go_wp2_with (refine wpList_load_row rfl 45 _ rfl w.heap.size rfl 45 (tk e s c) (0, 0) _ HT0.out Tryz.underlying45 rfl (by kernel_rfl) ?_)
  refine (H1.out _ Ht0.out).mono ?_
  rintro _ w1 ⟨rfl, hb1⟩
  have HB1 : Hid (Below w.heap.size w w1) := HB0.out.trans (hb1.mono HB0.out.size)
  have HT1 : Hid (w1.heap[w.heap.size]? = _) := (hb1.block _ (Array.getElem?_eq_some_iff.1 HT0.out).1).trans HT0.out
  clear hb1 H1 HB0 HT0 Ht0
  go_wp2_with (refine wpList_load_row rfl 45 _ rfl w.heap.size rfl 45 (tk e s c) (0, 0) _ HT1.out Tryz.underlying45 rfl (by kernel_rfl) ?_)
  refine (H2.out _).mono ?_
  rintro _ w2 ⟨rfl, hb2⟩
  have HB2 : Hid (Below w.heap.size w w2) := HB1.out.trans (hb2.mono HB1.out.size)
  have Ht2 : Hid (Hs.TabAt w2) := Ht.out.below HB2.out Ht.out.lt
  clear hb2 H2 HB1 HT1
  go_wp2_with fail
  refine (H3.out _ Ht2.out).mono ?_
  rintro _ w3 ⟨rfl, hb3⟩
  have HB3 : Hid (Below w.heap.size w w3) := HB2.out.trans (hb3.mono HB2.out.size)
  clear hb3 H3 HB2 Ht2
  go_wp2_with fail
  refine (H4.out _).mono ?_
  rintro _ w4 ⟨rfl, hb4⟩
  have HB4 : Hid (Below w.heap.size w w4) := HB3.out.trans (hb4.mono HB3.out.size)
  clear hb4 H4 HB3
  go_wp2_with fail
  refine (Hse.out _).mono ?_
  rintro _ w5 ⟨rfl, hb5⟩
  have HB5 : Hid (Below w.heap.size w w5) := HB4.out.trans (hb5.mono HB4.out.size)
  have Ht5 : Hid (Hs.TabAt w5) := Ht.out.below HB5.out Ht.out.lt
  clear hb5 HB4
  go_wp2_with fail
  refine (H5.out _ Ht5.out).mono ?_
  rintro _ w6 ⟨rfl, hb6⟩
  have HB6 : Hid (Below w.heap.size w w6) := HB5.out.trans (hb6.mono HB5.out.size)
  clear hb6 HB5 Ht5
  go_wp2_with fail
  refine (Hn1.out _).mono ?_
  rintro _ w7 ⟨rfl, hb7⟩
  have HB7 : Hid (Below w.heap.size w w7) := HB6.out.trans (hb7.mono HB6.out.size)
  clear hb7 HB6
  go_wp2_with fail
  refine (Hn2.out _).mono ?_
  rintro _ w8 ⟨rfl, hb8⟩
  have HB8 : Hid (Below w.heap.size w w8) := HB7.out.trans (hb8.mono HB7.out.size)
  clear hb8 HB7
  go_wp2_with fail
  exact bodyPost_ret (v := .bool true) (by simp [results, Tryz.results4, go_sem]) rfl ⟨rfl, HB8.out⟩
end Tk
end Go.Proofs.YtbojijefenfbgaaGreatDoor

/- The walk of the statement Hashes itself, out of the two contracts: the document's Hash and the program's. -/
import Derived.Test.YtbojijefenfbgaaDoorHaTakeWalk
import Derived.Test.YtbojijefenfbgaaDoorHaRefHash
import Derived.Deep.AppendSrc
namespace Go.Proofs.YtbojijefenfbgaaDoor
namespace Hs
open Go.RowKit
set_option maxHeartbeats 400000 in
theorem hash_any (w : World) (a0 : Option Addr) (cap : Nat) (ss : List ByteArray) (hp : Parts w a0 ss) (htab : TabAt w) (hsz : (joined ss).length ≤ 1000000000) (hn : ss.length ≤ 1000000000) :
    Calls Tryd.prog 7 #[.slice a0 ss.length cap] w fun e w' => e = .returned (.string ⟨(Sha.sha (joined ss)).toArray⟩) ∧ Below w.heap.size w w' := by
  have HP : Hid _ := hp
  have HT : Hid _ := htab
  clear hp htab
  go_enter Tryd.func7, Tryd.ntmps7
  go_wp2_with (go_at_call 25; refine (of_any _ a0 cap ss HP.out HT.out hsz hn).mono ?_; rintro e w1 ⟨rfl, hb1⟩; have HB1 : Hid _ := hb1; clear hb1)
  go_ret
  exact ⟨rfl, HB1.out⟩
end Hs
open Go.RowKit
namespace Hs

theorem info_string : (Tryd.prog.info? 9).map (fun i => (i.zero, i.size, i.bytes)) = some (some (.string ⟨#[]⟩), 1, 16) := by kernel_rfl
theorem Parts.below {w w' : World} {a0 : Option Addr} {ss : List ByteArray} (h : Parts w a0 ss) (hb : Below w.heap.size w w') : Parts w' a0 ss := by
  rcases h with h | ⟨pb, po, e, hc⟩
  · exact .inl h
  · exact .inr ⟨pb, po, e, fun j hj => (hb.cell (p := ⟨pb, po + j, none⟩) (block_lt_of_cell (hc j hj))).trans (hc j hj)⟩
theorem append_parts (w : World) (a0 : Option Addr) (cap : Nat) (ss : List ByteArray) (hp : Parts w a0 ss) (hn : ss.length ≤ 1000000000) :
    ∃ g c w', Sem.run Tryd.prog (Builtin.append_ #[22, 22] 22 #[.slice none 0 0, .slice a0 ss.length cap]) w = .ok (.slice g ss.length c) w' ∧ Parts w' g ss ∧ Below w.heap.size w w' := by
  obtain ⟨i, hi, hz0, hz1, hz2⟩ := info_parts info_string
  by_cases h0 : ss = []
  · subst h0
    refine ⟨none, 0, w, ?_, .inl rfl, Below.refl _ _⟩
    have hf : Sem.run Tryd.prog (Builtin.firstCells i.size 0 (.slice a0 0 cap)) w = .ok #[] w := by
      cases a0 with
      | none => exact run_firstCells_none w i.size 0 0 cap
      | some a => exact run_firstCells_some w i.size 0 a 0 cap [] (by simp) (by simp)
    simp [Builtin.append_, run_underlying Tryd.underlying22, sizeOf, typeInfo, hi, Builtin.lenOf, hf]
  · have hpos : 0 < ss.length := List.length_pos_iff.2 h0
    rcases hp with e | ⟨pb, po, rfl, hc⟩
    · exact absurd e h0
    · have hsrc : Src Tryd.prog i.size 22 (.slice (some ⟨pb, po, none⟩) ss.length cap) ss.length (ss.map Value.string) w := by
        rw [hz1]
        refine Src.ofSlice w Tryd.underlying22 ⟨pb, po, none⟩ ss.length cap (ss.map Value.string) (by simp) (fun j u hu => ?_) (fun u hu => ?_)
        · rw [List.getElem?_map, Option.map_eq_some_iff] at hu
          obtain ⟨x, hx, rfl⟩ := hu
          obtain ⟨hj, rfl⟩ := List.getElem?_eq_some_iff.1 hx
          rw [Addr.add_mid]; exact hc j hj
        · obtain ⟨_, _, rfl⟩ := List.mem_map.1 hu; rfl
      have hcap : Builtin.nextslicecap (0 + ss.length) 0 = ss.length := by unfold Builtin.nextslicecap; rw [if_pos (by omega), Nat.zero_add]
      have hr := run_append_grow_src (P := Tryd.prog) w 22 22 22 9 i _ Tryd.underlying22 hi hz0 none 0 0 [] (by simp [Builtin.firstCells]) _ _ _ hsrc (by omega) (by omega) (by rw [hcap, hz2]; omega)
      rw [Nat.zero_add] at hr
      refine ⟨_, _, _, hr, .inr ⟨w.heap.size, 0, rfl, fun j hj => ?_⟩, ((Below.refl _ _).drew).alloc (by simp) _⟩
      have hnew := heap_alloc_new w.drew (.cells (([] ++ ss.map Value.string).toArray ++ Builtin.zeroCells (Value.string ⟨#[]⟩).cells (grownCap w ss.length 0 9 - ss.length)) 9)
      rw [Nat.zero_add]
      refine (cell_of_row _ w.heap.size j _ _ _ hnew).trans ?_
      rw [Array.getElem?_append_left (by simp; exact hj)]
      simp [hj]
/-- An append whose run is known. -/
theorem wpList_append_run {P : Program} {w : World} {ops : Array Oper} {rest : List Oper} {o : Oper} {a : Act} {Q : Exit → Act → World → Prop}
    (hg : o.guard = none) (s x : Operand) (t u ty : TypeId) (hop : o.op = Op.call { callee := Callee.builtin Builtin.append, args := #[s, x], argTypes := #[t, u] }) (hty : o.type = ty)
    (vs vx v : Value) (w' : World) (hs : a.eval s = vs) (hx : a.eval x = vx) (hrun : Sem.run P (Builtin.append_ #[t, u] ty #[vs, vx]) w = .ok v w')
    (hK : wpList P ops Q rest (a.put o.dst v) w') : wpList P ops Q (o :: rest) a w := by
  refine wpList_plain hg fun K hK' => ?_
  subst hs hx hty
  unfold Oper.wp
  simp [execOp, hop, resolve, invoke, builtin, hrun, Result.andThen]
  exact hK' _ _ hK
/-- What is joined of the first k parts. -/
def jb (ss : List ByteArray) (k : Nat) : ByteArray := ⟨(joined (ss.take k)).toArray⟩
theorem jb_size (ss : List ByteArray) (k : Nat) : (jb ss k).size ≤ (joined ss).length := by
  have h : (jb ss k).size = (joined (ss.take k)).length := by simp [jb, ByteArray.size]
  rw [h]; exact joined_le ss k
theorem jb_step (ss : List ByteArray) (k : Nat) (h : k < ss.length) : jb ss k ++ ss[k] = jb ss (k + 1) := by
  apply ByteArray.ext
  simp only [ByteArray.data_append, jb]
  rw [joined_step ss k h]
  simp
theorem jb_list (ss : List ByteArray) : (jb ss ss.length).data.toList = joined ss := by simp [jb]
theorem part_size (ss : List ByteArray) (k : Nat) (h : k < ss.length) : ss[k].size ≤ (joined ss).length := by
  have h1 := joined_le ss (k + 1)
  rw [joined_step ss k h, List.length_append] at h1
  have : ss[k].data.toList.length = ss[k].size := by simp
  omega

theorem hash_one (w : World) (s : ByteArray) (b : Nat) (hc : w.cell? ⟨b, 0, none⟩ = some (.string s)) (htab : TabAt w) (hsz : s.size ≤ 1000000000) :
    Calls Tryd.prog 7 #[.slice (some ⟨b, 0, none⟩) 1 1] w fun e w' => e = .returned (.string ⟨(Sha.sha s.data.toList).toArray⟩) ∧ Below w.heap.size w w' := by
  have hj : joined [s] = s.data.toList := by simp [joined]
  have hP : Parts w (some ⟨b, 0, none⟩) [s] := by
    refine .inr ⟨b, 0, rfl, fun j hj => ?_⟩
    have hj0 : j = 0 := by simpa using hj
    subst hj0
    exact hc
  have h := hash_any w (some ⟨b, 0, none⟩) 1 [s] hP htab (by rw [hj]; simpa using hsz) (by simp)
  rw [hj] at h
  exact h
theorem refHash_none (w : World) : Calls Tryd.prog 6 #[.string ⟨#[]⟩] w fun e w' => e = .returned (.string ⟨(Sha.sha []).toArray⟩) ∧ Below w.heap.size w w' := refHash_any ⟨#[]⟩ (by decide) w
theorem hash_none (w : World) (htab : TabAt w) :
    Calls Tryd.prog 7 #[.slice none 0 0] w fun e w' => e = .returned (.string ⟨(Sha.sha []).toArray⟩) ∧ Below w.heap.size w w' :=
  hash_any w none 0 [] (.inl rfl) htab (by simp [joined]) (by simp)
set_option maxHeartbeats 2000000 in
set_option maxRecDepth 100000 in
theorem hashes_any (w : World) (a0 : Option Addr) (cap : Nat) (ss : List ByteArray) (hp : Parts w a0 ss) (htab : TabAt w) (hsz : (joined ss).length ≤ 1000000000) (hn : ss.length ≤ 1000000000) :
    Calls Tryd.prog 3 #[.slice a0 ss.length cap] w fun e w' => e = .returned (.bool true) ∧ Below w.heap.size w w' := by
  have HP : Hid _ := hp
  have HT : Hid _ := htab
  have h0l := htab.lt
  clear hp htab
  go_enter Tryd.func3, Tryd.ntmps3
  go_wp2_with fail
  go_loop [3, 4] (fun x i => ∃ k : Nat, k ≤ ss.length ∧ i = .int .i64 (k : Int) ∧ x = .string (jb ss k)) (fun _ i => ss.length - (intOf i).toNat)
  case atStart => exact ⟨0, by omega, rfl, rfl⟩
  case round =>
    obtain ⟨k, hk, rfl, rfl⟩ := hrel
    by_cases hkn : k < ss.length
    · rcases HP.out with h2 | ⟨pb, po, rfl, hcs⟩
      · rw [h2] at hkn; exact absurd hkn (by simp)
      · have hc := hcs k hkn
        have h1 := jb_size ss k
        have h2 := part_size ss k hkn
        have HJ : Hid _ := jb_step ss k hkn
        clear hcs
        generalize ss[k] = part at *
        go_wp2_with fail
        exact ⟨⟨k + 1, by omega, by go_num, by rw [HJ.out]⟩, by simp [intOf]; omega⟩
    · obtain rfl : k = ss.length := by omega
      have hjs := jb_size ss ss.length
      have HJL : Hid _ := jb_list ss
      generalize hall : jb ss ss.length = all at *
      have HALL : Hid _ := hall
      clear hall
      go_wp2_with fail
      refine (refHash_any all (by omega) _).mono ?_
      rintro e w1 ⟨rfl, hb1⟩
      rw [HJL.out]
      have HB1 : Hid _ := hb1
      clear hb1
      have HP1 : Hid (Parts w1 a0 ss) := Parts.below HP.out HB1.out
      obtain ⟨g, c, w2, hap, hp2, hb2⟩ := append_parts w1 a0 cap ss HP1.out hn
      have HP2 : Hid _ := hp2
      have HB2 : Hid _ := hb2
      have HAP : Hid _ := hap
      clear hp2 hb2 hap
      go_wp2_with (at_builtin; refine wpList_append_run rfl _ _ 22 22 22 rfl rfl _ _ _ w2 rfl rfl HAP.out ?_)
      have HT2 : Hid (TabAt w2) := TabAt.below HT.out (HB1.out.trans (HB2.out.mono HB1.out.size)) h0l
      refine (hash_any _ g c ss HP2.out HT2.out hsz hn).mono ?_
      rintro e w3 ⟨rfl, hb3⟩
      have HB3 : Hid _ := hb3
      clear hb3
      go_wp2_with fail
      have HBA : Hid (Below w.heap.size w w3) := (HB1.out.trans (HB2.out.mono HB1.out.size)).trans (HB3.out.mono (Nat.le_trans HB1.out.size HB2.out.size))
      have HB4 : Hid (Below w.heap.size w (w3.alloc (.cells #[.string all] 9))) := HBA.out.alloc HBA.out.size _
      refine (hash_one _ all w3.heap.size (by rw [cell_of_row _ _ _ _ _ _ (heap_alloc_new _ _)]; rfl) (TabAt.below HT.out HB4.out h0l) (by omega)).mono ?_
      rintro e w5 ⟨rfl, hb5⟩
      rw [HJL.out]
      have HB5 : Hid (Below w.heap.size w w5) := HB4.out.trans (hb5.mono HB4.out.size)
      have HB5' : Hid (Below w2.heap.size w2 w5) := ((HB3.out.alloc HB3.out.size _).trans (hb5.mono (by have := HB3.out.size; simp; omega)))
      clear hb5
      go_wp2_with fail
      refine (hash_none _ (TabAt.below HT.out HB5.out h0l)).mono ?_
      rintro e w6 ⟨rfl, hb6⟩
      have HB6 : Hid (Below w.heap.size w w6) := HB5.out.trans (hb6.mono HB5.out.size)
      have HB6' : Hid (Below w2.heap.size w2 w6) := HB5'.out.trans (hb6.mono HB5'.out.size)
      have HPA : Hid (Parts w6 a0 ss) := Parts.below HP.out HB6.out
      have HPG : Hid (Parts w6 g ss) := Parts.below HP2.out HB6'.out
      clear hb6 HB1 HB2 HB3 HB4 HB5 HB5' HB6' HBA HAP HP1 HP2 HT2
      go_wp2_with fail
      go_loopw [10] (fun i wq => ∃ k : Nat, k ≤ ss.length ∧ i = .int .i64 (k : Int) ∧ Below w6.heap.size w6 wq) (fun i _ => ss.length - (intOf i).toNat)
      case atStart => exact ⟨0, by omega, rfl, Below.refl _ _⟩
      case round =>
        rename World => wa
        obtain ⟨k, hk, rfl, hb⟩ := hrel
        have HB : Hid _ := hb
        clear hb
        by_cases hkn : k < ss.length
        · rcases HPA.out with h2 | ⟨pb, po, rfl, hcs⟩
          · rw [h2] at hkn; exact absurd hkn (by simp)
          · rcases HPG.out with h2 | ⟨gb, go, rfl, hcg⟩
            · rw [h2] at hkn; exact absurd hkn (by simp)
            · have hc1 : wa.cell? ⟨pb, po + k, none⟩ = some (.string ss[k]) := (HB.out.cell (p := ⟨pb, po + k, none⟩) (block_lt_of_cell (hcs k hkn))).trans (hcs k hkn)
              have hc2 : wa.cell? ⟨gb, go + k, none⟩ = some (.string ss[k]) := (HB.out.cell (p := ⟨gb, go + k, none⟩) (block_lt_of_cell (hcg k hkn))).trans (hcg k hkn)
              clear hcs hcg
              generalize ss[k] = part at *
              go_wp2_with fail
              go_big_quiet (fail)
              go_wp2_with fail
              exact ⟨⟨k + 1, by omega, by go_num, below_drewN HB.out nq⟩, by simp [intOf]; omega⟩
        · obtain rfl : k = ss.length := by omega
          generalize (Sha.sha (joined ss)).toArray = H1 at *
          generalize hh2 : (Sha.sha []).toArray = H2 at *
          have HH2 : Hid _ := hh2
          clear hh2
          go_wp2_with (go_at_call 6; refine (refHash_none _).mono ?_; rintro e w8 ⟨rfl, hb8⟩; rw [HH2.out]; have HB8 : Hid _ := hb8; clear hb8)
          go_ret
          have hb9 := HB6.out.trans (HB.out.mono HB6.out.size)
          exact ⟨rfl, hb9.trans (HB8.out.mono hb9.size)⟩
end Hs
end Go.Proofs.YtbojijefenfbgaaDoor

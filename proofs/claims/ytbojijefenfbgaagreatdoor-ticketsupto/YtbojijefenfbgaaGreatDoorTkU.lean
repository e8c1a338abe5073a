/- Words of 64 bits as Go's uint64 values: each operation of the model on them is the operation on BitVec 64. -/
/- math/bits' Add64, Sub64 (the model's own entries) and Mul64 (its Go text), over words of 64 bits. -/
/- Laws of one operation each, for rows of one-cell elements whose whole block is told. -/
/- Walks of the program's field: settle, Add, Sub, Neg, addRow, Mul. -/
import Derived.WalkKit
import Derived.Test.YtbojijefenfbgaaGreatDoorProg
import Derived.WalkSpells
import Derived.WalkLawsBesides
import Derived.Laws.Externs
import Derived.Laws.MathBits
import Derived.Shelf.Spec.BitsCarry
import Derived.Shelf.Bits.Mul64
import Derived.KernelRfl
import Derived.Deep.MidRow
import Derived.BigQuiet
namespace Go.Proofs.YtbojijefenfbgaaGreatDoor
/-- The number of a word. (A plain definition, so that the walk does not open it.) -/
def un (x : BitVec 64) : Int := (x.toNat : Int)
namespace UV
theorem un_lo (x : BitVec 64) : 0 ≤ un x := by unfold un; omega
theorem un_hi (x : BitVec 64) : un x < 18446744073709551616 := by unfold un; have := x.isLt; omega
theorem un_ofNat (n : Nat) (h : n < 18446744073709551616) : un (BitVec.ofNat 64 n) = (n : Int) := by
  unfold un; rw [BitVec.toNat_ofNat]; rw [Nat.mod_eq_of_lt (by omega)]
theorem toNat_un (x : BitVec 64) : (un x).toNat = x.toNat := by unfold un; simp
theorem u_wrap (n : Nat) : IntKind.u64.wrap (n : Int) = un (BitVec.ofNat 64 n) := by
  unfold un; rw [IntKind.wrap_u64, BitVec.toNat_ofNat]; rfl
theorem u_wrap_un (x : BitVec 64) : IntKind.u64.wrap (un x) = un x := by
  unfold un; rw [IntKind.wrap_u64]; have := x.isLt; omega
theorem u_add (x y : BitVec 64) : IntKind.u64.wrap (un x + un y) = un (x + y) := by
  unfold un; rw [IntKind.wrap_u64, BitVec.toNat_add]; rfl
theorem u_mul (x y : BitVec 64) : IntKind.u64.wrap (un x * un y) = un (x * y) := by
  unfold un; rw [IntKind.wrap_u64, BitVec.toNat_mul]; rfl
theorem u_sub (x y : BitVec 64) : IntKind.u64.wrap (un x - un y) = un (x - y) := by
  unfold un; rw [IntKind.wrap_u64, BitVec.toNat_sub]; have := x.isLt; have := y.isLt; omega
theorem u_xor (x y : BitVec 64) : bits .xor .u64 (un x) (un y) = un (x ^^^ y) := by
  unfold un; rw [bits_xor_u64_nat _ _ x.isLt y.isLt, BitVec.toNat_xor]
theorem u_and (x y : BitVec 64) : bits .and .u64 (un x) (un y) = un (x &&& y) := by
  unfold un; rw [bits_and_u64_nat _ _ x.isLt y.isLt, BitVec.toNat_and]
theorem u_or (x y : BitVec 64) : bits .or .u64 (un x) (un y) = un (x ||| y) := by
  unfold un; rw [bits_or_u64_nat _ _ x.isLt y.isLt, BitVec.toNat_or]
theorem u_shr (x : BitVec 64) (n : Nat) : un x / 2 ^ n = un (x >>> n) := by
  unfold un; rw [BitVec.toNat_ushiftRight, Nat.shiftRight_eq_div_pow, Int.natCast_ediv]; simp
theorem u_shl (x : BitVec 64) (n : Nat) : IntKind.u64.wrap (un x * 2 ^ n) = un (x <<< n) := by
  unfold un; rw [IntKind.wrap_u64, BitVec.toNat_shiftLeft, Nat.shiftLeft_eq]
  have : ((x.toNat : Int) * 2 ^ n) = ((x.toNat * 2 ^ n : Nat) : Int) := by simp
  rw [this]; rfl
theorem u_not (x : BitVec 64) : bits .xor .u64 18446744073709551615 (un x) = un (~~~ x) := by
  unfold un
  have := bits_xor_u64_nat 18446744073709551615 x.toNat (by omega) x.isLt
  rw [show ((18446744073709551615 : Nat) : Int) = 18446744073709551615 from rfl] at this
  rw [this]
  have h : ~~~ x = BitVec.ofNat 64 18446744073709551615 ^^^ x := by
    rw [show BitVec.ofNat 64 18446744073709551615 = BitVec.allOnes 64 from rfl, BitVec.allOnes_xor]
  rw [h, BitVec.toNat_xor]; rfl
theorem u_notm (x : BitVec 64) : bits .xor .u64 IntKind.u64.max (un x) = un (~~~ x) := by rw [show IntKind.u64.max = 18446744073709551615 from rfl, u_not]
theorem u_mul_lit (n : Nat) (x : BitVec 64) : IntKind.u64.wrap ((OfNat.ofNat n : Int) * un x) = un (BitVec.ofNat 64 n * x) := by
  unfold un; rw [IntKind.wrap_u64, BitVec.toNat_mul, BitVec.toNat_ofNat]
  show ((n : Int) * (x.toNat : Int)) % 18446744073709551616 = _
  rw [Nat.mod_mul_mod]
  have : ((n : Int) * (x.toNat : Int)) = ((n * x.toNat : Nat) : Int) := by simp
  rw [this]; rfl
theorem un_inj {x y : BitVec 64} (h : un x = un y) : x = y := by
  unfold un at h; exact BitVec.eq_of_toNat_eq (by omega)
end UV
end Go.Proofs.YtbojijefenfbgaaGreatDoor
namespace Go.Proofs.YtbojijefenfbgaaGreatDoor
open Go.RowKit
namespace Bt

/-- A carry as a word. -/
def bv (b : Bool) : BitVec 64 := if b then 1#64 else 0#64
theorem bv_toNat (b : Bool) : (bv b).toNat = if b then 1 else 0 := by cases b <;> rfl
theorem bv_le (b : Bool) : (bv b).toNat ≤ 1 := by cases b <;> decide
theorem un_bv_false : un (bv false) = 0 := rfl
/-- What is carried out of x + y + b. -/
def carry (x y : BitVec 64) (b : Bool) : Bool := decide (18446744073709551616 ≤ x.toNat + y.toNat + (bv b).toNat)
/-- What is borrowed by x - y - b. -/
def borrow (x y : BitVec 64) (b : Bool) : Bool := decide (x.toNat < y.toNat + (bv b).toNat)
theorem add_val (x y : BitVec 64) (b : Bool) : (x + y + bv b).toNat + 18446744073709551616 * (bv (carry x y b)).toNat = x.toNat + y.toNat + (bv b).toNat := by
  have h1 := x.isLt
  have h2 := y.isLt
  have h3 := bv_le b
  rw [bv_toNat (carry x y b), BitVec.toNat_add, BitVec.toNat_add]
  unfold carry
  by_cases h : 18446744073709551616 ≤ x.toNat + y.toNat + (bv b).toNat
  · rw [decide_eq_true h]; simp only [if_true]; omega
  · rw [decide_eq_false h]; simp only [Bool.false_eq_true, if_false]; omega
theorem sub_val (x y : BitVec 64) (b : Bool) : (x - y - bv b).toNat + y.toNat + (bv b).toNat = x.toNat + 18446744073709551616 * (bv (borrow x y b)).toNat := by
  have h1 := x.isLt
  have h2 := y.isLt
  have h3 := bv_le b
  rw [bv_toNat (borrow x y b), BitVec.toNat_sub, BitVec.toNat_sub]
  unfold borrow
  by_cases h : x.toNat < y.toNat + (bv b).toNat
  · rw [decide_eq_true h]; simp only [if_true]; omega
  · rw [decide_eq_false h]; simp only [Bool.false_eq_true, if_false]; omega

theorem run_Add64 (x y : BitVec 64) (b : Bool) (w : World) :
    Sem.run Tryz.prog (callFunc 243 #[.int .u64 (un x), .int .u64 (un y), .int .u64 (un (bv b))]) w =
      .ok (.value (.tuple #[.int .u64 (un (x + y + bv b)), .int .u64 (un (bv (carry x y b)))])) w := by
  have h1 := UV.un_lo x
  have h2 := UV.un_lo y
  have h3 := UV.un_lo (bv b)
  have h4 : un (bv b) ≤ 1 := by unfold un; have := bv_le b; omega
  rw [run_callFunc_extern Tryz.func243 (by kernel_rfl) (by kernel_rfl) (by kernel_rfl) (e := add64Entry) (by kernel_rfl), run_add64 _ _ _ h1 h2 h3 h4]
  have hv := add_val x y b
  have hlt := (x + y + bv b).isLt
  have hb := bv_le (carry x y b)
  have e1 : (un x + un y + un (bv b)) % 18446744073709551616 = un (x + y + bv b) := by unfold un; omega
  have e2 : (un x + un y + un (bv b)) / 18446744073709551616 = un (bv (carry x y b)) := by unfold un; omega
  rw [e1, e2]
  rfl
theorem run_Sub64 (x y : BitVec 64) (b : Bool) (w : World) :
    Sem.run Tryz.prog (callFunc 235 #[.int .u64 (un x), .int .u64 (un y), .int .u64 (un (bv b))]) w =
      .ok (.value (.tuple #[.int .u64 (un (x - y - bv b)), .int .u64 (un (bv (borrow x y b)))])) w := by
  have hb1 := bv_le b
  have hr := run_sub64 (P := Tryz.prog) x.toNat y.toNat (bv b).toNat hb1 w
  have e0 : (#[Value.int .u64 (un x), .int .u64 (un y), .int .u64 (un (bv b))] : Array Value) = #[.int .u64 ((x.toNat : Nat) : Int), .int .u64 ((y.toNat : Nat) : Int), .int .u64 (((bv b).toNat : Nat) : Int)] := rfl
  rw [run_callFunc_extern Tryz.func235 (by kernel_rfl) (by kernel_rfl) (by kernel_rfl) (e := sub64Entry) (by kernel_rfl), e0, hr]
  have hv := sub_val x y b
  have hlt := (x - y - bv b).isLt
  have hx := x.isLt
  have hy := y.isLt
  have hb := bv_le (borrow x y b)
  have e1 : (x.toNat + 18446744073709551616 - y.toNat - (bv b).toNat) % 18446744073709551616 = (x - y - bv b).toNat := by omega
  have e2 : (if x.toNat < y.toNat + (bv b).toNat then 1 else 0 : Nat) = (bv (borrow x y b)).toNat := by
    rw [bv_toNat (borrow x y b)]
    unfold borrow
    by_cases h : x.toNat < y.toNat + (bv b).toNat
    · rw [decide_eq_true h, if_pos h]; rfl
    · rw [decide_eq_false h, if_neg h]; rfl
  rw [e1, e2]
  rfl
/-- The high half of a product. -/
def mulH (x y : BitVec 64) : BitVec 64 := BitVec.ofNat 64 (x.toNat * y.toNat / 18446744073709551616)
theorem mul_val (x y : BitVec 64) : (x * y).toNat + 18446744073709551616 * (mulH x y).toNat = x.toNat * y.toNat := by
  have h1 := x.isLt
  have h2 := y.isLt
  have hlt : x.toNat * y.toNat < 18446744073709551616 * 18446744073709551616 := Nat.mul_lt_mul'' h1 h2
  have hq : x.toNat * y.toNat / 18446744073709551616 < 18446744073709551616 := Nat.div_lt_of_lt_mul hlt
  unfold mulH
  rw [BitVec.toNat_mul, BitVec.toNat_ofNat, Nat.mod_eq_of_lt (show x.toNat * y.toNat / 18446744073709551616 < 2 ^ 64 from hq)]
  omega
set_option maxHeartbeats 1000000 in
theorem mul64_nat (x y : Nat) (hx : x < 18446744073709551616) (hy : y < 18446744073709551616) (w : World) :
    Calls Tryz.prog 274 #[.int .u64 (x : Int), .int .u64 (y : Int)] w fun e w' => e = .returned (.tuple #[.int .u64 ((x * y / 18446744073709551616 : Nat) : Int), .int .u64 ((x * y % 18446744073709551616 : Nat) : Int)]) ∧ w' = w := by
  obtain ⟨d1, d2, d3, hhi⟩ := Lib.mul64_hi x y hx hy
  have g1 := Lib.half_mul_le (a := x / 4294967296) (b := y / 4294967296) (by omega) (by omega)
  have g2 := Lib.half_mul_le (a := x / 4294967296) (b := y % 4294967296) (by omega) (by omega)
  have g3 := Lib.half_mul_le (a := x % 4294967296) (b := y / 4294967296) (by omega) (by omega)
  have l1 : x / 4294967296 * (y / 4294967296) < 18446744073709551616 := by omega
  have l2 : x / 4294967296 * (y % 4294967296) < 18446744073709551616 := by omega
  have l3 : x % 4294967296 * (y / 4294967296) < 18446744073709551616 := by omega
  have l4 : x / 4294967296 * (y / 4294967296) + (x / 4294967296 * (y % 4294967296) + x % 4294967296 * (y % 4294967296) / 4294967296) / 4294967296 < 18446744073709551616 := by omega
  have l5 : x / 4294967296 * (y / 4294967296) + (x / 4294967296 * (y % 4294967296) + x % 4294967296 * (y % 4294967296) / 4294967296) / 4294967296 + ((x / 4294967296 * (y % 4294967296) + x % 4294967296 * (y % 4294967296) / 4294967296) % 4294967296 + x % 4294967296 * (y / 4294967296)) / 4294967296 < 18446744073709551616 := by omega
  go_enter Tryz.func274, Tryz.ntmps274
  go_wp2
  simp only [Mul64.maskN x hx, Mul64.maskN y hy, Mul64.divN, Mul64.mulN, Mul64.addN, Mul64.wrapN _ d1, Mul64.wrapN _ l2, Mul64.wrapN _ d2, Mul64.maskN _ d2, Mul64.wrapN _ l3, Mul64.wrapN _ d3, Mul64.wrapN _ l1, Mul64.wrapN _ l4, Mul64.wrapN _ l5, Mul64.wrapM (x * y)]
  rw [hhi]
  go_ret2
  exact ⟨rfl, rfl⟩
theorem mul64_any (x y : BitVec 64) (w : World) :
    Calls Tryz.prog 274 #[.int .u64 (un x), .int .u64 (un y)] w fun e w' => e = .returned (.tuple #[.int .u64 (un (mulH x y)), .int .u64 (un (x * y))]) ∧ w' = w := by
  have h := mul64_nat x.toNat y.toNat x.isLt y.isLt w
  have hv := mul_val x y
  have h1 := (x * y).isLt
  have e1 : x.toNat * y.toNat / 18446744073709551616 = (mulH x y).toNat := by omega
  have e2 : x.toNat * y.toNat % 18446744073709551616 = (x * y).toNat := by omega
  rw [e1, e2] at h
  exact h
end Bt
end Go.Proofs.YtbojijefenfbgaaGreatDoor
namespace Go.Proofs.YtbojijefenfbgaaGreatDoor
open Go.RowKit
namespace Own

/-- A block's cells by a function. (A plain definition, so that the walk does not open it.) -/
def mkRow (n : Nat) (f : Nat → Value) : Array Value := Array.ofFn (n := n) (fun j => f j.val)
theorem mkRow_size (n : Nat) (f : Nat → Value) : (mkRow n f).size = n := by simp [mkRow]
theorem mkRow_get {n : Nat} {f : Nat → Value} {j : Nat} (h : j < n) : (mkRow n f)[j]? = some (f j) := by simp [mkRow, h]
theorem mkRow_get_out {n : Nat} {f : Nat → Value} {j : Nat} (h : n ≤ j) : (mkRow n f)[j]? = none := by simp [mkRow, h]
theorem mkRow_congr {n : Nat} {f g : Nat → Value} (h : ∀ j, j < n → f j = g j) : mkRow n f = mkRow n g := by
  apply Array.ext_getElem?
  intro i
  by_cases hi : i < n
  · rw [mkRow_get hi, mkRow_get hi, h i hi]
  · rw [mkRow_get_out (by omega), mkRow_get_out (by omega)]
theorem mkRow_set {n : Nat} {f : Nat → Value} {j : Nat} (v : Value) : (mkRow n f).setIfInBounds j v = mkRow n (fun i => if i = j then v else f i) := by
  apply Array.ext_getElem?
  intro i
  rw [Array.getElem?_setIfInBounds]
  by_cases hi : i < n
  · by_cases e : j = i
    · subst e; rw [mkRow_get (f := fun i => if i = j then v else f i) hi, if_pos rfl, if_pos (by rw [mkRow_size]; exact hi), if_pos rfl]
    · rw [mkRow_get (f := fun i => if i = j then v else f i) hi, if_neg e, mkRow_get hi, if_neg (Ne.symm e)]
  · rw [mkRow_get_out (f := fun i => if i = j then v else f i) (by omega)]
    by_cases e : j = i
    · subst e; rw [if_pos rfl, if_neg (by rw [mkRow_size]; exact hi)]
    · rw [if_neg e, mkRow_get_out (by omega)]
/-- n noughts. -/
def zeros (n : Nat) (z : Value) : Array Value := mkRow n (fun _ => z)
theorem made_zeros (n : Nat) (z : Value) (hz : z.cells = #[z]) : madeCells z.cells (n * 1) = zeros n z := by
  rw [hz]
  apply Array.ext_getElem?
  intro i
  simp only [madeCells, zeros, Nat.mul_one]
  by_cases h : i < n
  · rw [mkRow_get h]; simp [h, Nat.mod_one]
  · rw [mkRow_get_out (by omega)]; simp [h]
/-- A list's cells are a row. -/
theorem mkRow_list (l : List Value) (n : Nat) (h : l.length = n) (f : Nat → Value) (hf : ∀ j (hj : j < l.length), f j = l[j]) : l.toArray = mkRow n f := by
  apply Array.ext_getElem?
  intro i
  by_cases hi : i < n
  · rw [mkRow_get hi, hf i (by omega)]; simp [h, hi]
  · rw [mkRow_get_out (by omega)]; simp; omega
/-- What is known of a block, of the world behind a store into it. -/
theorem row_store {w : World} {g n : Nat} {f : Nat → Value} {t : TypeId} (hg : w.heap[g]? = some (.cells (mkRow n f) t (0, 0))) (i : Nat) (v : Value) :
    (w.setCell ⟨g, i, none⟩ v).heap[g]? = some (.cells (mkRow n (fun j => if j = i then v else f j)) t (0, 0)) := by
  rw [heap_setCell_same w g i _ t v hg, mkRow_set]
theorem row_cell {w : World} {g n : Nat} {f : Nat → Value} {t : TypeId} (hg : w.heap[g]? = some (.cells (mkRow n f) t (0, 0))) (j : Nat) (h : j < n) : w.cell? ⟨g, j, none⟩ = some (f j) := by
  rw [cell_of_row w g j _ t _ hg, mkRow_get h]
theorem row_frozen {w : World} {g n : Nat} {f : Nat → Value} {t : TypeId} (hg : w.heap[g]? = some (.cells (mkRow n f) t (0, 0))) (j : Nat) : w.frozen? ⟨g, j, none⟩ = false := frozen_of_row w g j _ t hg

/-- 'make([]T, n)': the new block, told whole. -/
theorem wpList_make_at {P : Program} (w : World) {ops : Array Oper} {rest : List Oper} {o : Oper} {a : Act} {Q : Exit → Act → World → Prop}
    (hg : o.guard = none) (l c : Operand) (t : TypeId) (hop : o.op = Op.makeSlice t l c)
    (e : TypeId) (z : Value) (by1 : Nat) (h1 : P.underlying t = some (.slice e)) (h2 : (P.info? e).map (fun i => (i.zero, i.size, i.bytes)) = some (some z, 1, by1)) (hz : z.cells = #[z])
    (kl kc : IntKind) (L C : Int) (n : Nat) (hl : a.eval l = .int kl L) (hc : a.eval c = .int kc C) (hL : L = (n : Int)) (hC : C = (n : Int)) (b2 : by1 * n ≤ 281474976710656) (b3 : n ≤ 281474976710656)
    (hK : wpList P ops Q rest (a.put o.dst (.slice (some ⟨w.heap.size, 0, none⟩) n n)) (w.alloc (.cells (zeros n z) e))) :
    wpList P ops Q (o :: rest) a w := by
  refine wpList_plain hg fun K hK' => ?_
  obtain ⟨i, hi, hz0, hz1, hz2⟩ := info_parts h2
  subst hL hC
  have hrun := run_make (P := P) w t e i z h1 hi hz0 kl kc (n : Int) (n : Int) (by omega) (by omega) (by rw [hz2]; omega) (by omega)
  rw [hz1] at hrun
  simp only [Int.toNat_natCast] at hrun
  rw [made_zeros n z hz] at hrun
  unfold Oper.wp
  simp [execOp, hop, hl, hc, hrun, Result.andThen]
  exact hK' _ _ hK

theorem push_fold (l : List UInt8) (r : ByteArray) : (l.map (fun c => ((c.toNat : Nat) : Int))).foldl (fun r n => r.push (UInt8.ofNat n.toNat)) r = ⟨r.data ++ l.toArray⟩ := by
  induction l generalizing r with
  | nil => simp
  | cons c l ih =>
    simp only [List.map_cons, List.foldl_cons]
    rw [ih]
    simp [ByteArray.push]

/-- 'string(b)': the bytes of a slice. -/
theorem wpList_string_at {P : Program} (w : World) {ops : Array Oper} {rest : List Oper} {o : Oper} {a : Act} {Q : Exit → Act → World → Prop}
    (hg : o.guard = none) (x : Operand) (src dst e : TypeId) (hop : o.op = Op.convert src dst x)
    (hs : P.underlying src = some (.slice e)) (he : P.underlying e = some (.int .u8)) (hd : P.underlying dst = some .string)
    (b off cap : Nat) (l : List UInt8) (hx : a.eval x = .slice (some ⟨b, off, none⟩) l.length cap) (hc : ∀ j (h : j < l.length), w.cell? ⟨b, off + j, none⟩ = some (.int .u8 (l[j].toNat : Int)))
    (hK : wpList P ops Q rest (a.put o.dst (.string ⟨l.toArray⟩)) w) :
    wpList P ops Q (o :: rest) a w := by
  refine wpList_plain hg fun K hK' => ?_
  have hl := run_loadCells_list (P := P) (w := w) ⟨b, off, none⟩ ((l.map (fun c => ((c.toNat : Nat) : Int))).map (Value.int .u8)) (fun j v hv => by
    simp only [List.map_map, List.getElem?_map, Option.map_eq_some_iff] at hv
    obtain ⟨c, hc1, rfl⟩ := hv
    obtain ⟨h, rfl⟩ := List.getElem?_eq_some_iff.1 hc1
    have := hc j h
    rw [Addr.add_mid]; simpa using this)
  simp only [List.length_map] at hl
  have hr := run_bytesToString (P := P) w ⟨b, off, none⟩ l.length cap _ hl
  rw [push_fold] at hr
  have h2 := run_convert_bytes_string (P := P) w src dst e (some ⟨b, off, none⟩) l.length cap hs he hd
  rw [hr] at h2
  unfold Oper.wp
  simp [execOp, hop, hx, h2, Result.andThen]
  refine hK' _ _ ?_
  simpa using hK
/-- 'var x T' of an array or struct: its noughts in a new block. -/
theorem wpList_alloc_at {P : Program} (w : World) {ops : Array Oper} {rest : List Oper} {o : Oper} {a : Act} {Q : Exit → Act → World → Prop}
    (hg : o.guard = none) (t : TypeId) (hop : o.op = Op.alloc t) (zs : Array Value) (h2 : (P.info? t).map (fun i => i.zero) = some (some (.agg zs)))
    (hK : wpList P ops Q rest (a.put o.dst (.pointer (some ⟨w.heap.size, 0, none⟩))) (w.alloc (.cells zs t))) :
    wpList P ops Q (o :: rest) a w := by
  refine wpList_plain hg fun K hK' => ?_
  obtain ⟨i, hi, hz⟩ := Option.map_eq_some_iff.1 h2
  unfold Oper.wp
  simp [execOp, hop, Instr.alloc, zeroValue, typeInfo, hi, hz, newVar, newRow, Value.cells, Result.andThen]
  exact hK' _ _ hK

/-- An array or struct written out. -/
theorem wpList_build_at {P : Program} {ops : Array Oper} {rest : List Oper} {o : Oper} {a : Act} {w : World} {Q : Exit → Act → World → Prop} (hg : o.guard = none) (t : TypeId) (parts : Array (Nat × Operand)) (ho : o.op = .build t parts)
    (cs : Array Value) (hf : P.built t (parts.map fun (i, x) => (i, a.eval x)).toList = some cs)
    (h : wpList P ops Q rest (a.put o.dst (.agg cs)) w) : wpList P ops Q (o :: rest) a w :=
  wpList_build hg t parts ho (by rw [hf]; rfl) (by rw [hf]; exact h)

theorem setRow_alloc (w : World) (zs cs : Array Value) (t : TypeId) : (w.alloc (.cells zs t)).setRow w.heap.size cs = w.alloc (.cells cs t) := by
  have h : ((w.alloc (.cells zs t)).setRow w.heap.size cs).heap = (w.alloc (.cells cs t)).heap := by
    apply Array.ext_getElem?
    intro i
    by_cases hi : i = w.heap.size
    · subst hi; rw [setRow_heap _ _ zs cs t (0, 0) (heap_alloc_new _ _), heap_alloc_new]
    · show (Array.modify _ _ _)[i]? = _
      rw [Array.getElem?_modify, if_neg (Ne.symm hi)]
      show (w.heap.push _)[i]? = (w.heap.push _)[i]?
      rw [Array.getElem?_push, Array.getElem?_push, if_neg hi, if_neg hi]
  show ({ (w.alloc (.cells zs t)).setRow w.heap.size cs with heap := ((w.alloc (.cells zs t)).setRow w.heap.size cs).heap } : World) = _
  rw [h]; rfl

/-- 'var x T = v' of an array or struct: the store behind the alloc. -/
theorem wpList_store_new {P : Program} {ops : Array Oper} {rest : List Oper} {o : Oper} {a : Act} {w : World} {Q : Exit → Act → World → Prop} (hgd : o.guard = none) (ty : TypeId) (x y : Operand) (ho : o.op = .store ty x y)
    (zs cells : Array Value) (t : TypeId) (hx : a.eval x = .pointer (some ⟨w.heap.size, 0, none⟩)) (hy : a.eval y = .agg cells)
    (hi : (P.info? ty).map (·.size) = some cells.size) (hold : zs.size = cells.size) (h1 : cells.all (·.oneCell') = true)
    (h : wpList P ops Q rest (a.put o.dst undef) (w.alloc (.cells cells t))) : wpList P ops Q (o :: rest) a (w.alloc (.cells zs t)) :=
  wpList_store_row hgd ty x y ho w.heap.size cells hx hy t zs (heap_alloc_new _ _) hi hold h1 (by rw [setRow_alloc]; exact h)

/-- A call that hands back an array or struct: its result's block is told. -/
theorem ret_row {P : Program} {fn : Func} {p : Tmp} {ty : TypeId} (h : fn.results = #[.cell p ty]) {post : Ending → World → Prop} {a : Act} {w : World} (hd : a.defers = []) (g : Nat) (t : TypeId) (cs : Array Value) (fr : Nat × Nat) (d : TypeDesc)
    (hp : a.tmps.getD p undef = .pointer (some ⟨g, 0, none⟩)) (hg : w.heap[g]? = some (.cells cs t fr))
    (hu : P.underlying ty = some d) (hr : (match d with | .struct _ | .array _ _ => true | _ => false) = true) (hi : (P.info? ty).map (·.size) = some cs.size)
    (hpost : post (.returned (.agg cs)) w) : bodyPost P fn post .ret a w :=
  bodyPost_ret (v := .agg cs) (results_cell_row h a.tmps w g t cs fr d hp hg hu hr hi) hd hpost

theorem all_one {n : Nat} {f : Nat → Value} (h : ∀ j, j < n → (f j).oneCell' = true) : (mkRow n f).all (·.oneCell') = true := by
  rw [Array.all_eq_true_iff_forall_mem]
  intro v hv
  obtain ⟨j, hj, rfl⟩ := Array.mem_iff_getElem.1 hv
  rw [mkRow_size] at hj
  have := mkRow_get (f := f) hj
  rw [Array.getElem?_eq_some_iff] at this
  obtain ⟨_, e⟩ := this
  rw [e]; exact h j hj
theorem run_make_at {P : Program} (W : World) (t e : TypeId) (z : Value) (by1 : Nat) (h1 : P.underlying t = some (.slice e)) (h2 : (P.info? e).map (fun i => (i.zero, i.size, i.bytes)) = some (some z, 1, by1)) (hz : z.cells = #[z])
    (kl kc : IntKind) (L C : Int) (n : Nat) (hL : L = (n : Int)) (hC : C = (n : Int)) (b2 : by1 * n ≤ 281474976710656) (b3 : n ≤ 281474976710656) :
    Sem.run P (Instr.makeSlice t (.int kl L) (.int kc C)) W = .ok (.slice (some ⟨W.heap.size, 0, none⟩) n n) (W.alloc (.cells (zeros n z) e)) := by
  obtain ⟨i, hi, hz0, hz1, hz2⟩ := info_parts h2
  subst hL hC
  have hrun := run_make (P := P) W t e i z h1 hi hz0 kl kc (n : Int) (n : Int) (by omega) (by omega) (by rw [hz2]; omega) (by omega)
  rw [hz1] at hrun
  simp only [Int.toNat_natCast] at hrun
  rw [made_zeros n z hz] at hrun
  exact hrun
theorem run_string_at {P : Program} (W : World) (src dst e : TypeId) (hs : P.underlying src = some (.slice e)) (he : P.underlying e = some (.int .u8)) (hd : P.underlying dst = some .string)
    (b off n cap : Nat) (l : List UInt8) (hn : n = l.length) (hc : ∀ j (h : j < l.length), W.cell? ⟨b, off + j, none⟩ = some (.int .u8 (l[j].toNat : Int))) :
    Sem.run P (convert src dst (.slice (some ⟨b, off, none⟩) n cap)) W = .ok (.string ⟨l.toArray⟩) W := by
  subst hn
  have hl := run_loadCells_list (P := P) (w := W) ⟨b, off, none⟩ ((l.map (fun c => ((c.toNat : Nat) : Int))).map (Value.int .u8)) (fun j v hv => by
    simp only [List.map_map, List.getElem?_map, Option.map_eq_some_iff] at hv
    obtain ⟨c, hc1, rfl⟩ := hv
    obtain ⟨h, rfl⟩ := List.getElem?_eq_some_iff.1 hc1
    have := hc j h
    rw [Addr.add_mid]; simpa using this)
  simp only [List.length_map] at hl
  have hr := run_bytesToString (P := P) W ⟨b, off, none⟩ l.length cap _ hl
  rw [push_fold] at hr
  have h2 := run_convert_bytes_string (P := P) W src dst e (some ⟨b, off, none⟩) l.length cap hs he hd
  rw [hr] at h2
  simpa using h2
end Own
end Go.Proofs.YtbojijefenfbgaaGreatDoor
namespace Go.Proofs.YtbojijefenfbgaaGreatDoor
open Go.RowKit
namespace Fw
open Bt
theorem un_19 : un 19#64 = 19 := rfl
theorem un_0 : un 0#64 = 0 := rfl
theorem run_Add64_xy0 (x y : BitVec 64) (w : World) : Sem.run Tryz.prog (callFunc 243 #[.int .u64 (un x), .int .u64 (un y), .int .u64 0]) w = .ok (.value (.tuple #[.int .u64 (un (x + y + bv false)), .int .u64 (un (bv (carry x y false)))])) w := run_Add64 x y false w
theorem run_Add64_19 (x : BitVec 64) (w : World) : Sem.run Tryz.prog (callFunc 243 #[.int .u64 (un x), .int .u64 19, .int .u64 0]) w = .ok (.value (.tuple #[.int .u64 (un (x + 19#64 + bv false)), .int .u64 (un (bv (carry x 19#64 false)))])) w := run_Add64 x 19#64 false w
theorem run_Add64_0c (x : BitVec 64) (b : Bool) (w : World) : Sem.run Tryz.prog (callFunc 243 #[.int .u64 (un x), .int .u64 0, .int .u64 (un (bv b))]) w = .ok (.value (.tuple #[.int .u64 (un (x + 0#64 + bv b)), .int .u64 (un (bv (carry x 0#64 b)))])) w := run_Add64 x 0#64 b w
theorem run_Sub64_xy0 (x y : BitVec 64) (w : World) : Sem.run Tryz.prog (callFunc 235 #[.int .u64 (un x), .int .u64 (un y), .int .u64 0]) w = .ok (.value (.tuple #[.int .u64 (un (x - y - bv false)), .int .u64 (un (bv (borrow x y false)))])) w := run_Sub64 x y false w
theorem run_Sub64_0c (x : BitVec 64) (b : Bool) (w : World) : Sem.run Tryz.prog (callFunc 235 #[.int .u64 (un x), .int .u64 0, .int .u64 (un (bv b))]) w = .ok (.value (.tuple #[.int .u64 (un (x - 0#64 - bv b)), .int .u64 (un (bv (borrow x 0#64 b)))])) w := run_Sub64 x 0#64 b w
attribute [local go_sem] run_Add64_xy0 run_Add64_19 run_Add64_0c run_Sub64_xy0 run_Sub64_0c
attribute [local go_sem] UV.u_add UV.u_mul UV.u_sub UV.u_xor UV.u_and UV.u_or UV.u_shr UV.u_shl UV.u_not UV.u_notm UV.u_wrap_un run_Add64 run_Sub64

/-- Four words. -/
structure Q where
  a0 : BitVec 64
  a1 : BitVec 64
  a2 : BitVec 64
  a3 : BitVec 64
def Q.cells (q : Q) : Array Value := #[.int .u64 (un q.a0), .int .u64 (un q.a1), .int .u64 (un q.a2), .int .u64 (un q.a3)]
def Q.num (q : Q) : Nat := q.a0.toNat + 18446744073709551616 * q.a1.toNat + 340282366920938463463374607431768211456 * q.a2.toNat + 6277101735386680763835789423207666416102355444464034512896 * q.a3.toNat

abbrev PP : Nat := 57896044618658097711785492504343953926634992332820282019728792003956564819949
theorem PP_eq : PP = 57896044618658097711785492504343953926634992332820282019728792003956564819949 := rfl
theorem Q.cells_one (q : Q) : q.cells.all (·.oneCell') = true := by simp [Q.cells, Value.oneCell']

/-- The carries of q + 19. -/
def s1 (q : Q) : Bool := carry q.a0 19#64 false
def s2 (q : Q) : Bool := carry q.a1 0#64 (s1 q)
def s3 (q : Q) : Bool := carry q.a2 0#64 (s2 q)
theorem settle_low (q : Q) (h : q.num < 2 * PP) (ht : un (q.a3 + bv (s3 q)) / 9223372036854775808 = 0) : q.num % PP = q.num := by
  have v0 := add_val q.a0 19#64 false
  have v1 := add_val q.a1 0#64 (s1 q)
  have v2 := add_val q.a2 0#64 (s2 q)
  have v3 := add_val q.a3 0#64 (s3 q)
  simp only [BitVec.add_zero] at v1 v2 v3
  have b3 := bv_le (carry q.a3 0#64 (s3 q))
  have l0 := (q.a0 + 19#64 + bv false).isLt
  have l1 := (q.a1 + bv (s1 q)).isLt
  have l2 := (q.a2 + bv (s2 q)).isLt
  unfold un at ht
  rw [show carry q.a0 19#64 false = s1 q from rfl] at v0
  rw [show carry q.a1 0#64 (s1 q) = s2 q from rfl] at v1
  rw [show carry q.a2 0#64 (s2 q) = s3 q from rfl] at v2
  rw [show (19#64).toNat = 19 from rfl, show (bv false).toNat = 0 from rfl] at v0
  rw [show (0#64).toNat = 0 from rfl] at v1 v2 v3
  unfold Q.num at *
  generalize (q.a0 + 19#64 + bv false).toNat = t0 at *
  generalize (q.a1 + bv (s1 q)).toNat = t1 at *
  generalize (q.a2 + bv (s2 q)).toNat = t2 at *
  generalize (q.a3 + bv (s3 q)).toNat = t3 at *
  generalize (bv (s1 q)).toNat = c1 at *
  generalize (bv (s2 q)).toNat = c2 at *
  generalize (bv (s3 q)).toNat = c3 at *
  generalize (bv (carry q.a3 0#64 (s3 q))).toNat = c4 at *
  apply Nat.mod_eq_of_lt
  rw [PP_eq] at *
  omega
theorem settle_high (q : Q) (h : q.num < 2 * PP) (ht : un (q.a3 + bv (s3 q)) / 9223372036854775808 ≠ 0) :
    (Q.mk (q.a0 + 19#64 + bv false) (q.a1 + bv (s1 q)) (q.a2 + bv (s2 q)) ((q.a3 + bv (s3 q)) &&& 9223372036854775807#64)).num = q.num % PP := by
  have v0 := add_val q.a0 19#64 false
  have v1 := add_val q.a1 0#64 (s1 q)
  have v2 := add_val q.a2 0#64 (s2 q)
  have v3 := add_val q.a3 0#64 (s3 q)
  simp only [BitVec.add_zero] at v1 v2 v3
  have b3 := bv_le (carry q.a3 0#64 (s3 q))
  have l0 := (q.a0 + 19#64 + bv false).isLt
  have l1 := (q.a1 + bv (s1 q)).isLt
  have l2 := (q.a2 + bv (s2 q)).isLt
  have l3 := (q.a3 + bv (s3 q)).isLt
  have hm : ((q.a3 + bv (s3 q)) &&& 9223372036854775807#64).toNat = (q.a3 + bv (s3 q)).toNat % 9223372036854775808 := by
    rw [BitVec.toNat_and]
    exact Nat.and_two_pow_sub_one_eq_mod _ 63
  unfold un at ht
  rw [show carry q.a0 19#64 false = s1 q from rfl] at v0
  rw [show carry q.a1 0#64 (s1 q) = s2 q from rfl] at v1
  rw [show carry q.a2 0#64 (s2 q) = s3 q from rfl] at v2
  rw [show (19#64).toNat = 19 from rfl, show (bv false).toNat = 0 from rfl] at v0
  rw [show (0#64).toNat = 0 from rfl] at v1 v2 v3
  unfold Q.num at *
  simp only [hm]
  generalize (q.a0 + 19#64 + bv false).toNat = t0 at *
  generalize (q.a1 + bv (s1 q)).toNat = t1 at *
  generalize (q.a2 + bv (s2 q)).toNat = t2 at *
  generalize (q.a3 + bv (s3 q)).toNat = t3 at *
  generalize (bv (s1 q)).toNat = c1 at *
  generalize (bv (s2 q)).toNat = c2 at *
  generalize (bv (s3 q)).toNat = c3 at *
  generalize (bv (carry q.a3 0#64 (s3 q))).toNat = c4 at *
  generalize hN : q.a0.toNat + 18446744073709551616 * q.a1.toNat + 340282366920938463463374607431768211456 * q.a2.toNat + 6277101735386680763835789423207666416102355444464034512896 * q.a3.toNat = N at *
  have hmod : N % PP = N - PP := by
    rw [Nat.mod_eq_sub_mod (by rw [PP_eq] at *; omega)]
    exact Nat.mod_eq_of_lt (by rw [PP_eq] at *; omega)
  rw [hmod]
  rw [PP_eq] at *
  omega
theorem and_top (x : BitVec 64) : bits .and .u64 (un x) 9223372036854775807 = un (x &&& 9223372036854775807#64) := UV.u_and x 9223372036854775807#64
theorem zero_test (x : BitVec 64) (h : (un x / 9223372036854775808 == 0) = true) : un x / 9223372036854775808 = 0 := by simpa using h
theorem zero_test' (x : BitVec 64) (h : (un x / 9223372036854775808 == 0) = false) : un x / 9223372036854775808 ≠ 0 := by simpa using h

set_option maxHeartbeats 400000 in
theorem settle_any (q : Q) (h : q.num < 2 * PP) (w : World) :
    Calls Tryz.prog 244 #[.int .u64 (un q.a0), .int .u64 (un q.a1), .int .u64 (un q.a2), .int .u64 (un q.a3)] w fun e w' => ∃ r : Q, e = .returned (.agg r.cells) ∧ r.num = q.num % PP ∧ Below w.heap.size w w' := by
  have HH : Hid _ := h
  clear h
  cases ht : (un (q.a3 + bv (s3 q)) / 9223372036854775808 == 0) with
  | true =>
    have HT : Hid _ := zero_test _ ht
    unfold s3 s2 s1 at ht
    go_enter Tryz.func244, Tryz.ntmps244
    go_wp2_with fail
    refine Own.ret_row Tryz.results244 rfl w.heap.size 161 q.cells (0, 0) _ rfl (heap_alloc_new _ _) Tryz.underlying161 rfl (by kernel_rfl) ⟨q, rfl, (settle_low q HH.out HT.out).symm, (Below.refl _ _).alloc (Nat.le_refl _) _⟩
  | false =>
    have HT : Hid _ := zero_test' _ ht
    have ha := and_top (q.a3 + bv (s3 q))
    unfold s3 s2 s1 at ht ha
    go_enter Tryz.func244, Tryz.ntmps244
    go_wp2_with fail
    refine Own.ret_row Tryz.results244 rfl w.heap.size 161 (Q.mk (q.a0 + 19#64 + bv false) (q.a1 + bv (s1 q)) (q.a2 + bv (s2 q)) ((q.a3 + bv (s3 q)) &&& 9223372036854775807#64)).cells (0, 0) _ rfl (heap_alloc_new _ _) Tryz.underlying161 rfl (by kernel_rfl) ⟨_, rfl, settle_high q HH.out HT.out, (Below.refl _ _).alloc (Nat.le_refl _) _⟩
end Fw
end Go.Proofs.YtbojijefenfbgaaGreatDoor

/- Words of 64 bits as Go's uint64 values: each operation of the model on them is the operation on BitVec 64. -/
import Derived.WalkKit
namespace Go.Proofs.YtkmpokneflgmbaaDoor
/-- The number of a word. (A plain definition, so that the walk does not open it.) -/
def un (x : BitVec 64) : Int := (x.toNat : Int)
namespace UV
theorem un_lo (x : BitVec 64) : 0 ≤ un x := by unfold un; omega
theorem un_hi (x : BitVec 64) : un x < 18446744073709551616 := by unfold un; have := x.isLt; omega
theorem un_ofNat (n : Nat) (h : n < 18446744073709551616) : un (BitVec.ofNat 64 n) = (n : Int) := by
  unfold un; rw [BitVec.toNat_ofNat]; rw [Nat.mod_eq_of_lt (by omega)]
theorem toNat_un (x : BitVec 64) : (un x).toNat = x.toNat := by unfold un; simp
theorem u_wrap (n : Nat) : IntKind.u64.wrap (n : Int) = un (BitVec.ofNat 64 n) := by
  unfold un; rw [IntKind.wrap_u64, BitVec.toNat_ofNat]; rfl
theorem u_wrap_un (x : BitVec 64) : IntKind.u64.wrap (un x) = un x := by
  unfold un; rw [IntKind.wrap_u64]; have := x.isLt; omega
theorem u_add (x y : BitVec 64) : IntKind.u64.wrap (un x + un y) = un (x + y) := by
  unfold un; rw [IntKind.wrap_u64, BitVec.toNat_add]; rfl
theorem u_mul (x y : BitVec 64) : IntKind.u64.wrap (un x * un y) = un (x * y) := by
  unfold un; rw [IntKind.wrap_u64, BitVec.toNat_mul]; rfl
theorem u_sub (x y : BitVec 64) : IntKind.u64.wrap (un x - un y) = un (x - y) := by
  unfold un; rw [IntKind.wrap_u64, BitVec.toNat_sub]; have := x.isLt; have := y.isLt; omega
theorem u_xor (x y : BitVec 64) : bits .xor .u64 (un x) (un y) = un (x ^^^ y) := by
  unfold un; rw [bits_xor_u64_nat _ _ x.isLt y.isLt, BitVec.toNat_xor]
theorem u_and (x y : BitVec 64) : bits .and .u64 (un x) (un y) = un (x &&& y) := by
  unfold un; rw [bits_and_u64_nat _ _ x.isLt y.isLt, BitVec.toNat_and]
theorem u_or (x y : BitVec 64) : bits .or .u64 (un x) (un y) = un (x ||| y) := by
  unfold un; rw [bits_or_u64_nat _ _ x.isLt y.isLt, BitVec.toNat_or]
theorem u_shr (x : BitVec 64) (n : Nat) : un x / 2 ^ n = un (x >>> n) := by
  unfold un; rw [BitVec.toNat_ushiftRight, Nat.shiftRight_eq_div_pow, Int.natCast_ediv]; simp
theorem u_shl (x : BitVec 64) (n : Nat) : IntKind.u64.wrap (un x * 2 ^ n) = un (x <<< n) := by
  unfold un; rw [IntKind.wrap_u64, BitVec.toNat_shiftLeft, Nat.shiftLeft_eq]
  have : ((x.toNat : Int) * 2 ^ n) = ((x.toNat * 2 ^ n : Nat) : Int) := by simp
  rw [this]; rfl
theorem u_not (x : BitVec 64) : bits .xor .u64 18446744073709551615 (un x) = un (~~~ x) := by
  unfold un
  have := bits_xor_u64_nat 18446744073709551615 x.toNat (by omega) x.isLt
  rw [show ((18446744073709551615 : Nat) : Int) = 18446744073709551615 from rfl] at this
  rw [this]
  have h : ~~~ x = BitVec.ofNat 64 18446744073709551615 ^^^ x := by
    rw [show BitVec.ofNat 64 18446744073709551615 = BitVec.allOnes 64 from rfl, BitVec.allOnes_xor]
  rw [h, BitVec.toNat_xor]; rfl
theorem u_notm (x : BitVec 64) : bits .xor .u64 IntKind.u64.max (un x) = un (~~~ x) := by rw [show IntKind.u64.max = 18446744073709551615 from rfl, u_not]
theorem u_mul_lit (n : Nat) (x : BitVec 64) : IntKind.u64.wrap ((OfNat.ofNat n : Int) * un x) = un (BitVec.ofNat 64 n * x) := by
  unfold un; rw [IntKind.wrap_u64, BitVec.toNat_mul, BitVec.toNat_ofNat]
  show ((n : Int) * (x.toNat : Int)) % 18446744073709551616 = _
  rw [Nat.mod_mul_mod]
  have : ((n : Int) * (x.toNat : Int)) = ((n * x.toNat : Nat) : Int) := by simp
  rw [this]; rfl
theorem un_inj {x y : BitVec 64} (h : un x = un y) : x = y := by
  unfold un at h; exact BitVec.eq_of_toNat_eq (by omega)
end UV
end Go.Proofs.YtkmpokneflgmbaaDoor

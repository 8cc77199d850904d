/-
  The ops of two integers as ops of words of 64 bits: plain mathematics.
-/
import Derived.Test.YtibafpbfgmjcgaaZig
namespace Go.Proofs.Ytibafpbfgmjcgaa
open Go.RowKit

theorem wrap64_range (n : Int) : -9223372036854775808 ≤ wrap64 n ∧ wrap64 n ≤ 9223372036854775807 := by unfold wrap64; omega
theorem wrap64_id {n : Int} (h0 : -9223372036854775808 ≤ n) (h1 : n ≤ 9223372036854775807) : wrap64 n = n := by unfold wrap64; omega
theorem wrap64_mod (n : Int) : wrap64 n % 18446744073709551616 = n % 18446744073709551616 := by unfold wrap64; omega
theorem wrap64_congr {x y : Int} (h : x % 18446744073709551616 = y % 18446744073709551616) : wrap64 x = wrap64 y := by unfold wrap64; omega

theorem toInt_wrap (x : BitVec 64) : x.toInt = wrap64 (x.toNat : Int) := by
  have h := x.isLt
  have e : (2 : Nat) ^ 64 = 18446744073709551616 := by decide
  rw [BitVec.toInt_eq_toNat_cond]
  unfold wrap64
  split <;> omega

theorem wrap64_bv (a : Int) : wrap64 a = (BitVec.ofInt 64 a).toInt := by
  rw [toInt_wrap, BitVec.toNat_ofInt]
  apply wrap64_congr
  omega

theorem ofInt_wrap64 (a : Int) : BitVec.ofInt 64 (wrap64 a) = BitVec.ofInt 64 a := by
  rw [wrap64_bv, BitVec.ofInt_toInt]

theorem toInt_of_range {a : Int} (h0 : -9223372036854775808 ≤ a) (h1 : a ≤ 9223372036854775807) : (BitVec.ofInt 64 a).toInt = a := by
  rw [← wrap64_bv, wrap64_id h0 h1]

theorem toInt_range (x : BitVec 64) : -9223372036854775808 ≤ x.toInt ∧ x.toInt ≤ 9223372036854775807 := by rw [toInt_wrap]; exact wrap64_range _

theorem wrap_i64_eq (n : Int) : IntKind.i64.wrap n = wrap64 n := by simp only [IntKind.wrap_i64, wrap64]

theorem and_bv (a b : Int) : bits BinOp.and IntKind.i64 a b = (BitVec.ofInt 64 a &&& BitVec.ofInt 64 b).toInt := by
  rw [toInt_wrap]
  show IntKind.i64.wrap ((BitVec.ofInt 64 a &&& BitVec.ofInt 64 b).toNat : Nat) = _
  exact wrap_i64_eq _
theorem or_bv (a b : Int) : bits BinOp.or IntKind.i64 a b = (BitVec.ofInt 64 a ||| BitVec.ofInt 64 b).toInt := by
  rw [toInt_wrap]
  show IntKind.i64.wrap ((BitVec.ofInt 64 a ||| BitVec.ofInt 64 b).toNat : Nat) = _
  exact wrap_i64_eq _
theorem xor_bv (a b : Int) : bits BinOp.xor IntKind.i64 a b = (BitVec.ofInt 64 a ^^^ BitVec.ofInt 64 b).toInt := by
  rw [toInt_wrap]
  show IntKind.i64.wrap ((BitVec.ofInt 64 a ^^^ BitVec.ofInt 64 b).toNat : Nat) = _
  exact wrap_i64_eq _

theorem shl_bv (a : Int) (n : Nat) : wrap64 (a * 2 ^ n) = (BitVec.ofInt 64 a <<< n).toInt := by
  rw [wrap64_bv, BitVec.ofInt_mul, BitVec.shiftLeft_eq_mul_twoPow]
  congr 2
  apply BitVec.eq_of_toNat_eq
  rw [BitVec.toNat_ofInt, BitVec.toNat_twoPow]
  have e : (2 : Int) ^ n = ((2 ^ n : Nat) : Int) := by simp
  rw [e]
  omega

theorem low_i64 (a : Int) (k : Nat) (m : Int) (hm : BitVec.ofInt 64 m = BitVec.ofNat 64 (2 ^ k - 1)) (hk : k ≤ 62) : bits BinOp.and IntKind.i64 a m = a % 2 ^ k := by
  have hp : 2 ^ k ≤ 2 ^ 62 := Nat.pow_le_pow_right (by omega) hk
  have hp0 : 0 < 2 ^ k := Nat.pos_of_ne_zero (by simp)
  have e62 : (2 : Nat) ^ 62 = 4611686018427387904 := by decide
  have e64 : (2 : Nat) ^ 64 = 18446744073709551616 := by decide
  have key : (BitVec.ofInt 64 a &&& BitVec.ofInt 64 m).toNat = (a % ((2 ^ 64 : Nat) : Int)).toNat % 2 ^ k := by
    rw [BitVec.toNat_and, hm, BitVec.toNat_ofNat, BitVec.toNat_ofInt, Nat.mod_eq_of_lt (by omega), Nat.and_two_pow_sub_one_eq_mod]
  show IntKind.i64.wrap ((BitVec.ofInt 64 a &&& BitVec.ofInt 64 m).toNat : Nat) = _
  rw [key, IntKind.wrap_i64]
  have hlt : (a % ((2 ^ 64 : Nat) : Int)).toNat % 2 ^ k < 2 ^ k := Nat.mod_lt _ hp0
  have hd : ((2 : Nat) ^ k : Int) ∣ ((2 ^ 64 : Nat) : Int) := by
    have : (2 : Nat) ^ k ∣ 2 ^ 64 := Nat.pow_dvd_pow 2 (by omega)
    exact_mod_cast Int.natCast_dvd_natCast.2 this
  have e2 : (((a % ((2 ^ 64 : Nat) : Int)).toNat % 2 ^ k : Nat) : Int) = a % 2 ^ k := by
    rw [Int.natCast_emod]
    have h0 : 0 ≤ a % ((2 ^ 64 : Nat) : Int) := Int.emod_nonneg _ (by omega)
    rw [Int.toNat_of_nonneg h0]
    have := Int.emod_emod_of_dvd a hd
    simpa using this
  have hb : (a % 2 ^ k : Int) < 4611686018427387904 := by rw [← e2]; omega
  have hb0 : (0 : Int) ≤ a % 2 ^ k := by rw [← e2]; omega
  rw [e2]
  omega

theorem and63_i64 (a : Int) : bits BinOp.and IntKind.i64 a 63 = a % 64 := low_i64 a 6 63 (by decide) (by omega)
theorem and1_i64 (a : Int) : bits BinOp.and IntKind.i64 a 1 = a % 2 := low_i64 a 1 1 (by decide) (by omega)
theorem and31_i64 (a : Int) : bits BinOp.and IntKind.i64 a 31 = a % 32 := low_i64 a 5 31 (by decide) (by omega)
theorem and255_i64 (a : Int) : bits BinOp.and IntKind.i64 a 255 = a % 256 := low_i64 a 8 255 (by decide) (by omega)

theorem or64_i64 (a : Int) (h0 : 0 ≤ a) (h1 : a < 64) : bits BinOp.or IntKind.i64 a 64 = a + 64 := by
  obtain ⟨n, rfl⟩ := Int.eq_ofNat_of_zero_le h0
  have k : ∀ x : Nat, x < 64 → bits BinOp.or IntKind.i64 (x : Int) 64 = (x : Int) + 64 := by decide +kernel
  exact k n (by omega)
end Go.Proofs.Ytibafpbfgmjcgaa

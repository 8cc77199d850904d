/-
  Low bits of integers.
-/
import Derived.WalkKit
import Derived.Laws.BitsAllLaws
namespace Go.Proofs.YtflbjfcmnopfaaaDoor
open Go.RowKit

theorem lowb3_i64 (a : Int) : bits BinOp.and IntKind.i64 a 7 = a % 8 := by
  have key : (BitVec.ofInt 64 a &&& BitVec.ofInt 64 7).toNat = (a % ((2 ^ 64 : Nat) : Int)).toNat % 2 ^ 3 := by
    have hm : BitVec.ofInt 64 7 = BitVec.ofNat 64 (2 ^ 3 - 1) := by decide
    rw [BitVec.toNat_and, hm, BitVec.toNat_ofNat, BitVec.toNat_ofInt, Nat.mod_eq_of_lt (by omega), Nat.and_two_pow_sub_one_eq_mod]
  show IntKind.i64.wrap ((BitVec.ofInt 64 a &&& BitVec.ofInt 64 7).toNat : Nat) = _
  rw [key, IntKind.wrap_i64]
  have e64 : (2 : Nat) ^ 64 = 18446744073709551616 := by decide
  have ek : (2 : Nat) ^ 3 = 8 := by decide
  rw [e64, ek]
  omega

theorem lowb4_i64 (a : Int) : bits BinOp.and IntKind.i64 a 15 = a % 16 := by
  have key : (BitVec.ofInt 64 a &&& BitVec.ofInt 64 15).toNat = (a % ((2 ^ 64 : Nat) : Int)).toNat % 2 ^ 4 := by
    have hm : BitVec.ofInt 64 15 = BitVec.ofNat 64 (2 ^ 4 - 1) := by decide
    rw [BitVec.toNat_and, hm, BitVec.toNat_ofNat, BitVec.toNat_ofInt, Nat.mod_eq_of_lt (by omega), Nat.and_two_pow_sub_one_eq_mod]
  show IntKind.i64.wrap ((BitVec.ofInt 64 a &&& BitVec.ofInt 64 15).toNat : Nat) = _
  rw [key, IntKind.wrap_i64]
  have e64 : (2 : Nat) ^ 64 = 18446744073709551616 := by decide
  have ek : (2 : Nat) ^ 4 = 16 := by decide
  rw [e64, ek]
  omega

theorem lowb5_i64 (a : Int) : bits BinOp.and IntKind.i64 a 31 = a % 32 := by
  have key : (BitVec.ofInt 64 a &&& BitVec.ofInt 64 31).toNat = (a % ((2 ^ 64 : Nat) : Int)).toNat % 2 ^ 5 := by
    have hm : BitVec.ofInt 64 31 = BitVec.ofNat 64 (2 ^ 5 - 1) := by decide
    rw [BitVec.toNat_and, hm, BitVec.toNat_ofNat, BitVec.toNat_ofInt, Nat.mod_eq_of_lt (by omega), Nat.and_two_pow_sub_one_eq_mod]
  show IntKind.i64.wrap ((BitVec.ofInt 64 a &&& BitVec.ofInt 64 31).toNat : Nat) = _
  rw [key, IntKind.wrap_i64]
  have e64 : (2 : Nat) ^ 64 = 18446744073709551616 := by decide
  have ek : (2 : Nat) ^ 5 = 32 := by decide
  rw [e64, ek]
  omega

theorem lowb10_i64 (a : Int) : bits BinOp.and IntKind.i64 a 1023 = a % 1024 := by
  have key : (BitVec.ofInt 64 a &&& BitVec.ofInt 64 1023).toNat = (a % ((2 ^ 64 : Nat) : Int)).toNat % 2 ^ 10 := by
    have hm : BitVec.ofInt 64 1023 = BitVec.ofNat 64 (2 ^ 10 - 1) := by decide
    rw [BitVec.toNat_and, hm, BitVec.toNat_ofNat, BitVec.toNat_ofInt, Nat.mod_eq_of_lt (by omega), Nat.and_two_pow_sub_one_eq_mod]
  show IntKind.i64.wrap ((BitVec.ofInt 64 a &&& BitVec.ofInt 64 1023).toNat : Nat) = _
  rw [key, IntKind.wrap_i64]
  have e64 : (2 : Nat) ^ 64 = 18446744073709551616 := by decide
  have ek : (2 : Nat) ^ 10 = 1024 := by decide
  rw [e64, ek]
  omega

theorem lowb11_i64 (a : Int) : bits BinOp.and IntKind.i64 a 2047 = a % 2048 := by
  have key : (BitVec.ofInt 64 a &&& BitVec.ofInt 64 2047).toNat = (a % ((2 ^ 64 : Nat) : Int)).toNat % 2 ^ 11 := by
    have hm : BitVec.ofInt 64 2047 = BitVec.ofNat 64 (2 ^ 11 - 1) := by decide
    rw [BitVec.toNat_and, hm, BitVec.toNat_ofNat, BitVec.toNat_ofInt, Nat.mod_eq_of_lt (by omega), Nat.and_two_pow_sub_one_eq_mod]
  show IntKind.i64.wrap ((BitVec.ofInt 64 a &&& BitVec.ofInt 64 2047).toNat : Nat) = _
  rw [key, IntKind.wrap_i64]
  have e64 : (2 : Nat) ^ 64 = 18446744073709551616 := by decide
  have ek : (2 : Nat) ^ 11 = 2048 := by decide
  rw [e64, ek]
  omega

theorem lowb12_i64 (a : Int) : bits BinOp.and IntKind.i64 a 4095 = a % 4096 := by
  have key : (BitVec.ofInt 64 a &&& BitVec.ofInt 64 4095).toNat = (a % ((2 ^ 64 : Nat) : Int)).toNat % 2 ^ 12 := by
    have hm : BitVec.ofInt 64 4095 = BitVec.ofNat 64 (2 ^ 12 - 1) := by decide
    rw [BitVec.toNat_and, hm, BitVec.toNat_ofNat, BitVec.toNat_ofInt, Nat.mod_eq_of_lt (by omega), Nat.and_two_pow_sub_one_eq_mod]
  show IntKind.i64.wrap ((BitVec.ofInt 64 a &&& BitVec.ofInt 64 4095).toNat : Nat) = _
  rw [key, IntKind.wrap_i64]
  have e64 : (2 : Nat) ^ 64 = 18446744073709551616 := by decide
  have ek : (2 : Nat) ^ 12 = 4096 := by decide
  rw [e64, ek]
  omega

theorem lowb13_i64 (a : Int) : bits BinOp.and IntKind.i64 a 8191 = a % 8192 := by
  have key : (BitVec.ofInt 64 a &&& BitVec.ofInt 64 8191).toNat = (a % ((2 ^ 64 : Nat) : Int)).toNat % 2 ^ 13 := by
    have hm : BitVec.ofInt 64 8191 = BitVec.ofNat 64 (2 ^ 13 - 1) := by decide
    rw [BitVec.toNat_and, hm, BitVec.toNat_ofNat, BitVec.toNat_ofInt, Nat.mod_eq_of_lt (by omega), Nat.and_two_pow_sub_one_eq_mod]
  show IntKind.i64.wrap ((BitVec.ofInt 64 a &&& BitVec.ofInt 64 8191).toNat : Nat) = _
  rw [key, IntKind.wrap_i64]
  have e64 : (2 : Nat) ^ 64 = 18446744073709551616 := by decide
  have ek : (2 : Nat) ^ 13 = 8192 := by decide
  rw [e64, ek]
  omega

end Go.Proofs.YtflbjfcmnopfaaaDoor

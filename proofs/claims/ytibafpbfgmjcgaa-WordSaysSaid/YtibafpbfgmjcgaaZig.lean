/-
  word.Zig and word.Zag, as functions of their integer.
-/
import Derived.Test.YtibafpbfgmjcgaaWord
namespace Go.Proofs.Ytibafpbfgmjcgaa
open Go.RowKit

def zig (a : Int) : Int := if 0 ≤ a then 2 * a else -2 * a - 1
def zag (u : Int) : Int := if u % 2 = 0 then u / 2 else -(u / 2) - 1

theorem ret_int {k : IntKind} {a b : Int} (h : a = b) : Ending.returned (.int k a) = .returned (.int k b) := by rw [h]

theorem xor_zero_u64 (x : Int) (h0 : 0 ≤ x) (h1 : x < 18446744073709551616) : bits BinOp.xor IntKind.u64 x 0 = x := by
  rw [u64_xor x 0 h0 h1 (by omega) (by omega)]
  simp
  omega

theorem xor_ones_u64 (x : Int) (h0 : 0 ≤ x) (h1 : x < 18446744073709551616) : bits BinOp.xor IntKind.u64 x 18446744073709551615 = 18446744073709551615 - x := by
  rw [u64_xor x _ h0 h1 (by omega) (by omega)]
  obtain ⟨n, rfl⟩ := Int.eq_ofNat_of_zero_le h0
  have hn : n < 2 ^ 64 := by have : (2 : Nat) ^ 64 = 18446744073709551616 := by decide
                             omega
  have e : (18446744073709551615 : Int).toNat = (BitVec.allOnes 64).toNat := by decide
  rw [e]
  have h2 : ((n : Int)).toNat = (BitVec.ofNat 64 n).toNat := by rw [BitVec.toNat_ofNat, Nat.mod_eq_of_lt hn]; rfl
  rw [h2, ← BitVec.toNat_xor, BitVec.xor_allOnes, BitVec.toNat_not, BitVec.toNat_ofNat, Nat.mod_eq_of_lt hn]
  have : (2 : Nat) ^ 64 = 18446744073709551616 := by decide
  omega

theorem zig_term (a : Int) (h0 : -9223372036854775808 ≤ a) (h1 : a ≤ 9223372036854775807) :
    bits BinOp.xor IntKind.u64 (IntKind.u64.wrap (IntKind.u64.wrap a * 2)) (IntKind.u64.wrap (a / 9223372036854775808)) = zig a := by
  simp only [IntKind.wrap_u64]
  unfold zig
  by_cases h : 0 ≤ a
  · have e1 : a / 9223372036854775808 % 18446744073709551616 = 0 := by omega
    rw [e1, xor_zero_u64 _ (by omega) (by omega), if_pos h]
    omega
  · have e1 : a / 9223372036854775808 % 18446744073709551616 = 18446744073709551615 := by omega
    rw [e1, xor_ones_u64 _ (by omega) (by omega), if_neg h]
    omega

theorem zig_any (a : Int) (w : World) (h0 : -9223372036854775808 ≤ a) (h1 : a ≤ 9223372036854775807) :
    Calls Try.prog 22 #[.int .i64 a] w fun e w' => e = .returned (.int .u64 (zig a)) ∧ w = w' := by
  have hz := zig_term a h0 h1
  have HZ := Lib.hid hz
  clear hz h0 h1
  go_enter Try.func22, Try.ntmps22
  go_wp2
  go_ret
  exact ⟨ret_int HZ.out, rfl⟩

theorem xor_zero_i64 (x : Int) (h0 : -9223372036854775808 ≤ x) (h1 : x ≤ 9223372036854775807) : bits BinOp.xor IntKind.i64 x 0 = x := by
  show IntKind.i64.wrap ((BitVec.ofInt 64 x ^^^ BitVec.ofInt 64 0).toNat : Nat) = x
  have e : BitVec.ofInt 64 0 = 0#64 := by decide
  rw [e, BitVec.xor_zero, BitVec.toNat_ofInt, IntKind.wrap_i64]
  omega

theorem xor_neg_i64 (x : Nat) (h1 : x < 9223372036854775808) : bits BinOp.xor IntKind.i64 (x : Int) (-1) = -1 - (x : Int) := by
  rw [← i64_not x h1]
  simp only [bits, BitVec.xor_comm]

theorem and1_u64 (u : Int) (h0 : 0 ≤ u) (h1 : u < 18446744073709551616) : bits BinOp.and IntKind.u64 u 1 = u % 2 := by
  rw [u64_and u 1 h0 h1 (by omega) (by omega)]
  have h : (1 : Int).toNat = 2 ^ 1 - 1 := by decide
  rw [h, Nat.and_two_pow_sub_one_eq_mod]
  omega

theorem zag_term (u : Int) (h0 : 0 ≤ u) (h1 : u < 18446744073709551616) :
    bits BinOp.xor IntKind.i64 (wrap64 (u / 2)) (wrap64 (-wrap64 (bits BinOp.and IntKind.u64 u 1))) = zag u := by
  rw [and1_u64 u h0 h1]
  have e0 : wrap64 (u / 2) = u / 2 := by unfold wrap64; omega
  rw [e0]
  unfold zag
  by_cases h : u % 2 = 0
  · have e1 : wrap64 (-wrap64 (u % 2)) = 0 := by rw [h]; unfold wrap64; omega
    rw [e1, xor_zero_i64 _ (by omega) (by omega), if_pos h]
  · have e1 : wrap64 (-wrap64 (u % 2)) = -1 := by rw [show u % 2 = 1 by omega]; unfold wrap64; omega
    have e2 : u / 2 = ((u / 2).toNat : Int) := by omega
    rw [e1, if_neg h, e2, xor_neg_i64 _ (by omega)]
    omega

theorem zag_any (u : Int) (w : World) (h0 : 0 ≤ u) (h1 : u < 18446744073709551616) :
    Calls Try.prog 24 #[.int .u64 u] w fun e w' => e = .returned (.int .i64 (zag u)) ∧ w = w' := by
  have hz := zag_term u h0 h1
  have HZ := Lib.hid hz
  clear hz h0 h1
  go_enter Try.func24, Try.ntmps24
  go_wp2
  go_ret
  exact ⟨ret_int HZ.out, rfl⟩
end Go.Proofs.Ytibafpbfgmjcgaa

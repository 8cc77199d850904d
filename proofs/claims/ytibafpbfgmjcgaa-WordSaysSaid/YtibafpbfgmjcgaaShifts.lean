/-
  WordShifts, walked: it returns true, and writes nothing that was there.
-/
import Derived.Test.YtibafpbfgmjcgaaFirst
import Derived.Test.YtibafpbfgmjcgaaBv
namespace Go.Proofs.Ytibafpbfgmjcgaa
open Go.RowKit

theorem shl_def (a b : Int) : (two 16 a b).1 = wrap64 (a * 2 ^ (b % 64).toNat) := rfl
theorem shr_def (a b : Int) : (two 17 a b).1 = a / 2 ^ (b % 64).toNat := rfl
theorem mul_def (a b : Int) : (two 10 a b).1 = wrap64 (a * b) := rfl
theorem sub_def (a b : Int) : (two 9 a b).1 = wrap64 (a - b) := rfl
theorem and_def (a b : Int) : (two 13 a b).1 = bits .and .i64 a b := rfl
theorem xor_def (a b : Int) : (two 15 a b).1 = bits .xor .i64 a b := rfl
theorem lt_def (a b : Int) : (two 19 a b).1 = if a < b then 1 else 0 := by by_cases h : a < b <;> simp [two, h]

theorem shl_round (a b : Int) : (two 16 a (b % 64)).1 = (two 16 a b).1 := by rw [shl_def, shl_def]; congr 3; omega
theorem shr_round (a b : Int) : (two 17 a (b % 64)).1 = (two 17 a b).1 := by rw [shr_def, shr_def]; congr 3; omega
theorem shl_64 (a b : Int) : (two 16 a (b % 64 + 64)).1 = (two 16 a b).1 := by rw [shl_def, shl_def]; congr 3; omega
theorem shl_0 (a : Int) (h0 : -9223372036854775808 ≤ a) (h1 : a ≤ 9223372036854775807) : (two 16 a 0).1 = a := by
  rw [shl_def]; simpa using wrap64_id h0 h1
theorem shr_0 (a : Int) : (two 17 a 0).1 = a := by rw [shr_def]; simp

theorem shl_next (a b : Int) (h : b % 64 < 63) : (two 16 a (b % 64 + 1)).1 = (two 10 (two 16 a b).1 2).1 := by
  rw [shl_def, mul_def, shl_def]
  have e : ((b % 64 + 1) % 64).toNat = (b % 64).toNat + 1 := by omega
  rw [e, Int.pow_succ, ← Int.mul_assoc]
  apply wrap64_congr
  rw [Int.mul_emod, Int.mul_emod (wrap64 _), wrap64_mod]

theorem shr_range (a : Int) (n : Nat) (h0 : -9223372036854775808 ≤ a) (h1 : a ≤ 9223372036854775807) : -9223372036854775808 ≤ a / 2 ^ n ∧ a / 2 ^ n ≤ 9223372036854775807 := by
  have hp : (1 : Int) ≤ 2 ^ n := by
    have : (0 : Int) < 2 ^ n := Int.pow_pos (by omega)
    omega
  constructor
  · apply Int.le_ediv_of_mul_le (by omega)
    have : (2 : Int) ^ n * 9223372036854775808 ≥ 1 * 9223372036854775808 := Int.mul_le_mul_of_nonneg_right hp (by omega)
    have e : -9223372036854775808 * (2 : Int) ^ n = -((2 : Int) ^ n * 9223372036854775808) := by rw [Int.mul_comm]; omega
    omega
  · by_cases hn : 0 ≤ a
    · have := Int.ediv_le_self (2 ^ n : Int) hn
      omega
    · have : a / 2 ^ n < 0 := Int.ediv_neg_of_neg_of_pos (by omega) (by omega)
      omega

theorem shr_next (a b : Int) (h : b % 64 < 63) (h0 : -9223372036854775808 ≤ a) (h1 : a ≤ 9223372036854775807) :
    (two 17 a (b % 64 + 1)).1 = wrap64 ((two 9 (two 17 a b).1 (two 13 (two 17 a b).1 1).1).1.tdiv 2) := by
  have e : ((b % 64 + 1) % 64).toNat = (b % 64).toNat + 1 := by omega
  have hy := shr_range a (b % 64).toNat h0 h1
  have ed : a / 2 ^ ((b % 64).toNat + 1) = (a / 2 ^ (b % 64).toNat) / 2 := by
    rw [Int.pow_succ, ← Int.ediv_ediv_of_nonneg]
    exact Int.le_of_lt (Int.pow_pos (by omega))
  rw [shr_def, e, ed, sub_def, and_def, and1_i64, shr_def]
  generalize a / 2 ^ (b % 64).toNat = y at hy ⊢
  have ew : wrap64 (y - y % 2) = y - y % 2 := wrap64_id (by omega) (by omega)
  have et : (y - y % 2).tdiv 2 = y / 2 := by
    obtain ⟨q, hq⟩ : ∃ q, y - y % 2 = q * 2 := ⟨y / 2, by omega⟩
    rw [hq, Int.mul_tdiv_cancel _ (by omega)]
    omega
  rw [ew, et, wrap64_id (by omega) (by omega)]

theorem shr_63 (c : Int) (h0 : -9223372036854775808 ≤ c) (h1 : c ≤ 9223372036854775807) : (two 17 c 63).1 = wrap64 (-(two 19 c 0).1) := by
  rw [shr_def, lt_def]
  have e : ((63 : Int) % 64).toNat = 63 := by decide
  have e2 : (2 : Int) ^ 63 = 9223372036854775808 := by decide
  rw [e, e2]
  unfold wrap64
  split <;> omega

theorem shl_xor (a c b : Int) : (two 15 (two 16 a b).1 (two 16 c b).1).1 = (two 16 (two 15 a c).1 b).1 := by
  rw [xor_def, shl_def, shl_def, shl_def, xor_def, xor_bv, shl_bv, shl_bv, shl_bv, xor_bv, BitVec.ofInt_toInt, BitVec.ofInt_toInt, BitVec.ofInt_toInt, BitVec.shiftLeft_xor_distrib]

theorem shifts_law (a b c : Int) (w : World) (ha : (Lit.int .i64 a).wf = true) (_hb : (Lit.int .i64 b).wf = true) (hc : (Lit.int .i64 c).wf = true) :
    Calls Try.prog 6 #[.int .i64 a, .int .i64 b, .int .i64 c] w (TruePost w) := by
  obtain ⟨a0, a1⟩ := wf_i64 ha
  obtain ⟨c0, c1⟩ := wf_i64 hc
  have k1 : bits BinOp.and IntKind.i64 b 63 = b % 64 := and63_i64 b
  have k2 : bits BinOp.or IntKind.i64 (b % 64) 64 = b % 64 + 64 := or64_i64 _ (by omega) (by omega)
  have f1 : ((two 16 a b).1 != (two 16 a (b % 64)).1) = false := by rw [shl_round]; simp
  have f2 : ((two 17 a b).1 != (two 17 a (b % 64)).1) = false := by rw [shr_round]; simp
  have f3 : ((two 16 a (b % 64 + 64)).1 != (two 16 a b).1) = false := by rw [shl_64]; simp
  have f4 : ((two 16 a 0).1 != a) = false := by rw [shl_0 a a0 a1]; simp
  have f5 : ((two 17 a 0).1 != a) = false := by rw [shr_0]; simp
  have f8 : ((two 17 c 63).1 == wrap64 (-(two 19 c 0).1)) = true := by rw [shr_63 c c0 c1]; simp
  have f9 : ((two 15 (two 16 a (b % 64)).1 (two 16 c (b % 64)).1).1 == (two 16 (two 15 a c).1 (b % 64)).1) = true := by
    rw [shl_round, shl_round, shl_round, shl_xor]; simp
  by_cases h : b % 64 < 63
  · have t1 : decide (b % 64 < 63) = true := by simpa using h
    have f6 : ((two 16 a (b % 64 + 1)).1 != (two 10 (two 16 a b).1 2).1) = false := by rw [shl_next a b h]; simp
    have f7 : ((two 17 a (b % 64 + 1)).1 != wrap64 ((two 9 (two 17 a b).1 (two 13 (two 17 a b).1 1).1).1.tdiv 2)) = false := by rw [shr_next a b h a0 a1]; simp
    clear ha hc a0 a1 c0 c1 _hb
    go_enter Try.func6, Try.ntmps6
    go_wp2_with (first
      | (go_at_call 10; refine (first_any _).mono ?_; rintro e w1 ⟨rfl, hb⟩)
      | (go_at_call 26; refine (func2_any _ _ _ _).mono ?_; rintro e w' ⟨rfl, rfl⟩))
    go_ret
    exact ⟨rfl, by assumption⟩
  · have t1 : decide (b % 64 < 63) = false := by simpa using h
    clear ha hc a0 a1 c0 c1 _hb
    go_enter Try.func6, Try.ntmps6
    go_wp2_with (first
      | (go_at_call 10; refine (first_any _).mono ?_; rintro e w1 ⟨rfl, hb⟩)
      | (go_at_call 26; refine (func2_any _ _ _ _).mono ?_; rintro e w' ⟨rfl, rfl⟩))
    go_ret
    exact ⟨rfl, by assumption⟩
end Go.Proofs.Ytibafpbfgmjcgaa

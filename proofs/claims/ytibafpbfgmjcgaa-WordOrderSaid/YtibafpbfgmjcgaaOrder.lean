/-
  WordOrder, walked: it returns true, and writes nothing that was there.
-/
import Derived.Test.YtibafpbfgmjcgaaFirst
namespace Go.Proofs.Ytibafpbfgmjcgaa
open Go.RowKit

theorem neg_neg (a : Int) (h0 : -9223372036854775808 ≤ a) (h1 : a ≤ 9223372036854775807) : wrap64 (-wrap64 (-a)) = a := by unfold wrap64; omega

theorem lt_one (a b : Int) : ((two 19 a b).1 == 1) = decide (a < b) := by
  by_cases h : a < b <;> simp [two, h]

theorem eq_one (a b : Int) : ((two 20 a b).1 == 1) = decide (a = b) := by
  by_cases h : a = b <;> simp [two, h]

/-- Two words of bits are the same just if nothing is left of them by xor. -/
theorem xor_zero_iff (a b : Int) (a0 : -9223372036854775808 ≤ a) (a1 : a ≤ 9223372036854775807) (b0 : -9223372036854775808 ≤ b) (b1 : b ≤ 9223372036854775807) :
    ((two 15 a b).1 == 0) = decide (a = b) := by
  have e : (two 15 a b).1 = IntKind.i64.wrap ((BitVec.ofInt 64 a ^^^ BitVec.ofInt 64 b).toNat : Nat) := rfl
  rw [e, IntKind.wrap_i64]
  have hlt := (BitVec.ofInt 64 a ^^^ BitVec.ofInt 64 b).isLt
  have e64 : (2 : Nat) ^ 64 = 18446744073709551616 := by decide
  by_cases h : a = b
  · subst h
    simp [BitVec.xor_self]
  · have hne : (BitVec.ofInt 64 a ^^^ BitVec.ofInt 64 b).toNat ≠ 0 := by
      intro hz
      have hx : BitVec.ofInt 64 a ^^^ BitVec.ofInt 64 b = 0#64 := BitVec.eq_of_toNat_eq (by simpa using hz)
      have hab : BitVec.ofInt 64 a = BitVec.ofInt 64 b := by
        have := congrArg (· ^^^ BitVec.ofInt 64 b) hx
        simpa [BitVec.xor_assoc, BitVec.xor_self] using this
      have := congrArg BitVec.toNat hab
      rw [BitVec.toNat_ofInt, BitVec.toNat_ofInt] at this
      omega
    simp only [h, decide_false, beq_eq_false_iff_ne, ne_eq]
    omega

theorem order_walk (a b c : Int) (a0 : -9223372036854775808 ≤ a) (a1 : a ≤ 9223372036854775807) (b0 : -9223372036854775808 ≤ b) (b1 : b ≤ 9223372036854775807) (w : World) :
    Calls Try.prog 7 #[.int .i64 a, .int .i64 b, .int .i64 c] w (TruePost w) := by
  have f1 : (wrap64 (-wrap64 (-a)) != a) = false := by rw [neg_neg a a0 a1]; simp
  have f2 : (wrap64 (-a) != (two 9 0 a).1) = false := by simp [two]
  have f3 := lt_one a b
  have f4 := lt_one b c
  have f5 := lt_one a c
  have f6 : ((two 19 a a).1 == 0) = true := by simp [two]
  have f7 := eq_one a b
  have f8 := xor_zero_iff a b a0 a1 b0 b1
  have f9 : ((two 20 a a).1 == 1) = true := by simp [two]
  clear a0 a1 b0 b1
  have cases : (decide (a < b) = true ∧ decide (a = b) = false ∧ decide (b < c) = true ∧ decide (a < c) = true) ∨ (decide (a < b) = true ∧ decide (a = b) = false ∧ decide (b < c) = false ∧ decide (b ≤ b) = true) ∨ (decide (a < b) = false ∧ decide (a = b) = false ∧ decide (b ≤ b) = true ∧ decide (b ≤ b) = true) ∨ (decide (a < b) = false ∧ decide (a = b) = true ∧ decide (b ≤ b) = true ∧ decide (b ≤ b) = true) := by
    simp only [decide_eq_true_eq, decide_eq_false_iff_not]; omega
  rcases cases with ⟨g1, g2, g3, g4⟩ | ⟨g1, g2, g3, g4⟩ | ⟨g1, g2, g3, g4⟩ | ⟨g1, g2, g3, g4⟩
  all_goals
    go_enter Try.func7, Try.ntmps7
    go_wp2_with (first
      | (go_at_call 10; refine (first_any _).mono ?_; rintro e w1 ⟨rfl, hb⟩)
      | (go_at_call 13; refine (one_any _ _ _).mono ?_; rintro e w' ⟨rfl, rfl⟩)
      | (go_at_call 26; refine (func2_any _ _ _ _).mono ?_; rintro e w' ⟨rfl, rfl⟩))
    go_ret
    exact ⟨rfl, by assumption⟩

theorem order_law (a b c : Int) (w : World) (ha : (Lit.int .i64 a).wf = true) (hb : (Lit.int .i64 b).wf = true) (_hc : (Lit.int .i64 c).wf = true) :
    Calls Try.prog 7 #[.int .i64 a, .int .i64 b, .int .i64 c] w (TruePost w) :=
  order_walk a b c (wf_i64 ha).1 (wf_i64 ha).2 (wf_i64 hb).1 (wf_i64 hb).2 w
end Go.Proofs.Ytibafpbfgmjcgaa

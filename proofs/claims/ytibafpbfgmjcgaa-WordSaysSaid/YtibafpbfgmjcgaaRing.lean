/-
  WordRing, walked: it returns true, and writes nothing that was there.
-/
import Derived.Test.YtibafpbfgmjcgaaShifts
namespace Go.Proofs.Ytibafpbfgmjcgaa
open Go.RowKit

theorem add_def (a b : Int) : (two 8 a b).1 = wrap64 (a + b) := rfl
theorem or_def (a b : Int) : (two 14 a b).1 = bits .or .i64 a b := rfl
theorem div_def (a b : Int) (h : b ≠ 0) : two 11 a b = (wrap64 (a.tdiv b), 0) := by simp [two, h]
theorem rem_def (a b : Int) (h : b ≠ 0) : two 12 a b = (a.tmod b, 0) := by simp [two, h]
theorem eq_def (a b : Int) : (two 20 a b).1 = if a = b then 1 else 0 := by by_cases h : a = b <;> simp [two, h]

theorem ring_dist (a b c : Int) : (two 10 a (two 8 b c).1).1 = (two 8 (two 10 a b).1 (two 10 a c).1).1 := by
  rw [mul_def, add_def, add_def, mul_def, mul_def]
  apply wrap64_congr
  rw [Int.mul_emod, wrap64_mod, ← Int.mul_emod, Int.mul_add, Int.add_emod (wrap64 _), wrap64_mod, wrap64_mod, ← Int.add_emod]

theorem ring_back (a b : Int) (h0 : -9223372036854775808 ≤ a) (h1 : a ≤ 9223372036854775807) : (two 9 (two 8 a b).1 b).1 = a := by
  rw [sub_def, add_def]
  unfold wrap64; omega

theorem rest_back (a b : Int) (h0 : -9223372036854775808 ≤ a) (h1 : a ≤ 9223372036854775807) : (two 8 (two 10 (wrap64 (a.tdiv b)) b).1 (a.tmod b)).1 = a := by
  rw [add_def, mul_def]
  have e : a = a.tdiv b * b + a.tmod b := by rw [Int.mul_comm]; exact (Int.mul_tdiv_add_tmod a b).symm
  have e2 : wrap64 (wrap64 (wrap64 (a.tdiv b) * b) + a.tmod b) = wrap64 a := by
    apply wrap64_congr
    rw [Int.add_emod, wrap64_mod, Int.mul_emod, wrap64_mod, ← Int.mul_emod, ← Int.add_emod, ← e]
  rw [e2, wrap64_id h0 h1]

theorem tmod_sign (a b : Int) (h : a.tmod b ≠ 0) : decide (a.tmod b < 0) = decide (a < 0) := by
  by_cases ha : 0 ≤ a
  · have := Int.tmod_nonneg b ha
    have h1 : ¬ a.tmod b < 0 := by omega
    have h2 : ¬ a < 0 := by omega
    simp [h1, h2]
  · have e : a.tmod b = -((-a).tmod b) := by rw [Int.neg_tmod, Int.neg_neg]
    have := Int.tmod_nonneg b (show 0 ≤ -a by omega)
    have h1 : a.tmod b < 0 := by omega
    have h2 : a < 0 := by omega
    simp [h1, h2]

theorem tmod_small (a b : Int) (hb : b ≠ 0) : -(b.natAbs : Int) < a.tmod b ∧ a.tmod b < (b.natAbs : Int) := by
  by_cases ha : 0 ≤ a
  · have h1 := Int.tmod_nonneg b ha
    have h2 : a.tmod b < (b.natAbs : Int) := by rw [Int.tmod_eq_emod_of_nonneg ha]; exact Int.emod_lt a hb
    omega
  · have e : a.tmod b = -((-a).tmod b) := by rw [Int.neg_tmod, Int.neg_neg]
    have h1 := Int.tmod_nonneg b (show 0 ≤ -a by omega)
    have h2 : (-a).tmod b < (b.natAbs : Int) := by rw [Int.tmod_eq_emod_of_nonneg (show 0 ≤ -a by omega)]; exact Int.emod_lt (-a) hb
    omega

theorem tmod_m1 (a : Int) : a.tmod (-1) = 0 := by
  have h := tmod_small a (-1) (by omega)
  simp only [Int.natAbs_neg, Int.natAbs_one] at h
  omega

theorem xor_back (a b : Int) (h0 : -9223372036854775808 ≤ a) (h1 : a ≤ 9223372036854775807) : (two 15 (two 15 a b).1 b).1 = a := by
  rw [xor_def, xor_def, xor_bv, xor_bv, BitVec.ofInt_toInt, BitVec.xor_assoc, BitVec.xor_self, BitVec.xor_zero, toInt_of_range h0 h1]

theorem and_or_xor (a b : Int) : bits BinOp.or IntKind.i64 (two 13 a b).1 (two 15 a b).1 = (two 14 a b).1 := by
  rw [or_def, and_def, xor_def, or_bv, and_bv, xor_bv, or_bv, BitVec.ofInt_toInt, BitVec.ofInt_toInt]
  congr 1
  apply BitVec.eq_of_getElem_eq
  intro i hi
  simp only [BitVec.getElem_or, BitVec.getElem_and, BitVec.getElem_xor]
  cases (BitVec.ofInt 64 a)[i] <;> cases (BitVec.ofInt 64 b)[i] <;> rfl

theorem shl_shr (a m : Int) (hm0 : 0 ≤ m) (hm : m < 32) : (two 17 (two 16 (a % 256) m).1 m).1 = a % 256 := by
  rw [shr_def, shl_def]
  have em : (m % 64).toNat = m.toNat := by congr 1; omega
  rw [em]
  have hp : (2 : Nat) ^ m.toNat ≤ 2 ^ 31 := Nat.pow_le_pow_right (by omega) (by omega)
  have hp0 : 0 < (2 : Nat) ^ m.toNat := Nat.pos_of_ne_zero (by simp)
  have e31 : (2 : Nat) ^ 31 = 2147483648 := by decide
  have ep : (2 : Int) ^ m.toNat = ((2 ^ m.toNat : Nat) : Int) := by simp
  rw [ep]
  generalize (2 : Nat) ^ m.toNat = p at hp hp0 ⊢
  have hb : (a % 256) * (p : Int) ≤ 255 * 2147483648 := Int.mul_le_mul (by omega) (by omega) (by omega) (by omega)
  have hb0 : 0 ≤ (a % 256) * (p : Int) := Int.mul_nonneg (by omega) (by omega)
  rw [wrap64_id (by omega) (by omega)]
  exact Int.mul_ediv_cancel _ (by omega)

theorem three (a b : Int) : (wrap64 (wrap64 ((two 19 a b).1 + (two 19 b a).1) + (two 20 a b).1) == 1) = true := by
  rw [lt_def, lt_def, eq_def]
  by_cases h1 : a < b
  · have h2 : ¬ b < a := by omega
    have h3 : ¬ a = b := by omega
    simp [h1, h2, h3, wrap64]
  · by_cases h2 : b < a
    · have h3 : ¬ a = b := by omega
      simp [h1, h2, h3, wrap64]
    · have h3 : a = b := by omega
      simp [h3, wrap64]

set_option maxRecDepth 100000 in
theorem ring_zero (a c : Int) (w : World) (a0 : -9223372036854775808 ≤ a) (a1 : a ≤ 9223372036854775807) :
    Calls Try.prog 5 #[.int .i64 a, .int .i64 0, .int .i64 c] w (TruePost w) := by
  have f1 : ((two 8 a 0).1 != (two 8 0 a).1) = false := by rw [add_def, add_def, Int.add_comm]; simp
  have f2 : ((two 10 a (two 8 0 c).1).1 != (two 8 (two 10 a 0).1 (two 10 a c).1).1) = false := by rw [ring_dist]; simp
  have f3 : ((two 9 (two 8 a 0).1 0).1 != a) = false := by rw [ring_back a 0 a0 a1]; simp
  have f4 : (two 11 a 0).1 = 0 := by simp [two]
  have f5 : (two 11 a 0).2 = 5 := by simp [two]
  have f6 : (two 12 a 0).1 = 0 := by simp [two]
  have f7 : (two 12 a 0).2 = 5 := by simp [two]
  clear a0 a1
  go_enter Try.func5, Try.ntmps5
  go_wp2_with (first
    | (go_at_call 10; refine (first_any _).mono ?_; rintro e w1 ⟨rfl, hb⟩)
    | (go_at_call 26; refine (func2_any _ _ _ _).mono ?_; rintro e w' ⟨rfl, rfl⟩)
    | (go_at_call 11; refine (two_any _ _ _ _).mono ?_; rintro e w' ⟨rfl, rfl⟩))
  go_ret
  exact ⟨rfl, by assumption⟩

set_option maxRecDepth 100000 in
set_option maxHeartbeats 1000000 in
theorem ring_c1 (a b c r s : Int) (w : World) (f1 : ((two 8 a b).1 != (two 8 b a).1) = false) (f2 : ((two 10 a (two 8 b c).1).1 != (two 8 (two 10 a b).1 (two 10 a c).1).1) = false) (f3 : ((two 9 (two 8 a b).1 b).1 != a) = false)
    (f4 : (two 11 a b).2 = 0) (f5 : (two 12 a b).2 = 0) (f6 : (b == 0) = false) (f7 : ((two 8 (two 10 (two 11 a b).1 b).1 r).1 != a) = false) (f8 : (two 12 a b).1 = r)
    (f10 : ((two 15 (two 15 a b).1 b).1 == a) = true) (f11 : (bits BinOp.or IntKind.i64 (two 13 a b).1 (two 15 a b).1 == (two 14 a b).1) = true)
    (k1 : bits BinOp.and IntKind.i64 b 63 = b % 64) (k2 : bits BinOp.and IntKind.i64 (b % 64) 31 = b % 32) (k3 : bits BinOp.and IntKind.i64 a 255 = a % 256)
    (f12 : ((two 17 (two 16 (a % 256) (b % 32)).1 (b % 32)).1 == a % 256) = true) (f13 : (wrap64 (wrap64 ((two 19 a b).1 + (two 19 b a).1) + (two 20 a b).1) == 1) = true) (kn : wrap64 (-r) = s)
    (g0 : (r != 0) = false) (g2 : decide (0 ≤ r) = true) (g3 : decide (r < 0) = false)
    (cb : ((b == -1) = false ∧ decide (0 < b) = true ∧ decide (b < 0) = false ∧ decide (b ≤ r) = false ∧ decide (b ≤ s) = false) ∨ ((b == -1) = false ∧ decide (0 < b) = false ∧ decide (b < 0) = true ∧ decide (s ≤ b) = false ∧ decide (r ≤ b) = false)) :
    Calls Try.prog 5 #[.int .i64 a, .int .i64 b, .int .i64 c] w (TruePost w) := by
  have g4' : (b != -1) = true := by rcases cb with ⟨h, _⟩ | ⟨h, _⟩ <;> simpa using h
  rcases cb with ⟨g4, g5, g6, g7, g8⟩ | ⟨g4, g5, g6, g7, g8⟩
  all_goals
      go_enter Try.func5, Try.ntmps5
      go_wp2_with (first
        | (go_at_call 10; refine (first_any _).mono ?_; rintro e w1 ⟨rfl, hb⟩)
        | (go_at_call 26; refine (func2_any _ _ _ _).mono ?_; rintro e w' ⟨rfl, rfl⟩)
        | (go_at_call 11; refine (two_any _ _ _ _).mono ?_; rintro e w' ⟨rfl, rfl⟩))
      go_ret
      exact ⟨rfl, by assumption⟩

set_option maxRecDepth 100000 in
set_option maxHeartbeats 1000000 in
theorem ring_c2 (a b c r s : Int) (w : World) (f1 : ((two 8 a b).1 != (two 8 b a).1) = false) (f2 : ((two 10 a (two 8 b c).1).1 != (two 8 (two 10 a b).1 (two 10 a c).1).1) = false) (f3 : ((two 9 (two 8 a b).1 b).1 != a) = false)
    (f4 : (two 11 a b).2 = 0) (f5 : (two 12 a b).2 = 0) (f6 : (b == 0) = false) (f7 : ((two 8 (two 10 (two 11 a b).1 b).1 r).1 != a) = false) (f8 : (two 12 a b).1 = r)
    (f10 : ((two 15 (two 15 a b).1 b).1 == a) = true) (f11 : (bits BinOp.or IntKind.i64 (two 13 a b).1 (two 15 a b).1 == (two 14 a b).1) = true)
    (k1 : bits BinOp.and IntKind.i64 b 63 = b % 64) (k2 : bits BinOp.and IntKind.i64 (b % 64) 31 = b % 32) (k3 : bits BinOp.and IntKind.i64 a 255 = a % 256)
    (f12 : ((two 17 (two 16 (a % 256) (b % 32)).1 (b % 32)).1 == a % 256) = true) (f13 : (wrap64 (wrap64 ((two 19 a b).1 + (two 19 b a).1) + (two 20 a b).1) == 1) = true) (kn : wrap64 (-r) = s)
    (g0 : (r != 0) = true) (g2 : decide (0 ≤ r) = true) (g3 : decide (r < 0) = false) (g10 : decide (a < 0) = false)
    (cb : ((b == -1) = false ∧ decide (0 < b) = true ∧ decide (b < 0) = false ∧ decide (b ≤ r) = false ∧ decide (b ≤ s) = false) ∨ ((b == -1) = false ∧ decide (0 < b) = false ∧ decide (b < 0) = true ∧ decide (s ≤ b) = false ∧ decide (r ≤ b) = false)) :
    Calls Try.prog 5 #[.int .i64 a, .int .i64 b, .int .i64 c] w (TruePost w) := by
  have g4' : (b != -1) = true := by rcases cb with ⟨h, _⟩ | ⟨h, _⟩ <;> simpa using h
  rcases cb with ⟨g4, g5, g6, g7, g8⟩ | ⟨g4, g5, g6, g7, g8⟩
  all_goals
      go_enter Try.func5, Try.ntmps5
      go_wp2_with (first
        | (go_at_call 10; refine (first_any _).mono ?_; rintro e w1 ⟨rfl, hb⟩)
        | (go_at_call 26; refine (func2_any _ _ _ _).mono ?_; rintro e w' ⟨rfl, rfl⟩)
        | (go_at_call 11; refine (two_any _ _ _ _).mono ?_; rintro e w' ⟨rfl, rfl⟩))
      go_ret
      exact ⟨rfl, by assumption⟩

set_option maxRecDepth 100000 in
set_option maxHeartbeats 1000000 in
theorem ring_c3 (a b c r s : Int) (w : World) (f1 : ((two 8 a b).1 != (two 8 b a).1) = false) (f2 : ((two 10 a (two 8 b c).1).1 != (two 8 (two 10 a b).1 (two 10 a c).1).1) = false) (f3 : ((two 9 (two 8 a b).1 b).1 != a) = false)
    (f4 : (two 11 a b).2 = 0) (f5 : (two 12 a b).2 = 0) (f6 : (b == 0) = false) (f7 : ((two 8 (two 10 (two 11 a b).1 b).1 r).1 != a) = false) (f8 : (two 12 a b).1 = r)
    (f10 : ((two 15 (two 15 a b).1 b).1 == a) = true) (f11 : (bits BinOp.or IntKind.i64 (two 13 a b).1 (two 15 a b).1 == (two 14 a b).1) = true)
    (k1 : bits BinOp.and IntKind.i64 b 63 = b % 64) (k2 : bits BinOp.and IntKind.i64 (b % 64) 31 = b % 32) (k3 : bits BinOp.and IntKind.i64 a 255 = a % 256)
    (f12 : ((two 17 (two 16 (a % 256) (b % 32)).1 (b % 32)).1 == a % 256) = true) (f13 : (wrap64 (wrap64 ((two 19 a b).1 + (two 19 b a).1) + (two 20 a b).1) == 1) = true) (kn : wrap64 (-r) = s)
    (g0 : (r != 0) = true) (g2 : decide (0 ≤ r) = false) (g3 : decide (r < 0) = true) (g10 : decide (a < 0) = true)
    (cb : ((b == -1) = false ∧ decide (0 < b) = true ∧ decide (b < 0) = false ∧ decide (b ≤ r) = false ∧ decide (b ≤ s) = false) ∨ ((b == -1) = false ∧ decide (0 < b) = false ∧ decide (b < 0) = true ∧ decide (s ≤ b) = false ∧ decide (r ≤ b) = false)) :
    Calls Try.prog 5 #[.int .i64 a, .int .i64 b, .int .i64 c] w (TruePost w) := by
  have g4' : (b != -1) = true := by rcases cb with ⟨h, _⟩ | ⟨h, _⟩ <;> simpa using h
  rcases cb with ⟨g4, g5, g6, g7, g8⟩ | ⟨g4, g5, g6, g7, g8⟩
  all_goals
      go_enter Try.func5, Try.ntmps5
      go_wp2_with (first
        | (go_at_call 10; refine (first_any _).mono ?_; rintro e w1 ⟨rfl, hb⟩)
        | (go_at_call 26; refine (func2_any _ _ _ _).mono ?_; rintro e w' ⟨rfl, rfl⟩)
        | (go_at_call 11; refine (two_any _ _ _ _).mono ?_; rintro e w' ⟨rfl, rfl⟩))
      go_ret
      exact ⟨rfl, by assumption⟩


set_option maxRecDepth 100000 in
set_option maxHeartbeats 1000000 in
theorem ring_m1 (a c : Int) (w : World) (a0 : -9223372036854775808 ≤ a) (a1 : a ≤ 9223372036854775807) :
    Calls Try.prog 5 #[.int .i64 a, .int .i64 (-1), .int .i64 c] w (TruePost w) := by
  have f1 : ((two 8 a (-1)).1 != (two 8 (-1) a).1) = false := by rw [add_def, add_def, Int.add_comm]; simp
  have f2 : ((two 10 a (two 8 (-1) c).1).1 != (two 8 (two 10 a (-1)).1 (two 10 a c).1).1) = false := by rw [ring_dist]; simp
  have f3 : ((two 9 (two 8 a (-1)).1 (-1)).1 != a) = false := by rw [ring_back a (-1) a0 a1]; simp
  have f4 : (two 11 a (-1)).2 = 0 := by rw [div_def a (-1) (by omega)]
  have f5 : (two 12 a (-1)).2 = 0 := by rw [rem_def a (-1) (by omega)]
  have f8 : (two 12 a (-1)).1 = 0 := by rw [rem_def a (-1) (by omega)]; exact tmod_m1 a
  have f7 : ((two 8 (two 10 (two 11 a (-1)).1 (-1)).1 0).1 != a) = false := by
    have h := rest_back a (-1) a0 a1
    rw [tmod_m1] at h
    rw [div_def a (-1) (by omega), h]; simp
  have f10 : ((two 15 (two 15 a (-1)).1 (-1)).1 == a) = true := by rw [xor_back a (-1) a0 a1]; simp
  have f11 : (bits BinOp.or IntKind.i64 (two 13 a (-1)).1 (two 15 a (-1)).1 == (two 14 a (-1)).1) = true := by rw [and_or_xor]; simp
  have k1 : bits BinOp.and IntKind.i64 (-1) 63 = 63 := by decide +kernel
  have k2 : bits BinOp.and IntKind.i64 63 31 = 31 := by decide +kernel
  have k3 : bits BinOp.and IntKind.i64 a 255 = a % 256 := and255_i64 a
  have f12 : ((two 17 (two 16 (a % 256) 31).1 31).1 == a % 256) = true := by rw [shl_shr a 31 (by omega) (by omega)]; simp
  have f13 := three a (-1)
  clear a0 a1
  go_enter Try.func5, Try.ntmps5
  go_wp2_with (first
    | (go_at_call 10; refine (first_any _).mono ?_; rintro e w1 ⟨rfl, hb⟩)
    | (go_at_call 26; refine (func2_any _ _ _ _).mono ?_; rintro e w' ⟨rfl, rfl⟩)
    | (go_at_call 11; refine (two_any _ _ _ _).mono ?_; rintro e w' ⟨rfl, rfl⟩))
  go_ret
  exact ⟨rfl, by assumption⟩

theorem ring_other (a b c : Int) (w : World) (hb0 : b ≠ 0) (hb1 : b ≠ -1) (a0 : -9223372036854775808 ≤ a) (a1 : a ≤ 9223372036854775807) (b0 : -9223372036854775808 ≤ b) (b1 : b ≤ 9223372036854775807) :
    Calls Try.prog 5 #[.int .i64 a, .int .i64 b, .int .i64 c] w (TruePost w) := by
  have f1 : ((two 8 a b).1 != (two 8 b a).1) = false := by rw [add_def, add_def, Int.add_comm]; simp
  have f2 : ((two 10 a (two 8 b c).1).1 != (two 8 (two 10 a b).1 (two 10 a c).1).1) = false := by rw [ring_dist]; simp
  have f3 : ((two 9 (two 8 a b).1 b).1 != a) = false := by rw [ring_back a b a0 a1]; simp
  have f4 : (two 11 a b).2 = 0 := by rw [div_def a b hb0]
  have f5 : (two 12 a b).2 = 0 := by rw [rem_def a b hb0]
  have f6 : (b == 0) = false := by simpa using hb0
  have f7 : ((two 8 (two 10 (two 11 a b).1 b).1 (two 12 a b).1).1 != a) = false := by
    rw [div_def a b hb0, rem_def a b hb0, rest_back a b a0 a1]; simp
  have hsm := tmod_small a b hb0
  have f8 : (two 12 a b).1 = a.tmod b := by rw [rem_def a b hb0]
  rw [f8] at f7
  have sgn := tmod_sign a b
  generalize a.tmod b = r at *
  have f10 : ((two 15 (two 15 a b).1 b).1 == a) = true := by rw [xor_back a b a0 a1]; simp
  have f11 : (bits BinOp.or IntKind.i64 (two 13 a b).1 (two 15 a b).1 == (two 14 a b).1) = true := by rw [and_or_xor]; simp
  have f12 : ((two 17 (two 16 (a % 256) (b % 32)).1 (b % 32)).1 == a % 256) = true := by rw [shl_shr a _ (by omega) (by omega)]; simp
  have kn : wrap64 (-r) = -r := wrap64_id (by omega) (by omega)
  have cb : ((b == -1) = false ∧ decide (0 < b) = true ∧ decide (b < 0) = false ∧ decide (b ≤ r) = false ∧ decide (b ≤ -r) = false) ∨ ((b == -1) = false ∧ decide (0 < b) = false ∧ decide (b < 0) = true ∧ decide (-r ≤ b) = false ∧ decide (r ≤ b) = false) := by
    simp only [beq_eq_false_iff_ne, decide_eq_true_eq, decide_eq_false_iff_not]; omega
  by_cases h0 : r = 0
  · exact ring_c1 a b c r (-r) w f1 f2 f3 f4 f5 f6 f7 f8 f10 f11 (and63_i64 b) (by rw [and31_i64]; omega) (and255_i64 a) f12 (three a b) kn (by simpa using h0) (by simp; omega) (by simp; omega) cb
  · have hs := sgn h0
    by_cases hr : 0 ≤ r
    · exact ring_c2 a b c r (-r) w f1 f2 f3 f4 f5 f6 f7 f8 f10 f11 (and63_i64 b) (by rw [and31_i64]; omega) (and255_i64 a) f12 (three a b) kn (by simpa using h0) (by simpa using hr) (by simp; omega) (by rw [← hs]; simp; omega) cb
    · exact ring_c3 a b c r (-r) w f1 f2 f3 f4 f5 f6 f7 f8 f10 f11 (and63_i64 b) (by rw [and31_i64]; omega) (and255_i64 a) f12 (three a b) kn (by simpa using h0) (by simp; omega) (by simp; omega) (by rw [← hs]; simp; omega) cb

theorem ring_law (a b c : Int) (w : World) (ha : (Lit.int .i64 a).wf = true) (hb : (Lit.int .i64 b).wf = true) (_hc : (Lit.int .i64 c).wf = true) :
    Calls Try.prog 5 #[.int .i64 a, .int .i64 b, .int .i64 c] w (TruePost w) := by
  obtain ⟨a0, a1⟩ := wf_i64 ha
  obtain ⟨b0, b1⟩ := wf_i64 hb
  by_cases h : b = 0
  · subst h
    exact ring_zero a c w a0 a1
  · by_cases h1 : b = -1
    · subst h1
      exact ring_m1 a c w a0 a1
    · exact ring_other a b c w h h1 a0 a1 b0 b1
end Go.Proofs.Ytibafpbfgmjcgaa

/-
  word's plain functions: Two, One, Pure, Zig, Zag: what each answers, as a function of its integers.
-/
import Derived.Test.YtibafpbfgmjcgaaProg
import Derived.WalkKit
import Derived.Laws.BitsAllLaws
import Derived.Laws.DeepNot64
import Derived.Lib.Hide
namespace Go.Proofs.Ytibafpbfgmjcgaa
open Go.RowKit

theorem and63 (b : Int) : bits BinOp.and IntKind.u64 (IntKind.u64.wrap b) 63 = b % 64 := by
  rw [IntKind.wrap_u64, u64_and _ _ (by omega) (by omega) (by omega) (by omega)]
  have h : (63 : Int).toNat = 2 ^ 6 - 1 := by decide
  rw [h, Nat.and_two_pow_sub_one_eq_mod]
  omega

theorem truth_any (p : Bool) (w : World) :
    Calls Try.prog 28 #[.bool p] w fun e w' => e = .returned (.int .i64 (if p then 1 else 0)) ∧ w = w' := by
  cases p
  all_goals
    go_enter Try.func28, Try.ntmps28
    go_wp2
    go_ret
    exact ⟨rfl, rfl⟩

/-- What an op of two integers comes to, and its trap. -/
def two (op a b : Int) : Int × Int :=
  if op == 8 then (wrap64 (a + b), 0)
  else if op == 9 then (wrap64 (a - b), 0)
  else if op == 10 then (wrap64 (a * b), 0)
  else if op == 11 then (if b == 0 then (0, 5) else (wrap64 (a.tdiv b), 0))
  else if op == 12 then (if b == 0 then (0, 5) else (a.tmod b, 0))
  else if op == 13 then (bits .and .i64 a b, 0)
  else if op == 14 then (bits .or .i64 a b, 0)
  else if op == 15 then (bits .xor .i64 a b, 0)
  else if op == 16 then (wrap64 (a * 2 ^ (b % 64).toNat), 0)
  else if op == 17 then (a / 2 ^ (b % 64).toNat, 0)
  else if op == 19 then (if decide (a < b) then 1 else 0, 0)
  else if op == 20 then (if a == b then 1 else 0, 0)
  else (0, 0)

theorem ret_two {a b a' b' : Int} (h : a = a') (h' : b = b') : Ending.returned (.tuple #[.int .i64 a, .int .i64 b]) = .returned (.tuple #[.int .i64 a', .int .i64 b']) := by rw [h, h']

theorem divide_11 (a b : Int) (w : World) :
    Calls Try.prog 27 #[.int .i64 11, .int .i64 a, .int .i64 b] w fun e w' => e = .returned (.tuple #[.int .i64 (two 11 a b).1, .int .i64 (two 11 a b).2]) ∧ w = w' := by
  by_cases hb : b = 0
  · subst hb
    go_enter Try.func27, Try.ntmps27
    go_wp2
    go_ret2
    exact ⟨rfl, rfl⟩
  · have hb' : (b == 0) = false := by simpa using hb
    have ht : two 11 a b = (wrap64 (a.tdiv b), 0) := by simp [two, hb']
    have HT := Lib.hid ht
    clear ht
    go_enter Try.func27, Try.ntmps27
    go_wp2
    go_ret2
    exact ⟨by rw [HT.out]; rfl, rfl⟩

theorem divide_12 (a b : Int) (w : World) :
    Calls Try.prog 27 #[.int .i64 12, .int .i64 a, .int .i64 b] w fun e w' => e = .returned (.tuple #[.int .i64 (two 12 a b).1, .int .i64 (two 12 a b).2]) ∧ w = w' := by
  by_cases hb : b = 0
  · subst hb
    go_enter Try.func27, Try.ntmps27
    go_wp2
    go_ret2
    exact ⟨rfl, rfl⟩
  · have hb' : (b == 0) = false := by simpa using hb
    have ht : two 12 a b = (a.tmod b, 0) := by simp [two, hb']
    have HT := Lib.hid ht
    clear ht
    go_enter Try.func27, Try.ntmps27
    go_wp2
    go_ret2
    exact ⟨by rw [HT.out]; rfl, rfl⟩

/-- What a call of Two answers. -/
def TwoPost (op a b : Int) (w : World) (e : Ending) (w' : World) : Prop := e = .returned (.tuple #[.int .i64 (two op a b).1, .int .i64 (two op a b).2]) ∧ w = w'

theorem two_8 (a b : Int) (w : World) : Calls Try.prog 11 #[.int .i64 8, .int .i64 a, .int .i64 b] w (TwoPost 8 a b w) := by
  go_enter Try.func11, Try.ntmps11
  go_wp2
  go_ret2
  exact ⟨rfl, rfl⟩
theorem two_9 (a b : Int) (w : World) : Calls Try.prog 11 #[.int .i64 9, .int .i64 a, .int .i64 b] w (TwoPost 9 a b w) := by
  go_enter Try.func11, Try.ntmps11
  go_wp2
  go_ret2
  exact ⟨rfl, rfl⟩
theorem two_10 (a b : Int) (w : World) : Calls Try.prog 11 #[.int .i64 10, .int .i64 a, .int .i64 b] w (TwoPost 10 a b w) := by
  go_enter Try.func11, Try.ntmps11
  go_wp2
  go_ret2
  exact ⟨rfl, rfl⟩
theorem two_11 (a b : Int) (w : World) : Calls Try.prog 11 #[.int .i64 11, .int .i64 a, .int .i64 b] w (TwoPost 11 a b w) := by
  go_enter Try.func11, Try.ntmps11
  go_wp2_with (go_at_call 27; refine (divide_11 _ _ _).mono ?_; rintro e w' ⟨rfl, rfl⟩)
  go_ret2
  exact ⟨rfl, rfl⟩
theorem two_12 (a b : Int) (w : World) : Calls Try.prog 11 #[.int .i64 12, .int .i64 a, .int .i64 b] w (TwoPost 12 a b w) := by
  go_enter Try.func11, Try.ntmps11
  go_wp2_with (go_at_call 27; refine (divide_12 _ _ _).mono ?_; rintro e w' ⟨rfl, rfl⟩)
  go_ret2
  exact ⟨rfl, rfl⟩
theorem two_13 (a b : Int) (w : World) : Calls Try.prog 11 #[.int .i64 13, .int .i64 a, .int .i64 b] w (TwoPost 13 a b w) := by
  go_enter Try.func11, Try.ntmps11
  go_wp2
  go_ret2
  exact ⟨rfl, rfl⟩
theorem two_14 (a b : Int) (w : World) : Calls Try.prog 11 #[.int .i64 14, .int .i64 a, .int .i64 b] w (TwoPost 14 a b w) := by
  go_enter Try.func11, Try.ntmps11
  go_wp2
  go_ret2
  exact ⟨rfl, rfl⟩
theorem two_15 (a b : Int) (w : World) : Calls Try.prog 11 #[.int .i64 15, .int .i64 a, .int .i64 b] w (TwoPost 15 a b w) := by
  go_enter Try.func11, Try.ntmps11
  go_wp2
  go_ret2
  exact ⟨rfl, rfl⟩
theorem two_16 (a b : Int) (w : World) : Calls Try.prog 11 #[.int .i64 16, .int .i64 a, .int .i64 b] w (TwoPost 16 a b w) := by
  have h63 := and63 b
  go_enter Try.func11, Try.ntmps11
  go_wp2
  go_ret2
  exact ⟨rfl, rfl⟩
theorem two_17 (a b : Int) (w : World) : Calls Try.prog 11 #[.int .i64 17, .int .i64 a, .int .i64 b] w (TwoPost 17 a b w) := by
  have h63 := and63 b
  go_enter Try.func11, Try.ntmps11
  go_wp2
  go_ret2
  exact ⟨rfl, rfl⟩
theorem two_19 (a b : Int) (w : World) : Calls Try.prog 11 #[.int .i64 19, .int .i64 a, .int .i64 b] w (TwoPost 19 a b w) := by
  go_enter Try.func11, Try.ntmps11
  go_wp2_with (go_at_call 28; refine (truth_any _ _).mono ?_; rintro e w' ⟨rfl, rfl⟩)
  all_goals go_ret2
  all_goals exact ⟨ret_two (by simp [two, *]) (by simp [two, *]), rfl⟩
theorem two_20 (a b : Int) (w : World) : Calls Try.prog 11 #[.int .i64 20, .int .i64 a, .int .i64 b] w (TwoPost 20 a b w) := by
  go_enter Try.func11, Try.ntmps11
  go_wp2_with (go_at_call 28; refine (truth_any _ _).mono ?_; rintro e w' ⟨rfl, rfl⟩)
  all_goals go_ret2
  all_goals exact ⟨ret_two (by simp [two, *]) (by simp [two, *]), rfl⟩
theorem two_other (op a b : Int) (h : op < 8 ∨ op = 18 ∨ 20 < op) (w : World) : Calls Try.prog 11 #[.int .i64 op, .int .i64 a, .int .i64 b] w (TwoPost op a b w) := by
  have ht : two op a b = (0, 0) := by
    have n : ∀ k : Int, (k = 8 ∨ k = 9 ∨ k = 10 ∨ k = 11 ∨ k = 12 ∨ k = 13 ∨ k = 14 ∨ k = 15 ∨ k = 16 ∨ k = 17 ∨ k = 19 ∨ k = 20) → (op == k) = false := fun k hk => by simp; omega
    simp [two, n]
  have HT := Lib.hid ht
  have h8 : (op == 8) = false := by simp; omega
  have h9 : (op == 9) = false := by simp; omega
  have h10 : (op == 10) = false := by simp; omega
  have h11 : (op == 11) = false := by simp; omega
  have h12 : (op == 12) = false := by simp; omega
  have h13 : (op == 13) = false := by simp; omega
  have h14 : (op == 14) = false := by simp; omega
  have h15 : (op == 15) = false := by simp; omega
  have h16 : (op == 16) = false := by simp; omega
  have h17 : (op == 17) = false := by simp; omega
  have h19 : (op == 19) = false := by simp; omega
  have h20 : (op == 20) = false := by simp; omega
  clear ht h
  go_enter Try.func11, Try.ntmps11
  go_wp2
  go_ret2
  exact ⟨by rw [HT.out]; rfl, rfl⟩

theorem two_any (op a b : Int) (w : World) : Calls Try.prog 11 #[.int .i64 op, .int .i64 a, .int .i64 b] w (TwoPost op a b w) := by
  by_cases h : op < 8 ∨ op = 18 ∨ 20 < op
  · exact two_other op a b h w
  · have : op = 8 ∨ op = 9 ∨ op = 10 ∨ op = 11 ∨ op = 12 ∨ op = 13 ∨ op = 14 ∨ op = 15 ∨ op = 16 ∨ op = 17 ∨ op = 19 ∨ op = 20 := by omega
    rcases this with rfl | rfl | rfl | rfl | rfl | rfl | rfl | rfl | rfl | rfl | rfl | rfl
    · exact two_8 a b w
    · exact two_9 a b w
    · exact two_10 a b w
    · exact two_11 a b w
    · exact two_12 a b w
    · exact two_13 a b w
    · exact two_14 a b w
    · exact two_15 a b w
    · exact two_16 a b w
    · exact two_17 a b w
    · exact two_19 a b w
    · exact two_20 a b w

theorem one_any (op a : Int) (w : World) :
    Calls Try.prog 13 #[.int .i64 op, .int .i64 a] w fun e w' => e = .returned (.tuple #[.int .i64 (if op == 18 then wrap64 (-a) else 0), .bool (op == 18)]) ∧ w = w' := by
  by_cases h : op = 18
  · subst h
    go_enter Try.func13, Try.ntmps13
    go_wp2
    go_ret2
    exact ⟨rfl, rfl⟩
  · have h1 : (op == 18) = false := by simpa using h
    have h2 : (op != 18) = true := by simpa using h
    go_enter Try.func13, Try.ntmps13
    go_wp2
    go_ret2
    exact ⟨by simp, rfl⟩

/-- Is it an op of two integers that hangs on these alone? -/
def pure' (op : Int) : Bool := decide (8 ≤ op) && decide (op ≤ 20) && (op != 11 && op != 12)

theorem pure_any (op : Int) (w : World) :
    Calls Try.prog 14 #[.int .i64 op] w fun e w' => e = .returned (.bool (pure' op)) ∧ w = w' := by
  by_cases h1 : 8 ≤ op
  · by_cases h2 : op ≤ 20
    · by_cases h3 : op = 11
      · subst h3
        go_enter Try.func14, Try.ntmps14
        go_wp2
        go_ret
        exact ⟨rfl, rfl⟩
      · have h4 : (op != 11) = true := by simpa using h3
        go_enter Try.func14, Try.ntmps14
        go_wp2
        go_ret
        exact ⟨by simp [pure', h1, h2, h3], rfl⟩
    · have h4 : decide (op ≤ 20) = false := by simpa using h2
      go_enter Try.func14, Try.ntmps14
      go_wp2
      go_ret
      exact ⟨by simp [pure', h4], rfl⟩
  · have h4 : decide (8 ≤ op) = false := by simpa using h1
    go_enter Try.func14, Try.ntmps14
    go_wp2
    go_ret
    exact ⟨by simp [pure', h4], rfl⟩

theorem func2_any (op a b : Int) (w : World) :
    Calls Try.prog 26 #[.int .i64 op, .int .i64 a, .int .i64 b] w fun e w' => e = .returned (.int .i64 (two op a b).1) ∧ w = w' := by
  go_enter Try.func26, Try.ntmps26
  go_wp2_with (go_at_call 11; refine (two_any _ _ _ _).mono ?_; rintro e w' ⟨rfl, rfl⟩)
  go_ret
  exact ⟨rfl, rfl⟩
end Go.Proofs.Ytibafpbfgmjcgaa

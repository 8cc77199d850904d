/-
  overdriveref1's plain functions: Two, Pure, Zig, Zag: the same as word's.
-/
import Derived.Test.YtibafpbfgmjcgaaRing
namespace Go.Proofs.Ytibafpbfgmjcgaa
open Go.RowKit

set_option maxRecDepth 100000 in
theorem rtwo_low (op a b : Int) (h : op = 8 ∨ op = 9 ∨ op = 10 ∨ op = 13 ∨ op = 14 ∨ op = 15) (w : World) : Calls Try.prog 12 #[.int .i64 op, .int .i64 a, .int .i64 b] w (TwoPost op a b w) := by
  rcases h with rfl | rfl | rfl | rfl | rfl | rfl
  all_goals
    go_enter Try.func12, Try.ntmps12
    go_wp2
    go_ret2
    exact ⟨rfl, rfl⟩

theorem tdiv_m1 (a : Int) : a.tdiv (-1) = -a := by rw [Int.tdiv_neg, Int.tdiv_one]

theorem rtwo_11 (a b : Int) (w : World) : Calls Try.prog 12 #[.int .i64 11, .int .i64 a, .int .i64 b] w (TwoPost 11 a b w) := by
  by_cases h0 : b = 0
  · subst h0
    go_enter Try.func12, Try.ntmps12
    go_wp2
    go_ret2
    exact ⟨rfl, rfl⟩
  · by_cases h1 : b = -1
    · subst h1
      have ht : two 11 a (-1) = (wrap64 (-a), 0) := by rw [div_def a (-1) (by omega), tdiv_m1]
      have HT := Lib.hid ht
      clear ht h0
      go_enter Try.func12, Try.ntmps12
      go_wp2
      go_ret2
      exact ⟨by rw [HT.out]; rfl, rfl⟩
    · have ht := div_def a b h0
      have HT := Lib.hid ht
      have e0 : (b == 0) = false := by simpa using h0
      have e1 : (b == -1) = false := by simpa using h1
      clear ht
      go_enter Try.func12, Try.ntmps12
      go_wp2
      go_ret2
      exact ⟨by rw [HT.out]; rfl, rfl⟩

theorem rtwo_12 (a b : Int) (w : World) : Calls Try.prog 12 #[.int .i64 12, .int .i64 a, .int .i64 b] w (TwoPost 12 a b w) := by
  by_cases h0 : b = 0
  · subst h0
    go_enter Try.func12, Try.ntmps12
    go_wp2
    go_ret2
    exact ⟨rfl, rfl⟩
  · by_cases h1 : b = -1
    · subst h1
      have ht : two 12 a (-1) = (0, 0) := by rw [rem_def a (-1) (by omega), tmod_m1]
      have HT := Lib.hid ht
      clear ht h0
      go_enter Try.func12, Try.ntmps12
      go_wp2
      go_ret2
      exact ⟨by rw [HT.out]; rfl, rfl⟩
    · have ht := rem_def a b h0
      have HT := Lib.hid ht
      have e0 : (b == 0) = false := by simpa using h0
      have e1 : (b == -1) = false := by simpa using h1
      clear ht
      go_enter Try.func12, Try.ntmps12
      go_wp2
      go_ret2
      exact ⟨by rw [HT.out]; rfl, rfl⟩

theorem rtwo_16 (a b : Int) (w : World) : Calls Try.prog 12 #[.int .i64 16, .int .i64 a, .int .i64 b] w (TwoPost 16 a b w) := by
  have h1 : bits BinOp.and IntKind.i64 b 63 = b % 64 := and63_i64 b
  have h2 : IntKind.u64.wrap (b % 64) = b % 64 := by rw [IntKind.wrap_u64]; omega
  go_enter Try.func12, Try.ntmps12
  go_wp2
  go_ret2
  exact ⟨rfl, rfl⟩

theorem rtwo_17 (a b : Int) (w : World) : Calls Try.prog 12 #[.int .i64 17, .int .i64 a, .int .i64 b] w (TwoPost 17 a b w) := by
  have h1 : bits BinOp.and IntKind.i64 b 63 = b % 64 := and63_i64 b
  have h2 : IntKind.u64.wrap (b % 64) = b % 64 := by rw [IntKind.wrap_u64]; omega
  go_enter Try.func12, Try.ntmps12
  go_wp2
  go_ret2
  exact ⟨rfl, rfl⟩

theorem rtwo_19 (a b : Int) (w : World) : Calls Try.prog 12 #[.int .i64 19, .int .i64 a, .int .i64 b] w (TwoPost 19 a b w) := by
  go_enter Try.func12, Try.ntmps12
  go_wp2
  all_goals go_ret2
  all_goals exact ⟨ret_two (by simp [two, *]) (by simp [two, *]), rfl⟩

theorem rtwo_20 (a b : Int) (w : World) : Calls Try.prog 12 #[.int .i64 20, .int .i64 a, .int .i64 b] w (TwoPost 20 a b w) := by
  by_cases h : a = b
  · subst h
    go_enter Try.func12, Try.ntmps12
    go_wp2
    go_ret2
    exact ⟨ret_two (by simp [two]) (by simp [two]), rfl⟩
  · have e : (a == b) = false := by simpa using h
    clear h
    go_enter Try.func12, Try.ntmps12
    go_wp2
    go_ret2
    exact ⟨ret_two (by simp [two, e]) (by simp [two]), rfl⟩

theorem rtwo_other (op a b : Int) (h : op < 8 ∨ op = 18 ∨ 20 < op) (w : World) : Calls Try.prog 12 #[.int .i64 op, .int .i64 a, .int .i64 b] w (TwoPost op a b w) := by
  have ht : two op a b = (0, 0) := by
    have n : ∀ k : Int, (k = 8 ∨ k = 9 ∨ k = 10 ∨ k = 11 ∨ k = 12 ∨ k = 13 ∨ k = 14 ∨ k = 15 ∨ k = 16 ∨ k = 17 ∨ k = 19 ∨ k = 20) → (op == k) = false := fun k hk => by simp; omega
    simp [two, n]
  have HT := Lib.hid ht
  have h8 : (op == 8) = false := by simp; omega
  have h9 : (op == 9) = false := by simp; omega
  have h10 : (op == 10) = false := by simp; omega
  have h11 : (op == 11) = false := by simp; omega
  have h12 : (op == 12) = false := by simp; omega
  have h13 : (op == 13) = false := by simp; omega
  have h14 : (op == 14) = false := by simp; omega
  have h15 : (op == 15) = false := by simp; omega
  have h16 : (op == 16) = false := by simp; omega
  have h17 : (op == 17) = false := by simp; omega
  have h19 : (op == 19) = false := by simp; omega
  have h20 : (op == 20) = false := by simp; omega
  clear ht h
  go_enter Try.func12, Try.ntmps12
  go_wp2
  go_ret2
  exact ⟨by rw [HT.out]; rfl, rfl⟩

theorem rtwo_any (op a b : Int) (w : World) : Calls Try.prog 12 #[.int .i64 op, .int .i64 a, .int .i64 b] w (TwoPost op a b w) := by
  by_cases h : op < 8 ∨ op = 18 ∨ 20 < op
  · exact rtwo_other op a b h w
  · by_cases h2 : op = 8 ∨ op = 9 ∨ op = 10 ∨ op = 13 ∨ op = 14 ∨ op = 15
    · exact rtwo_low op a b h2 w
    · have : op = 11 ∨ op = 12 ∨ op = 16 ∨ op = 17 ∨ op = 19 ∨ op = 20 := by omega
      rcases this with rfl | rfl | rfl | rfl | rfl | rfl
      · exact rtwo_11 a b w
      · exact rtwo_12 a b w
      · exact rtwo_16 a b w
      · exact rtwo_17 a b w
      · exact rtwo_19 a b w
      · exact rtwo_20 a b w

/-- Pure, as the document's text has it (Neg is among the ops from And to Eq). -/
theorem rpure_any (op : Int) (w : World) :
    Calls Try.prog 15 #[.int .i64 op] w fun e w' => e = .returned (.bool (pure' op)) ∧ w = w' := by
  have hcase : (op < 8 ∧ pure' op = false) ∨ (8 ≤ op ∧ op ≤ 10 ∧ pure' op = true) ∨ (11 ≤ op ∧ op < 13 ∧ pure' op = false) ∨ (13 ≤ op ∧ op ≤ 20 ∧ pure' op = true) ∨ (20 < op ∧ pure' op = false) := by
    unfold pure'
    by_cases h1 : op < 8
    · exact .inl ⟨h1, by simp; omega⟩
    · by_cases h2 : op ≤ 10
      · exact .inr (.inl ⟨by omega, h2, by simp; omega⟩)
      · by_cases h3 : op < 13
        · exact .inr (.inr (.inl ⟨by omega, h3, by simp; omega⟩))
        · by_cases h4 : op ≤ 20
          · exact .inr (.inr (.inr (.inl ⟨by omega, h4, by simp; omega⟩)))
          · exact .inr (.inr (.inr (.inr ⟨by omega, by simp; omega⟩)))
  rcases hcase with ⟨h1, hp⟩ | ⟨h1, h2, hp⟩ | ⟨h1, h2, hp⟩ | ⟨h1, h2, hp⟩ | ⟨h1, hp⟩
  · have t1 : decide (8 ≤ op) = false := by simp; omega
    have t2 : decide (13 ≤ op) = false := by simp; omega
    rw [hp]
    clear hp h1
    go_enter Try.func15, Try.ntmps15
    go_wp2
    go_ret
    exact ⟨rfl, rfl⟩
  · have t1 : decide (8 ≤ op) = true := by simp; omega
    have t2 : decide (op ≤ 10) = true := by simp; omega
    rw [hp]
    clear hp h1 h2
    go_enter Try.func15, Try.ntmps15
    go_wp2
    go_ret
    exact ⟨rfl, rfl⟩
  · have t1 : decide (8 ≤ op) = true := by simp; omega
    have t2 : decide (op ≤ 10) = false := by simp; omega
    have t3 : decide (13 ≤ op) = false := by simp; omega
    rw [hp]
    clear hp h1 h2
    go_enter Try.func15, Try.ntmps15
    go_wp2
    go_ret
    exact ⟨rfl, rfl⟩
  · have t1 : decide (8 ≤ op) = true := by simp; omega
    have t2 : decide (op ≤ 10) = false := by simp; omega
    have t3 : decide (13 ≤ op) = true := by simp; omega
    have t4 : decide (op ≤ 20) = true := by simp; omega
    rw [hp]
    clear hp h1 h2
    go_enter Try.func15, Try.ntmps15
    go_wp2
    go_ret
    exact ⟨rfl, rfl⟩
  · have t1 : decide (8 ≤ op) = true := by simp; omega
    have t2 : decide (op ≤ 10) = false := by simp; omega
    have t3 : decide (13 ≤ op) = true := by simp; omega
    have t4 : decide (op ≤ 20) = false := by simp; omega
    rw [hp]
    clear hp h1
    go_enter Try.func15, Try.ntmps15
    go_wp2
    go_ret
    exact ⟨rfl, rfl⟩

theorem rzig_any (a : Int) (w : World) (h0 : -9223372036854775808 ≤ a) (h1 : a ≤ 9223372036854775807) :
    Calls Try.prog 23 #[.int .i64 a] w fun e w' => e = .returned (.int .u64 (zig a)) ∧ w = w' := by
  by_cases h : 0 ≤ a
  · have hz : IntKind.u64.wrap (2 * IntKind.u64.wrap a) = zig a := by
      unfold zig; rw [if_pos h]; simp only [IntKind.wrap_u64]; omega
    have t : decide (0 ≤ a) = true := by simpa using h
    clear h h0 h1
    go_enter Try.func23, Try.ntmps23
    go_wp2
    go_ret
    exact ⟨rfl, rfl⟩
  · have hz : IntKind.u64.wrap (IntKind.u64.wrap (2 * IntKind.u64.wrap (wrap64 (-wrap64 (a + 1)))) + 1) = zig a := by
      unfold zig wrap64; rw [if_neg h]; simp only [IntKind.wrap_u64]; omega
    have t : decide (0 ≤ a) = false := by simpa using h
    have HZ := Lib.hid hz
    clear h h0 h1 hz
    go_enter Try.func23, Try.ntmps23
    go_wp2
    go_ret
    exact ⟨ret_int HZ.out, rfl⟩

theorem rzag_any (u : Nat) (w : World) (h1 : u < 18446744073709551616) :
    Calls Try.prog 25 #[.int .u64 (u : Int)] w fun e w' => e = .returned (.int .i64 (zag u)) ∧ w = w' := by
  by_cases h : (u : Int) % 2 = 0
  · have hz : wrap64 (IntKind.u64.wrap ((u : Int) / 2)) = zag u := by
      unfold zag wrap64; rw [if_pos h, IntKind.wrap_u64]; omega
    have t : ((u : Int) % 2 == 0) = true := by simpa using h
    have HZ := Lib.hid hz
    clear h h1 hz
    go_enter Try.func25, Try.ntmps25
    go_wp2
    go_ret
    exact ⟨ret_int HZ.out, rfl⟩
  · have hz : wrap64 (wrap64 (-wrap64 (IntKind.u64.wrap ((u : Int) / 2))) - 1) = zag u := by
      unfold zag wrap64; rw [if_neg h, IntKind.wrap_u64]; omega
    have t : ((u : Int) % 2 == 0) = false := by simpa using h
    have HZ := Lib.hid hz
    clear h h1 hz
    go_enter Try.func25, Try.ntmps25
    go_wp2
    go_ret
    exact ⟨ret_int HZ.out, rfl⟩
end Go.Proofs.Ytibafpbfgmjcgaa

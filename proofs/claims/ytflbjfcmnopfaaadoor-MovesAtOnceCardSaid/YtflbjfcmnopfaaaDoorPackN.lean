/-
  A head's word: packed and unpacked.
-/
import Derived.Test.YtflbjfcmnopfaaaDoorArnN
import Derived.Laws.BitsAllLaws
namespace Go.Proofs.YtflbjfcmnopfaaaDoor
open Go.RowKit

theorem low21_i64 (a : Int) : bits BinOp.and IntKind.i64 a 2097151 = a % 2097152 := by
  have key : (BitVec.ofInt 64 a &&& BitVec.ofInt 64 2097151).toNat = (a % ((2 ^ 64 : Nat) : Int)).toNat % 2 ^ 21 := by
    have hm : BitVec.ofInt 64 2097151 = BitVec.ofNat 64 (2 ^ 21 - 1) := by decide
    rw [BitVec.toNat_and, hm, BitVec.toNat_ofNat, BitVec.toNat_ofInt, Nat.mod_eq_of_lt (by omega), Nat.and_two_pow_sub_one_eq_mod]
  show IntKind.i64.wrap ((BitVec.ofInt 64 a &&& BitVec.ofInt 64 2097151).toNat : Nat) = _
  rw [key, IntKind.wrap_i64]
  have e64 : (2 : Nat) ^ 64 = 18446744073709551616 := by decide
  have e21 : (2 : Nat) ^ 21 = 2097152 := by decide
  rw [e64, e21]
  omega

theorem or21_i64 (a n : Nat) (ha : a < 16) (hn : n < 2097152) : bits BinOp.or IntKind.i64 ((a : Int) * 2097152) (n : Int) = (a : Int) * 2097152 + (n : Int) := by
  have key : (BitVec.ofInt 64 ((a : Int) * 2097152) ||| BitVec.ofInt 64 (n : Int)).toNat = a * 2097152 + n := by
    rw [BitVec.toNat_or, BitVec.toNat_ofInt, BitVec.toNat_ofInt]
    have e1 : (((a : Int) * 2097152) % ((2 ^ 64 : Nat) : Int)).toNat = 2 ^ 21 * a := by
      have e64 : (2 : Nat) ^ 64 = 18446744073709551616 := by decide
      have e21 : (2 : Nat) ^ 21 = 2097152 := by decide
      rw [e64, e21]; omega
    have e2 : ((n : Int) % ((2 ^ 64 : Nat) : Int)).toNat = n := by
      have e64 : (2 : Nat) ^ 64 = 18446744073709551616 := by decide
      rw [e64]; omega
    rw [e1, e2, ← Nat.two_pow_add_eq_or_of_lt (by simpa using hn)]
    omega
  show IntKind.i64.wrap ((BitVec.ofInt 64 ((a : Int) * 2097152) ||| BitVec.ofInt 64 (n : Int)).toNat : Nat) = _
  rw [key, IntKind.wrap_i64]
  omega

def packB (c n : Int) : Bool := decide (-2 ≤ c ∧ c < 12 ∧ 0 ≤ n ∧ n ≤ 1048576)
theorem pack_of {c n : Int} (h : -2 ≤ c ∧ c < 12 ∧ 0 ≤ n ∧ n ≤ 1048576) : packB c n = true := by simpa [packB] using h
theorem unpack_of {c n : Int} (h : packB c n = true) : -2 ≤ c ∧ c < 12 ∧ 0 ≤ n ∧ n ≤ 1048576 := by simpa [packB] using h
theorem nopack_of {c n : Int} (h : packB c n = false) : ¬ (-2 ≤ c ∧ c < 12 ∧ 0 ≤ n ∧ n ≤ 1048576) := by simpa [packB] using h

/-- A head's word. -/
def word (c n : Int) : Int := if packB c n then (c + 2) * 2097152 + n else -1

theorem pack_yes (c n : Int) (w : World) (h : -2 ≤ c ∧ c < 12 ∧ 0 ≤ n ∧ n ≤ 1048576) :
    Calls Tryd.prog 162 #[.int .i64 c, .int .i64 n] w fun e w' => e = .returned (.int .i64 ((c + 2) * 2097152 + n)) ∧ w = w' := by
  obtain ⟨h1, h2, h3, h4⟩ := h
  have d1 : decide (c < -2) = false := by simp; omega
  have d2 : decide (12 ≤ c) = false := by simp; omega
  have d3 : decide (n < 0) = false := by simp; omega
  have d4 : decide (1048576 < n) = false := by simp; omega
  have e1 : (c + 2) * 2097152 = (((c + 2).toNat : Nat) : Int) * 2097152 := by omega
  have e2 : n = ((n.toNat : Nat) : Int) := by omega
  have e3 := or21_i64 (c + 2).toNat n.toNat (by omega) (by omega)
  rw [← e1, ← e2] at e3
  clear e1 e2
  go_enter Tryd.func162, Tryd.ntmps162
  go_wp2
  go_ret
  exact ⟨rfl, rfl⟩

theorem pack_no (c n : Int) (w : World) (h : ¬ (-2 ≤ c ∧ c < 12 ∧ 0 ≤ n ∧ n ≤ 1048576)) :
    Calls Tryd.prog 162 #[.int .i64 c, .int .i64 n] w fun e w' => e = .returned (.int .i64 (-1)) ∧ w = w' := by
  have hd : (decide (c < -2) || decide (12 ≤ c) || decide (n < 0) || decide (1048576 < n)) = true := by simp; omega
  by_cases h1 : c < -2
  · clear h hd
    have d1 : decide (c < -2) = true := by simp; omega
    go_enter Tryd.func162, Tryd.ntmps162
    go_wp2
    go_ret
    exact ⟨rfl, rfl⟩
  · have d1 : decide (c < -2) = false := by simp; omega
    by_cases h2 : 12 ≤ c
    · clear h hd
      have d2 : decide (12 ≤ c) = true := by simp; omega
      go_enter Tryd.func162, Tryd.ntmps162
      go_wp2
      go_ret
      exact ⟨rfl, rfl⟩
    · have d2 : decide (12 ≤ c) = false := by simp; omega
      by_cases h3 : n < 0
      · clear h hd
        have d3 : decide (n < 0) = true := by simp; omega
        go_enter Tryd.func162, Tryd.ntmps162
        go_wp2
        go_ret
        exact ⟨rfl, rfl⟩
      · have d3 : decide (n < 0) = false := by simp; omega
        have d4 : decide (1048576 < n) = true := by simp; omega
        clear h hd
        go_enter Tryd.func162, Tryd.ntmps162
        go_wp2
        go_ret
        exact ⟨rfl, rfl⟩

theorem pack_any (c n : Int) (w : World) : Calls Tryd.prog 162 #[.int .i64 c, .int .i64 n] w fun e w' => e = .returned (.int .i64 (word c n)) ∧ w = w' := by
  unfold word
  cases h : packB c n with
  | true => rw [if_pos rfl]; exact pack_yes c n w (unpack_of h)
  | false => rw [if_neg (by simp)]; exact pack_no c n w (nopack_of h)

def headB (v : Int) : Bool := decide (0 ≤ v ∧ v / 2097152 - 2 < 12 ∧ v % 2097152 ≤ 1048576)
theorem head_of {v : Int} (h : headB v = true) : 0 ≤ v ∧ v / 2097152 - 2 < 12 ∧ v % 2097152 ≤ 1048576 := by simpa [headB] using h
theorem nohead_of {v : Int} (h : headB v = false) : ¬ (0 ≤ v ∧ v / 2097152 - 2 < 12 ∧ v % 2097152 ≤ 1048576) := by simpa [headB] using h

theorem unpack_yes (v : Int) (w : World) (h0 : -9223372036854775808 ≤ v) (h1 : v ≤ 9223372036854775807) (h : 0 ≤ v ∧ v / 2097152 - 2 < 12 ∧ v % 2097152 ≤ 1048576) :
    Calls Tryd.prog 114 #[.int .i64 v] w fun e w' => e = .returned (.tuple #[.int .i64 (v / 2097152 - 2), .int .i64 (v % 2097152), .bool true]) ∧ w = w' := by
  obtain ⟨h2, h3, h4⟩ := h
  have d1 : decide (v < 0) = false := by simp; omega
  have d2 : decide (12 ≤ v / 2097152 - 2) = false := by simp; omega
  have d3 : decide (1048576 < v % 2097152) = false := by simp; omega
  have e1 := low21_i64 v
  go_enter Tryd.func114, Tryd.ntmps114
  go_wp2
  exact bodyPost_ret (v := .tuple #[.int .i64 (v / 2097152 - 2), .int .i64 (v % 2097152), .bool true]) (by simp [results, Tryd.results114, go_sem]) rfl ⟨rfl, rfl⟩

theorem unpack_no (v : Int) (w : World) (h0 : -9223372036854775808 ≤ v) (h1 : v ≤ 9223372036854775807) (h : ¬ (0 ≤ v ∧ v / 2097152 - 2 < 12 ∧ v % 2097152 ≤ 1048576)) :
    Calls Tryd.prog 114 #[.int .i64 v] w fun e w' => e = .returned (.tuple #[.int .i64 0, .int .i64 0, .bool false]) ∧ w = w' := by
  have e1 := low21_i64 v
  have hr : -4398046511107 ≤ v / 2097152 - 2 ∧ v / 2097152 - 2 ≤ 4398046511105 := by omega
  obtain ⟨r0, r1⟩ := hr
  by_cases h2 : v < 0
  · clear h
    have d1 : decide (v < 0) = true := by simp; omega
    go_enter Tryd.func114, Tryd.ntmps114
    go_wp2
    exact bodyPost_ret (v := .tuple #[.int .i64 0, .int .i64 0, .bool false]) (by simp [results, Tryd.results114, go_sem]) rfl ⟨rfl, rfl⟩
  · have d1 : decide (v < 0) = false := by simp; omega
    by_cases h3 : 12 ≤ v / 2097152 - 2
    · clear h
      have d2 : decide (12 ≤ v / 2097152 - 2) = true := by simp; omega
      go_enter Tryd.func114, Tryd.ntmps114
      go_wp2
      exact bodyPost_ret (v := .tuple #[.int .i64 0, .int .i64 0, .bool false]) (by simp [results, Tryd.results114, go_sem]) rfl ⟨rfl, rfl⟩
    · have d2 : decide (12 ≤ v / 2097152 - 2) = false := by simp; omega
      have h4 : 1048576 < v % 2097152 := by omega
      clear h
      have d3 : decide (1048576 < v % 2097152) = true := by simp; omega
      go_enter Tryd.func114, Tryd.ntmps114
      go_wp2
      exact bodyPost_ret (v := .tuple #[.int .i64 0, .int .i64 0, .bool false]) (by simp [results, Tryd.results114, go_sem]) rfl ⟨rfl, rfl⟩

/-- What is packed is unpacked. -/
theorem unpack_word (c n : Int) (w : World) (h : -2 ≤ c ∧ c < 12 ∧ 0 ≤ n ∧ n ≤ 1048576) :
    Calls Tryd.prog 114 #[.int .i64 (word c n)] w fun e w' => e = .returned (.tuple #[.int .i64 c, .int .i64 n, .bool true]) ∧ w = w' := by
  have e : word c n = (c + 2) * 2097152 + n := by unfold word; rw [if_pos (pack_of h)]
  have e1 : ((c + 2) * 2097152 + n) / 2097152 - 2 = c := by omega
  have e2 : ((c + 2) * 2097152 + n) % 2097152 = n := by omega
  have k := unpack_yes ((c + 2) * 2097152 + n) w (by omega) (by omega) ⟨by omega, by rw [e1]; omega, by rw [e2]; omega⟩
  rw [e1, e2] at k
  rw [e]
  exact k

theorem unpack_none (c n : Int) (w : World) (h : ¬ (-2 ≤ c ∧ c < 12 ∧ 0 ≤ n ∧ n ≤ 1048576)) :
    Calls Tryd.prog 114 #[.int .i64 (word c n)] w fun e w' => e = .returned (.tuple #[.int .i64 0, .int .i64 0, .bool false]) ∧ w = w' := by
  have e : word c n = -1 := by
    unfold word
    rw [if_neg]
    intro hp
    exact h (unpack_of hp)
  rw [e]
  exact unpack_no (-1) w (by omega) (by omega) (by omega)

theorem word_head (v : Int) (h : 0 ≤ v ∧ v / 2097152 - 2 < 12 ∧ v % 2097152 ≤ 1048576) : word (v / 2097152 - 2) (v % 2097152) = v := by
  unfold word
  rw [if_pos (pack_of ⟨by omega, by omega, by omega, by omega⟩)]
  omega

theorem word_inj (c n d m : Int) (h : -2 ≤ c ∧ c < 12 ∧ 0 ≤ n ∧ n ≤ 1048576) (k : -2 ≤ d ∧ d < 12 ∧ 0 ≤ m ∧ m ≤ 1048576) : word c n = word d m ↔ (c = d ∧ n = m) := by
  have e : word c n = (c + 2) * 2097152 + n := by unfold word; rw [if_pos (pack_of h)]
  have e' : word d m = (d + 2) * 2097152 + m := by unfold word; rw [if_pos (pack_of k)]
  rw [e, e']
  constructor
  · intro q; omega
  · rintro ⟨rfl, rfl⟩; rfl

end Go.Proofs.YtflbjfcmnopfaaaDoor

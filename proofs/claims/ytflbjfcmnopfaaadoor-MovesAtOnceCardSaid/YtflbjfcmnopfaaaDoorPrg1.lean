/-
  Package prog: within, UsesFields, letters; what an instruction names.
-/
import Derived.Test.YtflbjfcmnopfaaaDoorSee3
namespace Go.Proofs.YtflbjfcmnopfaaaDoor
open Go.RowKit

def inside (i n : Int) : Bool := decide (0 ≤ i ∧ i < n)

theorem within_any (i n : Int) (w : World) : Calls Tryd.prog 138 #[.int .i64 i, .int .i64 n] w fun e w' => e = .returned (.bool (inside i n)) ∧ w = w' := by
  by_cases h0 : 0 ≤ i
  · by_cases h1 : i < n
    · have hr : inside i n = true := by simp [inside, h0, h1]
      rw [hr]
      have t0 : decide (0 ≤ i) = true := by simpa using h0
      have t1 : decide (i < n) = true := by simpa using h1
      clear h0 h1 hr
      go_enter Tryd.func138, Tryd.ntmps138
      go_wp2
      go_ret
      exact ⟨rfl, rfl⟩
    · have hr : inside i n = false := by simp [inside, h1]
      rw [hr]
      have t0 : decide (0 ≤ i) = true := by simpa using h0
      have t1 : decide (i < n) = false := by simpa using h1
      clear h0 h1 hr
      go_enter Tryd.func138, Tryd.ntmps138
      go_wp2
      go_ret
      exact ⟨rfl, rfl⟩
  · have hr : inside i n = false := by simp [inside, h0]
    rw [hr]
    have t0 : decide (0 ≤ i) = false := by simpa using h0
    clear h0 hr
    go_enter Tryd.func138, Tryd.ntmps138
    go_wp2
    go_ret
    exact ⟨rfl, rfl⟩

def useA (op : Int) : Bool := op == 3 || op == 4 || op == 22 || op == 23 || op == 24 || op == 27 || op == 28 || op == 29 || op == 30 || op == 32 || op == 25 || op == 26
def useB (op : Int) : Bool := op == 25 || op == 26
def useN (op : Int) : Bool := op == 1

set_option maxHeartbeats 1000000 in
set_option maxRecDepth 100000 in
theorem uses_any (op : Int) (w : World) : Calls Tryd.prog 170 #[.int .i64 op] w fun e w' => e = .returned (.tuple #[.bool (useA op), .bool (useB op), .bool (useN op)]) ∧ w = w' := by
  by_cases h : op = 3 ∨ op = 4 ∨ op = 22 ∨ op = 23 ∨ op = 24 ∨ op = 27 ∨ op = 28 ∨ op = 29 ∨ op = 30 ∨ op = 32 ∨ op = 25 ∨ op = 26 ∨ op = 1
  · rcases h with rfl | rfl | rfl | rfl | rfl | rfl | rfl | rfl | rfl | rfl | rfl | rfl | rfl
    all_goals
      go_enter Tryd.func170, Tryd.ntmps170
      go_wp2
      first
        | exact bodyPost_ret (v := .tuple #[.bool true, .bool false, .bool false]) (by simp [results, Tryd.results170, go_sem]) rfl ⟨rfl, rfl⟩
        | exact bodyPost_ret (v := .tuple #[.bool true, .bool true, .bool false]) (by simp [results, Tryd.results170, go_sem]) rfl ⟨rfl, rfl⟩
        | exact bodyPost_ret (v := .tuple #[.bool false, .bool false, .bool true]) (by simp [results, Tryd.results170, go_sem]) rfl ⟨rfl, rfl⟩
  · simp only [not_or] at h
    obtain ⟨h3, h4, h22, h23, h24, h27, h28, h29, h30, h32, h25, h26, h1⟩ := h
    have t3 : (op == 3) = false := by simpa using h3
    have t4 : (op == 4) = false := by simpa using h4
    have t22 : (op == 22) = false := by simpa using h22
    have t23 : (op == 23) = false := by simpa using h23
    have t24 : (op == 24) = false := by simpa using h24
    have t27 : (op == 27) = false := by simpa using h27
    have t28 : (op == 28) = false := by simpa using h28
    have t29 : (op == 29) = false := by simpa using h29
    have t30 : (op == 30) = false := by simpa using h30
    have t32 : (op == 32) = false := by simpa using h32
    have t25 : (op == 25) = false := by simpa using h25
    have t26 : (op == 26) = false := by simpa using h26
    have t1 : (op == 1) = false := by simpa using h1
    have e1 : useA op = false := by simp only [useA, t3, t4, t22, t23, t24, t27, t28, t29, t30, t32, t25, t26]; rfl
    have e2 : useB op = false := by simp only [useB, t25, t26]; rfl
    have e3 : useN op = false := by simp only [useN, t1]
    rw [e1, e2, e3]
    clear e1 e2 e3 h3 h4 h22 h23 h24 h27 h28 h29 h30 h32 h25 h26 h1
    go_enter Tryd.func170, Tryd.ntmps170
    go_wp2
    exact bodyPost_ret (v := .tuple #[.bool false, .bool false, .bool false]) (by simp [results, Tryd.results170, go_sem]) rfl ⟨rfl, rfl⟩

/-- A text of I and R alone. -/
def Fair (s : ByteArray) : Prop := ∀ k (h : k < s.size), s[k].toNat = 73 ∨ s[k].toNat = 82

set_option maxHeartbeats 400000 in
theorem letters_fair (s : ByteArray) (w : World) (hs : s.size ≤ maxLen) (hf : Fair s) :
    Calls Tryd.prog 167 #[.string s] w fun e w' => e = .returned (.bool true) ∧ w = w' := by
  unfold maxLen at hs
  have HF := Lib.hid hf
  clear hf
  go_enter Tryd.func167, Tryd.ntmps167
  go_wp2
  go_loop [6] (fun i => ∃ k : Nat, k ≤ s.size ∧ i = .int .i64 k) (fun i => s.size - (intOf i).toNat)
  case atStart => exact ⟨0, Nat.zero_le _, rfl⟩
  case round =>
    obtain ⟨k, hk, rfl⟩ := hrel
    by_cases hlt : k < s.size
    · rcases HF.out k hlt with h | h
      · have t1 : decide (k < s.size) = true := by simpa using hlt
        go_wp2
        all_goals first
          | (go_round
             case rel => exact ⟨k + 1, by omega, by go_num⟩
             case measure => simp [intOf]; omega)
          | (exfalso; omega)
      · have t1 : decide (k < s.size) = true := by simpa using hlt
        go_wp2
        all_goals first
          | (go_round
             case rel => exact ⟨k + 1, by omega, by go_num⟩
             case measure => simp [intOf]; omega)
          | (exfalso; omega)
    · go_wp2
      go_ret
      exact ⟨rfl, rfl⟩

end Go.Proofs.YtflbjfcmnopfaaaDoor

/-
  The document's programs, and the code's: letters, at any text; UsesA, UsesB.
-/
import Derived.Test.YtjffbojgdemooaaDoorPrg1
namespace Go.Proofs.YtjffbojgdemooaaDoor
open Go.RowKit

/-- Is a text of I and R alone? -/
noncomputable def fairB (s : ByteArray) : Bool := @decide (Fair s) (Classical.propDecidable _)
theorem fairB_yes {s : ByteArray} (h : Fair s) : fairB s = true := by unfold fairB; exact @decide_eq_true _ (Classical.propDecidable _) h
theorem fairB_no {s : ByteArray} (h : ¬ Fair s) : fairB s = false := by unfold fairB; exact @decide_eq_false _ (Classical.propDecidable _) h
theorem fair_of {s : ByteArray} (h : fairB s = true) : Fair s := by unfold fairB at h; exact @of_decide_eq_true _ (Classical.propDecidable _) h

def LetPost (s : ByteArray) (w : World) (e : Ending) (w' : World) : Prop := e = .returned (.bool (fairB s)) ∧ w = w'

def LetRel (s : ByteArray) (si : Value) : Prop := ∃ k : Nat, k ≤ s.size ∧ si = .int .i64 k ∧ ∀ j (h : j < s.size), j < k → s[j].toNat = 73 ∨ s[j].toNat = 82

theorem let_next {s : ByteArray} {k : Nat} (hk : k < s.size) (h : s[k].toNat = 73 ∨ s[k].toNat = 82) (hr : ∀ j (h : j < s.size), j < k → s[j].toNat = 73 ∨ s[j].toNat = 82) : LetRel s (.int .i64 (k + 1 : Nat)) :=
  ⟨k + 1, hk, rfl, fun j hj hjk => by
    by_cases e : j = k
    · subst e; exact h
    · exact hr j hj (by omega)⟩

set_option maxHeartbeats 400000 in
theorem letters_any (s : ByteArray) (w : World) (hs : s.size ≤ maxLen) :
    Calls Tryd.prog 151 #[.string s] w (LetPost s w) := by
  unfold maxLen at hs
  go_enter Tryd.func151, Tryd.ntmps151
  go_wp2
  go_loop [6] (fun i => LetRel s i) (fun i => s.size - (intOf i).toNat)
  case atStart => exact ⟨0, Nat.zero_le _, rfl, fun j _ h => absurd h (Nat.not_lt_zero _)⟩
  case round =>
    obtain ⟨k, hk, rfl, hr⟩ := hrel
    have HR := Lib.hid hr
    clear hr
    by_cases hlt : k < s.size
    · by_cases hf : s[k].toNat = 73 ∨ s[k].toNat = 82
      · have HN := Lib.hid (let_next hlt hf HR.out)
        rcases hf with h | h
        all_goals
          have t1 : decide (k < s.size) = true := by simpa using hlt
          go_wp2
          all_goals first
            | (go_round
               case rel => exact HN.out
               case measure => simp [intOf]; omega)
            | (exfalso; omega)
      · have HF : Hid (fairB s = false) := Lib.hid (fairB_no fun h => hf (h k hlt))
        have t1 : decide (k < s.size) = true := by simpa using hlt
        have hf1 : s[k].toNat ≠ 73 := fun e => hf (.inl e)
        have hf2 : s[k].toNat ≠ 82 := fun e => hf (.inr e)
        clear hf
        go_wp2
        all_goals first
          | (exfalso; omega)
          | (exfalso; simp only [bne_eq_false_iff_eq] at *; omega)
          | (go_ret; exact ⟨by rw [HF.out]; rfl, rfl⟩)
    · have HF : Hid (fairB s = true) := Lib.hid (fairB_yes fun j hj => HR.out j hj (by omega))
      go_wp2
      go_ret
      exact ⟨by rw [HF.out]; rfl, rfl⟩

set_option maxHeartbeats 400000 in
theorem rletters_any (s : ByteArray) (w : World) (hs : s.size ≤ maxLen) :
    Calls Tryd.prog 101 #[.string s] w (LetPost s w) := by
  unfold maxLen at hs
  go_enter Tryd.func101, Tryd.ntmps101
  go_wp2
  go_loop [3] (fun i => LetRel s i) (fun i => s.size - (intOf i).toNat)
  case atStart => exact ⟨0, Nat.zero_le _, rfl, fun j _ h => absurd h (Nat.not_lt_zero _)⟩
  case round =>
    obtain ⟨k, hk, rfl, hr⟩ := hrel
    have HR := Lib.hid hr
    clear hr
    by_cases hlt : k < s.size
    · by_cases hf : s[k].toNat = 73 ∨ s[k].toNat = 82
      · have HN := Lib.hid (let_next hlt hf HR.out)
        rcases hf with h | h
        all_goals
          have t1 : decide (k < s.size) = true := by simpa using hlt
          go_wp2
          all_goals first
            | (go_round
               case rel => exact HN.out
               case measure => simp [intOf]; omega)
            | (exfalso; omega)
      · have HF : Hid (fairB s = false) := Lib.hid (fairB_no fun h => hf (h k hlt))
        have t1 : decide (k < s.size) = true := by simpa using hlt
        have hf1 : s[k].toNat ≠ 73 := fun e => hf (.inl e)
        have hf2 : s[k].toNat ≠ 82 := fun e => hf (.inr e)
        clear hf
        go_wp2
        all_goals first
          | (exfalso; omega)
          | (exfalso; simp only [bne_eq_false_iff_eq] at *; omega)
          | (go_ret; exact ⟨by rw [HF.out]; rfl, rfl⟩)
    · have HF : Hid (fairB s = true) := Lib.hid (fairB_yes fun j hj => HR.out j hj (by omega))
      go_wp2
      go_ret
      exact ⟨by rw [HF.out]; rfl, rfl⟩

set_option maxHeartbeats 1000000 in
set_option maxRecDepth 100000 in
theorem rusesA_any (op : Int) (w : World) : Calls Tryd.prog 155 #[.int .i64 op] w fun e w' => e = .returned (.bool (useA op)) ∧ w = w' := by
  by_cases h : op = 3 ∨ op = 4 ∨ op = 22 ∨ op = 23 ∨ op = 24 ∨ op = 27 ∨ op = 28 ∨ op = 29 ∨ op = 30 ∨ op = 32 ∨ op = 25 ∨ op = 26
  · rcases h with rfl | rfl | rfl | rfl | rfl | rfl | rfl | rfl | rfl | rfl | rfl | rfl
    all_goals
      go_enter Tryd.func155, Tryd.ntmps155
      go_wp2
      go_ret
      exact ⟨rfl, rfl⟩
  · simp only [not_or] at h
    obtain ⟨h3, h4, h22, h23, h24, h27, h28, h29, h30, h32, h25, h26⟩ := h
    have t3 : (op == 3) = false := by simpa using h3
    have t4 : (op == 4) = false := by simpa using h4
    have t22 : (op == 22) = false := by simpa using h22
    have t23 : (op == 23) = false := by simpa using h23
    have t24 : (op == 24) = false := by simpa using h24
    have t27 : (op == 27) = false := by simpa using h27
    have t28 : (op == 28) = false := by simpa using h28
    have t29 : (op == 29) = false := by simpa using h29
    have t30 : (op == 30) = false := by simpa using h30
    have t32 : (op == 32) = false := by simpa using h32
    have t25 : (op == 25) = false := by simpa using h25
    have t26 : (op == 26) = false := by simpa using h26
    have e1 : useA op = false := by simp only [useA, t3, t4, t22, t23, t24, t27, t28, t29, t30, t32, t25, t26]; rfl
    rw [e1]
    clear e1 h3 h4 h22 h23 h24 h27 h28 h29 h30 h32 h25 h26
    go_enter Tryd.func155, Tryd.ntmps155
    go_wp2
    go_ret
    exact ⟨rfl, rfl⟩

theorem rusesB_any (op : Int) (w : World) : Calls Tryd.prog 154 #[.int .i64 op] w fun e w' => e = .returned (.bool (useB op)) ∧ w = w' := by
  by_cases h : op = 25
  · subst h
    go_enter Tryd.func154, Tryd.ntmps154
    go_wp2
    go_ret
    exact ⟨rfl, rfl⟩
  · by_cases h6 : op = 26
    · subst h6
      go_enter Tryd.func154, Tryd.ntmps154
      go_wp2
      go_ret
      exact ⟨rfl, rfl⟩
    · have t25 : (op == 25) = false := by simpa using h
      have t26 : (op == 26) = false := by simpa using h6
      have e : useB op = false := by simp [useB, t25, t26]
      rw [e]
      clear e h h6
      go_enter Tryd.func154, Tryd.ntmps154
      go_wp2
      go_ret
      exact ⟨rfl, rfl⟩

end Go.Proofs.YtjffbojgdemooaaDoor

/-
  What keeps the last instruction from being one, in numbers.
-/
import Derived.Test.YtjcklfbpdjfibaaDoorPOne0
namespace Go.Proofs.YtjcklfbpdjfibaaDoor
open Go.RowKit

theorem inside_iff (i n : Int) : (inside i n = true) ↔ (0 ≤ i ∧ i < n) := by simp [inside]

theorem named_iff (op A B : Int) : namedB 2 2 2 (fun i => (oneF i).size) op A B = true ↔
    ((op = 3 ∨ op = 4 ∨ op = 24 ∨ op = 27 → 0 ≤ A ∧ A ≤ 1) ∧ (op = 25 ∨ op = 26 → A = 0 ∧ 0 ≤ B ∧ B ≤ 1) ∧ (op = 28 ∨ op = 29 ∨ op = 30 → A = 0 ∨ A = 1) ∧ (op = 32 → A = 1)) := by
  unfold namedB
  split
  · rw [inside_iff]; omega
  · split
    · rw [inside_iff]; omega
    · split
      · rw [Bool.and_eq_true, inside_iff, inside_iff]
        have e0 : (oneF 0).size = 2 := rfl
        by_cases h0 : A = 0
        · subst h0
          show _ ∧ (0 ≤ B ∧ B < ((oneF 0).size : Nat)) ↔ _
          rw [e0]
          omega
        · by_cases h1 : A = 1
          · subst h1
            have e1 : (oneF 1).size = 0 := rfl
            show _ ∧ (0 ≤ B ∧ B < ((oneF 1).size : Nat)) ↔ _
            rw [e1]
            omega
          · constructor
            · rintro ⟨h, _⟩; omega
            · intro h; omega
      · split
        · rw [inside_iff]; omega
        · split
          · rw [Bool.and_eq_true, decide_eq_true_iff, decide_eq_true_iff]; omega
          · constructor
            · intro _; omega
            · intro _; rfl

theorem useA_iff (op : Int) : useA op = true ↔ (op = 3 ∨ op = 4 ∨ op = 22 ∨ op = 23 ∨ op = 24 ∨ op = 27 ∨ op = 28 ∨ op = 29 ∨ op = 30 ∨ op = 32 ∨ op = 25 ∨ op = 26) := by
  simp [useA, or_assoc]
theorem useB_iff (op : Int) : useB op = true ↔ (op = 25 ∨ op = 26) := by simp [useB]
theorem useN_iff (op : Int) : useN op = true ↔ op = 1 := by simp [useN]

theorem oneC_cases (op A B N : Int) : ((op < 1 ∨ 35 < op) ∧ oneC op A B N = 2) ∨ (okOne op A B N ∧ oneC op A B N = 0) ∨ ((1 ≤ op ∧ op ≤ 35 ∧ (op = 22 ∨ op = 23) ∧ (A < 0 ∨ 1 < A)) ∧ oneC op A B N = 4) ∨ ((1 ≤ op ∧ op ≤ 35 ∧ ¬ okOne op A B N ∧ ¬ ((op = 22 ∨ op = 23) ∧ (A < 0 ∨ 1 < A))) ∧ oneC op A B N = 3) := by
  by_cases h0 : op < 1 ∨ 35 < op
  · exact .inl ⟨h0, by rw [oneC, instrC, if_pos h0]⟩
  · have hn := named_iff op A B
    have ua := useA_iff op
    have ub := useB_iff op
    have un := useN_iff op
    have ins := inside_iff A (2 : Nat)
    unfold oneC instrC okOne
    rw [if_neg h0]
    generalize namedB 2 2 2 (fun i => (oneF i).size) op A B = nb at *
    generalize useA op = xa at *
    generalize useB op = xb at *
    generalize useN op = xn at *
    generalize inside A (2 : Nat) = xi at *
    by_cases h1 : nb = false
    · rw [if_pos h1]
      have h2 : ¬ (nb = true) := by simp [h1]
      rw [hn] at h2
      by_cases h3 : (op = 22 ∨ op = 23)
      · exfalso; omega
      · refine .inr (.inr (.inr ⟨⟨by omega, by omega, by omega, by omega⟩, rfl⟩))
    · rw [if_neg h1]
      have h2 : nb = true := by simpa using h1
      rw [hn] at h2
      by_cases h3 : (op = 22 ∨ op = 23) ∧ xi = false
      · rw [if_pos h3]
        have h4 : ¬ (xi = true) := by simp [h3.2]
        rw [ins] at h4
        refine .inr (.inr (.inl ⟨⟨by omega, by omega, h3.1, by omega⟩, rfl⟩))
      · rw [if_neg h3]
        have h5 : (op = 22 ∨ op = 23) → 0 ≤ A ∧ A ≤ 1 := fun h => by
          have : xi = true := by
            cases xi with
            | true => rfl
            | false => exact absurd ⟨h, rfl⟩ h3
          rw [ins] at this
          omega
        have fa : xa = false ↔ ¬ (xa = true) := by simp
        have fb : xb = false ↔ ¬ (xb = true) := by simp
        have fn : xn = false ↔ ¬ (xn = true) := by simp
        split
        · rename_i h6
          rw [fa, fb, fn, ua, ub, un] at h6
          refine .inr (.inr (.inr ⟨⟨by omega, by omega, by omega, by omega⟩, rfl⟩))
        · rename_i h6
          rw [fa, fb, fn, ua, ub, un] at h6
          refine .inr (.inl ⟨by omega, rfl⟩)

end Go.Proofs.YtjcklfbpdjfibaaDoor

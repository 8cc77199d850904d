/-
  flow.Of, plainly: where blocks begin, and which block an instruction stands in.
-/
import Derived.Test.YtchechdcebmoeaaDoorSetB
namespace Go.Proofs.YtchechdcebmoeaaDoor
open Go.RowKit
/-- Where the i-th block begins; n behind the last one. -/
def frB (f : Nat → Bool) (n i : Nat) : Nat := (members f n).getD i n
def nB (f : Nat → Bool) (n : Nat) : Nat := (members f n).length
/-- The block that an instruction stands in. -/
def atB (f : Nat → Bool) (pc : Nat) : Nat := nB f (pc + 1) - 1

theorem mem_next (f : Nat → Bool) (n : Nat) : members f (n + 1) = members f n ++ (if f n then [n] else []) := by
  unfold members
  rw [List.range_succ, List.filter_append]
  congr 1
  cases h : f n <;> simp [h]
theorem frB_out (f : Nat → Bool) (n i : Nat) (h : nB f n ≤ i) : frB f n i = n := by
  unfold frB nB at *
  simp [List.getD, List.getElem?_eq_none h]
theorem frB_in (f : Nat → Bool) (n i : Nat) (h : i < nB f n) : frB f n i ∈ members f n := by
  unfold frB nB at *
  simp [List.getD, h]
theorem frB_lt (f : Nat → Bool) (n i : Nat) (h : i < nB f n) : frB f n i < n ∧ f (frB f n i) = true := by
  have := List.mem_filter.1 (frB_in f n i h)
  exact ⟨List.mem_range.1 this.1, this.2⟩
theorem frB_le (f : Nat → Bool) (n i : Nat) : frB f n i ≤ n := by
  by_cases h : i < nB f n
  · exact Nat.le_of_lt (frB_lt f n i h).1
  · exact Nat.le_of_eq (frB_out f n i (by omega))
theorem mem_pair (f : Nat → Bool) (n : Nat) : (members f n).Pairwise (· < ·) := List.Pairwise.filter _ List.pairwise_lt_range
theorem frB_rise (f : Nat → Bool) (n : Nat) {i j : Nat} (h : i < j) (hi : i < nB f n) : frB f n i < frB f n j := by
  by_cases hj : j < nB f n
  · have := List.pairwise_iff_getElem.1 (mem_pair f n) i j hi hj h
    have e1 : frB f n i = (members f n)[i]'hi := by unfold frB; simp [List.getD, show i < (members f n).length from hi]; rfl
    have e2 : frB f n j = (members f n)[j]'hj := by unfold frB; simp [List.getD, show j < (members f n).length from hj]; rfl
    rw [e1, e2]
    exact this
  · rw [frB_out f n j (by omega)]
    exact (frB_lt f n i hi).1
theorem frB_mono (f : Nat → Bool) (n : Nat) {i j : Nat} (h : i ≤ j) : frB f n i ≤ frB f n j := by
  rcases Nat.lt_or_ge i j with h1 | h1
  · by_cases hi : i < nB f n
    · exact Nat.le_of_lt (frB_rise f n h1 hi)
    · rw [frB_out f n i (by omega), frB_out f n j (by omega)]; exact Nat.le_refl _
  · obtain rfl : i = j := by omega
    exact Nat.le_refl _
/-- Each head is a block's. -/
theorem frB_has (f : Nat → Bool) (n : Nat) {h : Nat} (hn : h < n) (hf : f h = true) : ∃ i, i < nB f n ∧ frB f n i = h := by
  have hm : h ∈ members f n := List.mem_filter.2 ⟨List.mem_range.2 hn, hf⟩
  obtain ⟨i, hi, e⟩ := List.getElem_of_mem hm
  exact ⟨i, hi, by unfold frB; simp [List.getD, hi, e]⟩
theorem frB_inj (f : Nat → Bool) (n : Nat) {i j : Nat} (hi : i < nB f n) (hj : j < nB f n) (e : frB f n i = frB f n j) : i = j := by
  rcases Nat.lt_trichotomy i j with h | h | h
  · have := frB_rise f n h hi; omega
  · exact h
  · have := frB_rise f n h hj; omega
/-- No head stands within a block. -/
theorem frB_none (f : Nat → Bool) (n : Nat) {i pc : Nat} (h1 : frB f n i < pc) (h2 : pc < frB f n (i + 1)) : f pc = false := by
  cases hf : f pc with
  | false => rfl
  | true =>
    have hle := frB_le f n (i + 1)
    obtain ⟨j, hj, rfl⟩ := frB_has f n (show pc < n by omega) hf
    by_cases hij : j ≤ i
    · have := frB_mono f n hij; omega
    · have := frB_mono f n (show i + 1 ≤ j by omega); omega
theorem frB_first (f : Nat → Bool) (n : Nat) (h0 : 0 < n) (hf : f 0 = true) : frB f n 0 = 0 ∧ 0 < nB f n := by
  obtain ⟨i, hi, e⟩ := frB_has f n h0 hf
  have := frB_mono f n (Nat.zero_le i)
  exact ⟨by omega, by omega⟩

theorem atB_block (f : Nat → Bool) : ∀ (n i pc : Nat), frB f n i ≤ pc → pc < frB f n (i + 1) → nB f (pc + 1) = i + 1 := by
  intro n
  induction n with
  | zero => intro i pc _ h2; have := frB_le f 0 (i + 1); omega
  | succ n ih =>
    intro i pc h1 h2
    have hle := frB_le f (n + 1) (i + 1)
    have hi : i < nB f (n + 1) := by
      rcases Nat.lt_or_ge i (nB f (n + 1)) with h | h
      · exact h
      · rw [frB_out f (n + 1) i h] at h1
        rw [frB_out f (n + 1) (i + 1) (by omega)] at h2
        omega
    by_cases hpc : pc = n
    · subst hpc
      rcases Nat.lt_or_ge (i + 1) (nB f (pc + 1)) with h | h
      · have := (frB_lt f (pc + 1) (i + 1) h).1; omega
      · omega
    · have hpn : pc < n := by omega
      have hmn := mem_next f n
      have hlen : nB f n ≤ nB f (n + 1) ∧ nB f (n + 1) ≤ nB f n + 1 := by
        unfold nB; rw [hmn, List.length_append]; split <;> simp
      have same : ∀ j, j < nB f n → frB f (n + 1) j = frB f n j := fun j hj => by
        unfold frB nB at *
        rw [hmn]
        simp [List.getD, List.getElem?_append_left hj, hj]
      have hin : i < nB f n := by
        rcases Nat.lt_or_ge i (nB f n) with h | h
        · exact h
        · obtain rfl : i = nB f n := by omega
          exfalso
          have hx : f n = true := by
            cases hf : f n with
            | true => rfl
            | false => unfold nB at hi; rw [hmn, hf] at hi; simp at hi
          have : frB f (n + 1) (nB f n) = n := by
            unfold frB nB
            rw [hmn, if_pos hx]
            simp [List.getD]
          omega
      rw [same i hin] at h1
      refine ih i pc h1 ?_
      by_cases hj : i + 1 < nB f n
      · rw [same _ hj] at h2; exact h2
      · rw [frB_out f n (i + 1) (by omega)]; exact hpn
theorem atB_eq (f : Nat → Bool) (n i pc : Nat) (h1 : frB f n i ≤ pc) (h2 : pc < frB f n (i + 1)) : atB f pc = i := by
  unfold atB; rw [atB_block f n i pc h1 h2]; omega
/-- Each instruction stands in a block. -/
theorem atB_in (f : Nat → Bool) (n : Nat) (hf : f 0 = true) {pc : Nat} (h : pc < n) : atB f pc < nB f n ∧ frB f n (atB f pc) ≤ pc ∧ pc < frB f n (atB f pc + 1) := by
  have h0 := frB_first f n (by omega) hf
  have key : ∀ i, i ≤ nB f n → frB f n i ≤ pc → ∃ j, j < nB f n ∧ frB f n j ≤ pc ∧ pc < frB f n (j + 1) := by
    intro i hi
    obtain ⟨d, hd⟩ : ∃ d, nB f n = i + d := ⟨nB f n - i, by omega⟩
    induction d generalizing i with
    | zero => intro h1; rw [frB_out f n i (by omega)] at h1; omega
    | succ d ih =>
      intro h1
      by_cases h2 : pc < frB f n (i + 1)
      · exact ⟨i, by omega, h1, h2⟩
      · exact ih (i + 1) (by omega) (by omega) (by omega)
  obtain ⟨j, hj, h1, h2⟩ := key 0 (Nat.zero_le _) (by omega)
  rw [atB_eq f n j pc h1 h2]
  exact ⟨hj, h1, h2⟩

end Go.Proofs.YtchechdcebmoeaaDoor

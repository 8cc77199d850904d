/-
  Picks that rise by steps: what they are, and where they fall (nothing of the program's).
-/
import Derived.Test.YtpfpieakemnadaaDoorScr2
namespace Go.Proofs.YtpfpieakemnadaaDoor
open Go.RowKit

/-- Where pick i - 1 stands; 100 ahead of the first. -/
def atS (zs : List Int) : Nat → Int
  | 0 => 100
  | i + 1 => if atS zs i + (zs.getD i 0).tmod 50 < 0 then 0 else atS zs i + (zs.getD i 0).tmod 50

theorem tmod_50 (x : Int) : -49 ≤ x.tmod 50 ∧ x.tmod 50 ≤ 49 := by
  have h1 := Int.tmod_lt_of_pos x (show (0 : Int) < 50 by decide)
  have h2 : -50 < x.tmod 50 := by
    rcases Int.le_total 0 x with h | h
    · have := Int.tmod_nonneg 50 h; omega
    · have e : (-x).tmod 50 = -(x.tmod 50) := Int.neg_tmod x 50
      have h3 := Int.tmod_lt_of_pos (-x) (show (0 : Int) < 50 by decide)
      omega
  omega

theorem atS_nonneg (zs : List Int) : ∀ i, 0 ≤ atS zs i
  | 0 => by show (0 : Int) ≤ 100; decide
  | i + 1 => by
    rw [atS]
    split <;> omega
theorem atS_le (zs : List Int) : ∀ i : Nat, atS zs i ≤ 100 + 49 * (i : Int)
  | 0 => by show (100 : Int) ≤ _; omega
  | i + 1 => by
    have ih := atS_le zs i
    have h := tmod_50 (zs.getD i 0)
    rw [atS]
    generalize (zs.getD i 0).tmod 50 = y at *
    generalize atS zs i = x at *
    split <;> omega

def gvR (zs : List Int) (i j : Nat) : Int := match j with
  | 0 => atS zs (i + 1)
  | 1 => 1 + ((i % 2 : Nat) : Int)
  | _ => 0

def fourR (zs : List Int) (i : Nat) : List Value := [.int .i64 (atS zs (i + 1)), .int .i64 (1 + ((i % 2 : Nat) : Int)), .int .i64 0, .int .i64 0]
def flatR (zs : List Int) (n : Nat) : List Value := (List.range n).flatMap (fourR zs)
theorem flatR_next (zs : List Int) (n : Nat) : flatR zs (n + 1) = flatR zs n ++ fourR zs n := by
  unfold flatR
  rw [List.range_succ, List.flatMap_append]
  simp
theorem flatR_len (zs : List Int) : ∀ n, (flatR zs n).length = n * 4
  | 0 => rfl
  | n + 1 => by rw [flatR_next, List.length_append, flatR_len zs n]; show n * 4 + 4 = _; omega
theorem flatR_get (zs : List Int) : ∀ n i j, i < n → j < 4 → (flatR zs n)[i * 4 + j]? = some (.int .i64 (gvR zs i j))
  | 0, i, j, hi, _ => by omega
  | n + 1, i, j, hi, hj => by
    rw [flatR_next]
    by_cases h : i < n
    · rw [List.getElem?_append_left (by rw [flatR_len]; omega)]
      exact flatR_get zs n i j h hj
    · obtain rfl : i = n := by omega
      rw [List.getElem?_append_right (by rw [flatR_len]; omega), flatR_len, Nat.add_sub_cancel_left]
      match j, hj with
      | 0, _ => rfl
      | 1, _ => rfl
      | 2, _ => rfl
      | 3, _ => rfl

/-- The first of n picks that stands below the one ahead of it; -1: none. -/
def badR (zs : List Int) : Nat → Int
  | 0 => -1
  | i + 1 => if 0 < i ∧ atS zs (i + 1) < atS zs i ∧ badR zs i < 0 then (i : Int) else badR zs i

theorem badR_none (zs : List Int) : ∀ n, badR zs n < 0 → ∀ i, i < n → ¬ (0 < i ∧ atS zs (i + 1) < atS zs i)
  | 0, _, i, hi => by omega
  | n + 1, h, i, hi => by
    rw [badR] at h
    split at h
    · omega
    · rename_i hc
      by_cases e : i = n
      · subst e
        intro hh
        exact hc ⟨hh.1, hh.2, h⟩
      · exact badR_none zs n h i (by omega)
theorem badR_some (zs : List Int) : ∀ n, 0 ≤ badR zs n → ∃ b : Nat, badR zs n = b ∧ b < n ∧ 0 < b ∧ atS zs (b + 1) < atS zs b ∧ ∀ i, i < b → ¬ (0 < i ∧ atS zs (i + 1) < atS zs i)
  | 0, h => by rw [badR] at h; omega
  | n + 1, h => by
    rw [badR] at h ⊢
    split
    · rename_i hc
      exact ⟨n, rfl, by omega, hc.1, hc.2.1, fun i hi => badR_none zs n hc.2.2 i hi⟩
    · rename_i hc
      rw [if_neg hc] at h
      obtain ⟨b, h1, h2, h3⟩ := badR_some zs n h
      exact ⟨b, h1, by omega, h3⟩
theorem badR_lo (zs : List Int) : ∀ n, -1 ≤ badR zs n
  | 0 => by rw [badR]; omega
  | n + 1 => by
    rw [badR]
    split
    · omega
    · exact badR_lo zs n

theorem code_R (zs : List Int) (i : Nat) (hi : i < 60) : codeAt (gvR zs) i = if 0 < i ∧ atS zs (i + 1) < atS zs i then 5 else 0 := by
  have h0 := atS_nonneg zs (i + 1)
  have h1 := atS_le zs (i + 1)
  have hm : i % 2 < 2 := Nat.mod_lt _ (by decide)
  have e : codeAt (gvR zs) i = pickC (atS zs (i + 1)) (1 + ((i % 2 : Nat) : Int)) 0 0 (aheadOf (gvR zs) i) := rfl
  have mA : mostA (1 + ((i % 2 : Nat) : Int)) = 0 := by unfold mostA; rw [if_neg (by omega)]
  have mB : mostB (1 + ((i % 2 : Nat) : Int)) = 0 := by unfold mostB; rw [if_neg (by omega)]
  rw [e, pickC, if_neg (by omega), mA, mB, if_neg (by push_cast at h1; omega)]
  cases i with
  | zero =>
    have h2 : ¬ atS zs 1 < 0 := by have : 0 ≤ atS zs 1 := h0; omega
    show (if atS zs 1 < 0 then 5 else 0) = _
    rw [if_neg h2, if_neg (fun h => absurd h.1 (Nat.lt_irrefl 0))]
  | succ k =>
    show (if atS zs (k + 1 + 1) < atS zs (k + 1) then 5 else 0) = _
    by_cases h : atS zs (k + 1 + 1) < atS zs (k + 1)
    · rw [if_pos h, if_pos ⟨by omega, h⟩]
    · rw [if_neg h, if_neg (fun hh => h hh.2)]

end Go.Proofs.YtpfpieakemnadaaDoor

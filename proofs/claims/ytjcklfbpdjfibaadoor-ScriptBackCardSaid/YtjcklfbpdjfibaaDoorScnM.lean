/-
  A script's bytes, whole or cut off: plain mathematics.
-/
import Derived.Test.YtjcklfbpdjfibaaDoorWrdA
import Derived.Test.YtjcklfbpdjfibaaDoorPik0
namespace Go.Proofs.YtjcklfbpdjfibaaDoor
open Go.RowKit

theorem enc_le : ∀ (f c : Nat), (encF f c).length ≤ f + 1
  | 0, c => by simp [encF]
  | f + 1, c => by
    rw [encF]
    split
    · simp
    · have := enc_le f (c / 128)
      simp; omega

theorem enc_high : ∀ (f c m : Nat), m < (encF f c).length → ∀ g ∈ (encF f c).take m, 128 ≤ g
  | 0, c, m, hm, g, hg => by
    have : m = 0 := by simp [encF] at hm; omega
    subst this
    simp at hg
  | f + 1, c, m, hm, g, hg => by
    rw [encF] at hm hg
    split at hm
    · rename_i hc
      rw [if_pos hc] at hg
      have : m = 0 := by simp at hm; omega
      subst this
      simp at hg
    · rename_i hc
      rw [if_neg hc] at hg
      cases m with
      | zero => simp at hg
      | succ m =>
        rw [List.take_succ_cons] at hg
        rcases List.mem_cons.1 hg with rfl | hg
        · omega
        · exact enc_high f (c / 128) m (by simpa using hm) g hg

theorem takeL_high : ∀ (l : List Nat) (k U : Nat), (∀ g ∈ l, 128 ≤ g) → takeL l k U = none
  | [], _, _, _ => rfl
  | g :: r, k, U, h => by
    rw [takeL]
    split
    · rfl
    · rw [if_neg (by have := h g (by simp); omega)]
      exact takeL_high r _ _ fun x hx => h x (by simp [hx])

/-- A number of bytes that are cut off at n: it is whole, or the bytes end within it. -/
theorem num_whole (pre post : List Nat) (u n : Nat) (hu : u < 18446744073709551616) (hn : pre.length + (encF 9 u).length ≤ n) :
    takeAt ((pre ++ (encF 9 u ++ post)).take n) (pre.length : Int) = some (u, (encF 9 u).length) := by
  have e : (pre ++ (encF 9 u ++ post)).take n = pre ++ (encF 9 u ++ post.take (n - pre.length - (encF 9 u).length)) := by
    rw [List.take_append, List.take_of_length_le (by omega), List.take_append, List.take_of_length_le (by omega)]
  rw [e]
  exact takeAt_mid _ _ u hu

structure CutAt (bs : List Nat) (p : Nat) : Prop where
  none : takeAt bs (p : Int) = Option.none
  high : ∀ g ∈ bs.drop p, 128 ≤ g
  few : bs.length - p < 10

theorem num_cut (pre post : List Nat) (u n : Nat) (hp : pre.length ≤ n) (hn : n < pre.length + (encF 9 u).length) : CutAt ((pre ++ (encF 9 u ++ post)).take n) pre.length := by
  have e : (pre ++ (encF 9 u ++ post)).take n = pre ++ (encF 9 u).take (n - pre.length) := by
    rw [List.take_append, List.take_of_length_le hp, List.take_append, show n - pre.length - (encF 9 u).length = 0 by omega, List.take_zero, List.append_nil]
  have hd : ((pre ++ (encF 9 u ++ post)).take n).drop pre.length = (encF 9 u).take (n - pre.length) := by rw [e]; simp
  have hh := enc_high 9 u (n - pre.length) (by omega)
  refine ⟨?_, ?_, ?_⟩
  · rw [takeAt, if_pos (by omega), Int.toNat_natCast, hd]
    exact takeL_high _ _ _ hh
  · rw [hd]; exact hh
  · have h9 := enc_le 9 u
    rw [List.length_take]
    omega

/-- The bytes of a pick, and of a list of picks. -/
def pickB (gv : Nat → Nat → Int) (k : Nat) : List Nat :=
  encF 9 (gv k 0 - aheadOf gv k).toNat ++ (encF 9 (gv k 1).toNat ++ ((if gv k 1 = 3 then encF 9 (gv k 2).toNat else []) ++ (if gv k 1 = 3 ∨ gv k 1 = 5 then encF 9 (gv k 3).toNat else [])))
def printL (gv : Nat → Nat → Int) : Nat → List Nat
  | 0 => []
  | k + 1 => printL gv k ++ pickB gv k

theorem pickB_pos (gv : Nat → Nat → Int) (k : Nat) : 0 < (pickB gv k).length := by
  have := enc_pos 9 (gv k 0 - aheadOf gv k).toNat
  unfold pickB
  rw [List.length_append]
  omega
theorem pickB_le (gv : Nat → Nat → Int) (k : Nat) : (pickB gv k).length ≤ 40 := by
  have h1 := enc_le 9 (gv k 0 - aheadOf gv k).toNat
  have h2 := enc_le 9 (gv k 1).toNat
  have h3 := enc_le 9 (gv k 2).toNat
  have h4 := enc_le 9 (gv k 3).toNat
  unfold pickB
  rw [List.length_append, List.length_append, List.length_append]
  split <;> split <;> (try simp only [List.length_nil]) <;> omega
theorem printL_le (gv : Nat → Nat → Int) : ∀ k, (printL gv k).length ≤ 40 * k
  | 0 => Nat.le_refl _
  | k + 1 => by
    have h1 := printL_le gv k
    have h2 := pickB_le gv k
    rw [printL, List.length_append]
    omega
theorem printL_mono (gv : Nat → Nat → Int) (i : Nat) : ∀ k, i < k → (printL gv i).length < (printL gv k).length
  | 0, h => by omega
  | k + 1, h => by
    have h1 := pickB_pos gv k
    rw [printL, List.length_append]
    by_cases e : i = k
    · subst e; omega
    · have := printL_mono gv i k (by omega)
      omega
/-- Behind the first k picks stand those that follow. -/
theorem printL_split (gv : Nat → Nat → Int) (k : Nat) : ∀ len, k < len → ∃ rest, printL gv len = printL gv k ++ (pickB gv k ++ rest)
  | 0, h => by omega
  | len + 1, h => by
    by_cases e : k = len
    · subst e; exact ⟨[], by rw [printL, List.append_nil]⟩
    · obtain ⟨rest, hr⟩ := printL_split gv k len (by omega)
      exact ⟨rest ++ pickB gv len, by rw [printL, hr]; simp⟩

/-- What is known of a fair pick's numbers. -/
theorem fair_nums {gv : Nat → Nat → Int} {len : Nat} (h : FairP gv len) {k : Nat} (hk : k < len) :
    aheadOf gv k ≤ gv k 0 ∧ gv k 0 ≤ 1048576 ∧ 0 ≤ aheadOf gv k ∧ 1 ≤ gv k 1 ∧ gv k 1 ≤ 5 ∧ 0 ≤ gv k 2 ∧ gv k 2 ≤ 11 ∧ (gv k 1 ≠ 3 → gv k 2 = 0) ∧ 0 ≤ gv k 3 ∧ gv k 3 ≤ 2047 ∧ (gv k 1 ≠ 3 → gv k 1 ≠ 5 → gv k 3 = 0) := by
  have h0 : 0 ≤ aheadOf gv k := by
    cases k with
    | zero => exact Int.le_refl _
    | succ k => exact (fairP_at h (show k < len by omega)).1
  have := h k hk
  unfold codeAt pickC at this
  split at this
  · cases this
  · split at this
    · cases this
    · split at this
      · cases this
      · have m1 : mostA (gv k 1) ≤ 11 ∧ (gv k 1 ≠ 3 → mostA (gv k 1) = 0) := by unfold mostA; split <;> omega
        have m2 : mostB (gv k 1) ≤ 2047 ∧ (gv k 1 ≠ 3 → gv k 1 ≠ 5 → mostB (gv k 1) = 0) := by unfold mostB; split <;> omega
        refine ⟨by omega, by omega, h0, by omega, by omega, by omega, by omega, fun e => by have := m1.2 e; omega, by omega, by omega, fun e f => by have := m2.2 e f; omega⟩

end Go.Proofs.YtjcklfbpdjfibaaDoor

/-
  Lists of picks as plain data: those of one safepoint, how far a script was asked (nothing of the program's).
-/
import Derived.Test.YtjcklfbpdjfibaaDoorScr2
namespace Go.Proofs.YtjcklfbpdjfibaaDoor
open Go.RowKit

def fourG (gv : Nat → Nat → Int) (i : Nat) : List Value := [.int .i64 (gv i 0), .int .i64 (gv i 1), .int .i64 (gv i 2), .int .i64 (gv i 3)]
theorem fourG_len (gv : Nat → Nat → Int) (i : Nat) : (fourG gv i).length = 4 := rfl
theorem fourG_get (gv : Nat → Nat → Int) (i j : Nat) (hj : j < 4) : (fourG gv i)[j]? = some (.int .i64 (gv i j)) := by
  match j, hj with
  | 0, _ => rfl
  | 1, _ => rfl
  | 2, _ => rfl
  | 3, _ => rfl
theorem fourG_one (gv : Nat → Nat → Int) (i : Nat) : ∀ u ∈ fourG gv i, u.oneCell' = true := by
  intro u hu
  simp [fourG] at hu
  rcases hu with rfl | rfl | rfl | rfl <;> rfl

def flatG (gv : Nat → Nat → Int) : Nat → List Value
  | 0 => []
  | n + 1 => flatG gv n ++ fourG gv n
theorem flatG_len (gv : Nat → Nat → Int) : ∀ n, (flatG gv n).length = n * 4
  | 0 => rfl
  | n + 1 => by rw [flatG, List.length_append, flatG_len gv n, fourG_len]; omega
theorem flatG_get (gv : Nat → Nat → Int) : ∀ n i j, i < n → j < 4 → (flatG gv n)[i * 4 + j]? = some (.int .i64 (gv i j))
  | 0, i, j, hi, _ => by omega
  | n + 1, i, j, hi, hj => by
    rw [flatG]
    by_cases h : i < n
    · rw [List.getElem?_append_left (by rw [flatG_len]; omega)]
      exact flatG_get gv n i j h hj
    · obtain rfl : i = n := by omega
      rw [List.getElem?_append_right (by rw [flatG_len]; omega), flatG_len, Nat.add_sub_cancel_left]
      exact fourG_get gv i j hj
theorem flatG_one (gv : Nat → Nat → Int) : ∀ n, ∀ u ∈ flatG gv n, u.oneCell' = true
  | 0, u, hu => by simp [flatG] at hu
  | n + 1, u, hu => by
    rw [flatG] at hu
    rcases List.mem_append.1 hu with h | h
    · exact flatG_one gv n u h
    · exact fourG_one gv n u h

/-- Those of the first n picks that stand at p: their values, and how many. -/
def eqs (gv : Nat → Nat → Int) (p : Int) : Nat → List Value
  | 0 => []
  | n + 1 => if gv n 0 = p then eqs gv p n ++ fourG gv n else eqs gv p n
def eqn (gv : Nat → Nat → Int) (p : Int) : Nat → Nat
  | 0 => 0
  | n + 1 => if gv n 0 = p then eqn gv p n + 1 else eqn gv p n
theorem eqs_len (gv : Nat → Nat → Int) (p : Int) : ∀ n, (eqs gv p n).length = eqn gv p n * 4
  | 0 => rfl
  | n + 1 => by
    rw [eqs, eqn]
    split
    · rw [List.length_append, eqs_len gv p n, fourG_len]; omega
    · exact eqs_len gv p n
theorem eqn_le (gv : Nat → Nat → Int) (p : Int) : ∀ n, eqn gv p n ≤ n
  | 0 => Nat.le_refl _
  | n + 1 => by
    have := eqn_le gv p n
    rw [eqn]
    split <;> omega
theorem eqs_none (gv : Nat → Nat → Int) (p : Int) : ∀ n, (∀ i, i < n → gv i 0 ≠ p) → eqs gv p n = [] ∧ eqn gv p n = 0
  | 0, _ => ⟨rfl, rfl⟩
  | n + 1, h => by
    rw [eqs, eqn, if_neg (h n (by omega)), if_neg (h n (by omega))]
    exact eqs_none gv p n fun i hi => h i (by omega)
theorem eqs_past (gv : Nat → Nat → Int) (p : Int) (a : Nat) : ∀ n, a ≤ n → (∀ i, a ≤ i → i < n → gv i 0 ≠ p) → eqs gv p n = eqs gv p a ∧ eqn gv p n = eqn gv p a
  | 0, h, _ => by obtain rfl : a = 0 := by omega
                  exact ⟨rfl, rfl⟩
  | n + 1, h, hh => by
    by_cases e : a = n + 1
    · subst e; exact ⟨rfl, rfl⟩
    · rw [eqs, eqn, if_neg (hh n (by omega) (by omega)), if_neg (hh n (by omega) (by omega))]
      exact eqs_past gv p a n (by omega) fun i hi hi2 => hh i hi (by omega)
theorem eqs_ints (gv : Nat → Nat → Int) (p : Int) : ∀ n, ∀ u ∈ eqs gv p n, ∃ z, u = .int .i64 z
  | 0, u, hu => by simp [eqs] at hu
  | n + 1, u, hu => by
    rw [eqs] at hu
    split at hu
    · rcases List.mem_append.1 hu with h | h
      · exact eqs_ints gv p n u h
      · simp [fourG] at h
        rcases h with rfl | rfl | rfl | rfl <;> exact ⟨_, rfl⟩
    · exact eqs_ints gv p n u hu

/-- A list of integers' values, as numbers. -/
def numOf (xs : List Value) (k : Nat) : Int := match xs[k]? with
  | some (.int .i64 z) => z
  | _ => 0
theorem numOf_eq {xs : List Value} (h : ∀ u ∈ xs, ∃ z, u = .int .i64 z) {k : Nat} (hk : k < xs.length) : xs[k]? = some (.int .i64 (numOf xs k)) := by
  obtain ⟨z, hz⟩ := h _ (List.getElem_mem hk)
  have e : xs[k]? = some (.int .i64 z) := by rw [List.getElem?_eq_getElem hk, hz]
  unfold numOf
  rw [e]

/-- Picks that may be: each of them may be. -/
def FairP (gv : Nat → Nat → Int) (len : Nat) : Prop := ∀ i, i < len → codeAt gv i = 0
theorem fairP_at {gv : Nat → Nat → Int} {len : Nat} (h : FairP gv len) {i : Nat} (hi : i < len) : 0 ≤ gv i 0 ∧ gv i 0 ≤ 1048576 ∧ aheadOf gv i ≤ gv i 0 := by
  have := h i hi
  unfold codeAt pickC at this
  split at this
  · cases this
  · split at this
    · cases this
    · split at this
      · cases this
      · omega
theorem fairP_rise {gv : Nat → Nat → Int} {len : Nat} (h : FairP gv len) (i : Nat) : ∀ j, i ≤ j → j < len → gv i 0 ≤ gv j 0
  | 0, hij, _ => by obtain rfl : i = 0 := by omega
                    exact Int.le_refl _
  | j + 1, hij, hj => by
    by_cases e : i = j + 1
    · subst e; exact Int.le_refl _
    · have h1 := fairP_rise h i j (by omega) (by omega)
      have h2 : gv j 0 ≤ gv (j + 1) 0 := (fairP_at h hj).2.2
      omega

theorem first_bad (gv : Nat → Nat → Int) : ∀ len, ∃ n, n ≤ len ∧ (∀ i, i < n → codeAt gv i = 0) ∧ (n < len → codeAt gv n ≠ 0)
  | 0 => ⟨0, Nat.le_refl _, fun i hi => by omega, fun h => by omega⟩
  | len + 1 => by
    obtain ⟨n, h1, h2, h3⟩ := first_bad gv len
    by_cases e : n < len
    · exact ⟨n, by omega, h2, fun _ => h3 e⟩
    · obtain rfl : n = len := by omega
      by_cases hc : codeAt gv n = 0
      · exact ⟨n + 1, Nat.le_refl _, fun i hi => by
          by_cases hi2 : i = n
          · subst hi2; exact hc
          · exact h2 i (by omega), fun h => by omega⟩
      · exact ⟨n, by omega, h2, fun _ => hc⟩

/-- How far a script is that was asked for a safepoint: the picks below pos stand at it or ahead of it, the others behind it. -/
structure Cut (gv : Nat → Nat → Int) (len : Nat) (last : Int) (pos : Nat) : Prop where
  le : pos ≤ len
  lo : ∀ i, i < pos → gv i 0 ≤ last
  hi : ∀ i, pos ≤ i → i < len → last < gv i 0

theorem cut_start {gv : Nat → Nat → Int} {len : Nat} (h : FairP gv len) : Cut gv len (-1) 0 :=
  ⟨Nat.zero_le _, fun i hi => by omega, fun i _ hi => by have := (fairP_at h hi).1; omega⟩
/-- Where the walk through what is left stands still. -/
theorem cut_stop {gv : Nat → Nat → Int} {len pos : Nat} {p : Int} (h : FairP gv len) (hle : pos ≤ len) (hlo : ∀ i, i < pos → gv i 0 ≤ p) (hs : pos < len → p < gv pos 0) : Cut gv len p pos :=
  ⟨hle, hlo, fun i hi hl => by
    have h1 := hs (by omega)
    have h2 := fairP_rise h pos i hi hl
    omega⟩
theorem eqs_cut {gv : Nat → Nat → Int} {len pos : Nat} {last p : Int} (h : Cut gv len last pos) (hp : last < p) : eqs gv p pos = [] ∧ eqn gv p pos = 0 :=
  eqs_none gv p pos fun i hi => by have := h.lo i hi; omega
theorem eqs_all {gv : Nat → Nat → Int} {len pos : Nat} {p : Int} (h : Cut gv len p pos) : eqs gv p len = eqs gv p pos ∧ eqn gv p len = eqn gv p pos :=
  eqs_past gv p pos len h.le fun i hi hl => by have := h.hi i hi hl; omega

/-- How many of the first k picks are left behind pos. -/
def leftOf (pos k : Nat) : Nat := k - pos
theorem left_next {gv : Nat → Nat → Int} {len pos k : Nat} {last : Int} (h : Cut gv len last pos) (hk : k < len) : (last < gv k 0 → leftOf pos (k + 1) = leftOf pos k + 1) ∧ (¬ last < gv k 0 → leftOf pos (k + 1) = leftOf pos k) := by
  unfold leftOf
  refine ⟨fun hc => ?_, fun hc => ?_⟩
  · have : ¬ k < pos := fun hkp => by have := h.lo k hkp; omega
    omega
  · have : k < pos := by
      rcases Nat.lt_or_ge k pos with h1 | h1
      · exact h1
      · exact absurd (h.hi k h1 hk) hc
    omega

end Go.Proofs.YtjcklfbpdjfibaaDoor

/-
  Sets of numbers as words: what a word's bits are, and what Go's steps on words do to them (nothing of the program's).
-/
import Derived.Lib.TrailingZeros
import Derived.Lib.Hide
namespace Go.Proofs.YtpfpieakemnadaaDoor
open Go

/-- Is number i in? -/
def bitAt (ws : List Nat) (i : Nat) : Bool := (ws.getD (i / 64) 0).testBit (i % 64)

/-- The numbers of the bits of a word, rising. -/
def bitsOf (x : Nat) : List Nat := (List.range 64).filter x.testBit

theorem getD_set_same {ws : List Nat} {k : Nat} (x : Nat) (h : k < ws.length) : (ws.set k x).getD k 0 = x := by simp [List.getD, h]
theorem getD_set_other {ws : List Nat} {k j : Nat} (x : Nat) (h : j ≠ k) : (ws.set k x).getD j 0 = ws.getD j 0 := by
  simp [List.getD, List.getElem?_set, Ne.symm h]

theorem bitAt_add (ws : List Nat) (i j : Nat) (h : i / 64 < ws.length) : bitAt (ws.set (i / 64) (ws.getD (i / 64) 0 ||| 2 ^ (i % 64))) j = (decide (j = i) || bitAt ws j) := by
  unfold bitAt
  by_cases hk : j / 64 = i / 64
  · rw [hk, getD_set_same _ h, Nat.testBit_or, Nat.testBit_two_pow, Bool.or_comm]
    congr 1
    by_cases e : i % 64 = j % 64
    · have : j = i := by omega
      simp [this]
    · have : ¬ j = i := by omega
      simp [this, e]
  · rw [getD_set_other _ hk]
    have : ¬ j = i := by omega
    simp [this]

theorem bitAt_drop (ws : List Nat) (i j y : Nat) (h : i / 64 < ws.length) (hy : ∀ b, b < 64 → y.testBit b = ((ws.getD (i / 64) 0).testBit b && !decide (b = i % 64))) :
    bitAt (ws.set (i / 64) y) j = (bitAt ws j && !decide (j = i)) := by
  unfold bitAt
  by_cases hk : j / 64 = i / 64
  · rw [hk, getD_set_same _ h, hy _ (Nat.mod_lt _ (by omega))]
    congr 2
    by_cases e : j % 64 = i % 64
    · have : j = i := by omega
      simp [this]
    · have : ¬ j = i := by omega
      simp [this, e]
  · rw [getD_set_other _ hk]
    have : ¬ j = i := by omega
    simp [this]

theorem bitAt_zero (m i : Nat) : bitAt (List.replicate m 0) i = false := by
  unfold bitAt
  have : (List.replicate m 0).getD (i / 64) 0 = 0 := by
    simp only [List.getD, List.getElem?_replicate]
    split <;> rfl
  rw [this, Nat.zero_testBit]

/-- Words by their bits. -/
theorem word_ext {x y : Nat} (hx : x < 2 ^ 64) (hy : y < 2 ^ 64) (h : ∀ b, b < 64 → x.testBit b = y.testBit b) : x = y := by
  apply Nat.eq_of_testBit_eq
  intro b
  by_cases hb : b < 64
  · exact h b hb
  · rw [Nat.testBit_lt_two_pow (Nat.lt_of_lt_of_le hx (Nat.pow_le_pow_right (by decide) (by omega))), Nat.testBit_lt_two_pow (Nat.lt_of_lt_of_le hy (Nat.pow_le_pow_right (by decide) (by omega)))]

theorem getD_lt {ws : List Nat} (h : ∀ x ∈ ws, x < 2 ^ 64) (k : Nat) : ws.getD k 0 < 2 ^ 64 := by
  by_cases hk : k < ws.length
  · have : ws.getD k 0 = ws[k] := by simp [List.getD, hk]
    rw [this]
    exact h _ (List.getElem_mem hk)
  · have : ws.getD k 0 = 0 := by simp [List.getD, List.getElem?_eq_none (Nat.le_of_not_lt hk)]
    rw [this]
    decide

/-- Rows of words by their bits. -/
theorem word_of_bits {ws vs : List Nat} (h1 : ∀ x ∈ ws, x < 2 ^ 64) (h2 : ∀ x ∈ vs, x < 2 ^ 64) (h : ∀ j, bitAt ws j = bitAt vs j) (k : Nat) : ws.getD k 0 = vs.getD k 0 := by
  refine word_ext (getD_lt h1 k) (getD_lt h2 k) fun b hb => ?_
  have := h (64 * k + b)
  unfold bitAt at this
  rw [show (64 * k + b) / 64 = k by omega, show (64 * k + b) % 64 = b by omega] at this
  exact this

/-! ### the lowest bit taken away -/

theorem low_spec (x : Nat) (h0 : 0 < x) (h : x < 2 ^ 64) : ∃ m, x = 2 ^ Lib.ctz 64 x * (2 * m + 1) ∧ Lib.ctz 64 x < 64 := by
  unfold Lib.ctz
  rw [if_neg (by omega)]
  exact Lib.ctzFrom_spec 64 x h0 h

theorem odd_testBit (c m j : Nat) : (2 ^ c * (2 * m + 1)).testBit j = (decide (j = c) || (decide (c < j) && m.testBit (j - c - 1))) := by
  rw [Nat.mul_comm, Nat.testBit_mul_two_pow]
  by_cases h : c ≤ j
  · by_cases e : j = c
    · subst e; simp
    · obtain ⟨d, rfl⟩ : ∃ d, j = c + (d + 1) := ⟨j - c - 1, by omega⟩
      have e1 : c + (d + 1) - c = d + 1 := by omega
      have e2 : c + (d + 1) - c - 1 = d := by omega
      rw [e1, Nat.testBit_succ, show (2 * m + 1) / 2 = m by omega]
      simp
  · have e : ¬ j = c := by omega
    have e2 : ¬ c < j := by omega
    simp [h, e, e2]

/-- x & (x - 1): all the bits but the lowest. -/
theorem clear_low (x : Nat) (h0 : 0 < x) (h : x < 2 ^ 64) (j : Nat) : (x &&& (x - 1)).testBit j = (x.testBit j && !decide (j = Lib.ctz 64 x)) := by
  obtain ⟨m, hm, hc⟩ := low_spec x h0 h
  generalize Lib.ctz 64 x = c at hm hc
  have e1 : x - 1 = 2 ^ c * (2 * m) + (2 ^ c - 1) := by
    have : 0 < 2 ^ c := Nat.two_pow_pos c
    rw [hm, Nat.mul_add]
    omega
  rw [Nat.testBit_and, e1, Nat.testBit_two_pow_mul_add _ (by have : 0 < 2 ^ c := Nat.two_pow_pos c; omega)]
  rw [hm, odd_testBit]
  by_cases hj : j < c
  · have e : ¬ j = c := by omega
    have e2 : ¬ c < j := by omega
    simp [hj, e, e2]
  · by_cases e : j = c
    · subst e; simp
    · obtain ⟨d, rfl⟩ : ∃ d, j = c + (d + 1) := ⟨j - c - 1, by omega⟩
      have e3 : c + (d + 1) - c = d + 1 := by omega
      have e4 : c + (d + 1) - c - 1 = d := by omega
      rw [if_neg hj, e3, Nat.testBit_succ, show (2 * m) / 2 = m by omega]
      simp

theorem clear_lt (x : Nat) (h0 : 0 < x) : x &&& (x - 1) < x := Nat.lt_of_le_of_lt Nat.and_le_right (by omega)

theorem low_bit (x : Nat) (h0 : 0 < x) (h : x < 2 ^ 64) (j : Nat) (hj : j ≤ Lib.ctz 64 x) : x.testBit j = decide (j = Lib.ctz 64 x) := by
  obtain ⟨m, hm, hc⟩ := low_spec x h0 h
  generalize Lib.ctz 64 x = c at hm hc hj
  rw [hm, odd_testBit]
  have : ¬ c < j := by omega
  simp [this]

theorem range_split (c : Nat) (h : c < 64) : List.range 64 = List.range c ++ c :: List.range' (c + 1) (63 - c) := by
  have e : List.range 64 = List.range' 0 64 := List.range_eq_range'
  have e2 : List.range c = List.range' 0 c := List.range_eq_range'
  rw [e, e2, show 64 = c + (1 + (63 - c)) by omega, ← List.range'_append_1, ← List.range'_append_1]
  simp

theorem bitsOf_zero : bitsOf 0 = [] := by decide

theorem bitsOf_step (x : Nat) (h0 : 0 < x) (h : x < 2 ^ 64) : bitsOf x = Lib.ctz 64 x :: bitsOf (x &&& (x - 1)) := by
  obtain ⟨_, _, hc⟩ := low_spec x h0 h
  have hl := low_bit x h0 h
  have hcl := clear_low x h0 h
  generalize Lib.ctz 64 x = c at hc hl hcl
  unfold bitsOf
  rw [range_split c hc, List.filter_append, List.filter_append]
  have a1 : (List.range c).filter x.testBit = [] := by
    rw [List.filter_eq_nil_iff]
    intro j hj
    have : j < c := List.mem_range.1 hj
    rw [hl j (by omega)]
    simp; omega
  have a2 : (List.range c).filter (x &&& (x - 1)).testBit = [] := by
    rw [List.filter_eq_nil_iff]
    intro j hj
    have : j < c := List.mem_range.1 hj
    rw [hcl j, hl j (by omega)]
    simp
  rw [a1, a2, List.nil_append, List.nil_append, List.filter_cons, List.filter_cons, hl c (Nat.le_refl _), hcl c]
  simp only [decide_true, Bool.not_true, Bool.and_false, if_true, Bool.false_eq_true, if_false]
  congr 1
  apply List.filter_congr
  intro j hj
  have : c < j := by have := (List.mem_range'_1.1 hj).1; omega
  rw [hcl j]
  have : ¬ j = c := by omega
  simp [this]

/-! ### what a row of words tells -/

/-- From word k on, what is in, rising. -/
def tellFrom (ws : List Nat) (k : Nat) : List Nat := (List.range' k (ws.length - k)).flatMap fun q => (bitsOf (ws.getD q 0)).map (64 * q + ·)

theorem tellFrom_step (ws : List Nat) (k : Nat) (h : k < ws.length) : tellFrom ws k = (bitsOf (ws.getD k 0)).map (64 * k + ·) ++ tellFrom ws (k + 1) := by
  unfold tellFrom
  rw [show ws.length - k = (ws.length - (k + 1)) + 1 by omega, List.range'_succ]
  simp
theorem tellFrom_end (ws : List Nat) (k : Nat) (h : ws.length ≤ k) : tellFrom ws k = [] := by
  unfold tellFrom
  rw [show ws.length - k = 0 by omega]
  rfl

theorem range'_map_add (a b m : Nat) : (List.range' b m).map (a + ·) = List.range' (a + b) m := by
  apply List.ext_getElem
  · simp
  · intro i h1 h2
    simp
    omega

theorem filter_word (ws : List Nat) (k : Nat) : (bitsOf (ws.getD k 0)).map (64 * k + ·) = (List.range' (64 * k) 64).filter (bitAt ws) := by
  unfold bitsOf
  have e : List.range' (64 * k) 64 = (List.range 64).map (64 * k + ·) := by
    rw [List.range_eq_range', range'_map_add]
    rfl
  rw [e, List.filter_map]
  congr 1
  apply List.filter_congr
  intro j hj
  have : j < 64 := List.mem_range.1 hj
  show _ = bitAt ws (64 * k + j)
  unfold bitAt
  rw [show (64 * k + j) / 64 = k by omega, show (64 * k + j) % 64 = j by omega]

theorem tellFrom_eq (ws : List Nat) : ∀ d k, k + d = ws.length → tellFrom ws k = (List.range' (64 * k) (64 * d)).filter (bitAt ws)
  | 0, k, h => by rw [tellFrom_end ws k (by omega)]; rfl
  | d + 1, k, h => by
    rw [tellFrom_step ws k (by omega), tellFrom_eq ws d (k + 1) (by omega), filter_word, ← List.filter_append]
    congr 1

/-- All that is in, rising: the numbers below n whose bit is set. -/
theorem tell_eq (ws : List Nat) (n : Nat) (hl : ws.length = (n + 63) / 64) (ht : ∀ i, n ≤ i → bitAt ws i = false) : tellFrom ws 0 = (List.range n).filter (bitAt ws) := by
  rw [tellFrom_eq ws ws.length 0 (by omega)]
  have e : 64 * ws.length = n + (64 * ws.length - n) := by omega
  rw [e, ← List.range'_append_1, List.filter_append, List.range_eq_range', Nat.mul_zero]
  rw [show (List.range' (0 + n) (64 * ws.length - n)).filter (bitAt ws) = [] from List.filter_eq_nil_iff.2 fun j hj => by
    have := (List.mem_range'_1.1 hj).1
    rw [ht j (by omega)]
    simp]
  simp

end Go.Proofs.YtpfpieakemnadaaDoor

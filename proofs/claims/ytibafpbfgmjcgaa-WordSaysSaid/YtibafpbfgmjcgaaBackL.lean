/-
  Numbers put and taken: what Take takes is as Put makes it, and what Put makes is taken: plain mathematics.
-/
import Derived.Test.YtibafpbfgmjcgaaBv
import Derived.Test.YtibafpbfgmjcgaaTakeL
namespace Go.Proofs.Ytibafpbfgmjcgaa
open Go.RowKit

theorem zag_zig (n : Int) : zag (zig n) = n := by
  unfold zag zig
  by_cases h : 0 ≤ n
  · rw [if_pos h, if_pos (by omega)]; omega
  · rw [if_neg h, if_neg (by omega)]; omega

theorem zig_zag (u : Int) (h : 0 ≤ u) : zig (zag u) = u := by
  unfold zag zig
  by_cases h2 : u % 2 = 0
  · rw [if_pos h2, if_pos (by omega)]; omega
  · rw [if_neg h2, if_neg (by omega)]; omega

theorem zag_range (u : Int) (h0 : 0 ≤ u) (h1 : u < 18446744073709551616) : -9223372036854775808 ≤ zag u ∧ zag u ≤ 9223372036854775807 := by
  unfold zag; split <;> omega

theorem zig_range (n : Int) (h0 : -9223372036854775808 ≤ n) (h1 : n ≤ 9223372036854775807) : 0 ≤ zig n ∧ zig n < 18446744073709551616 := by
  unfold zig; split <;> omega

theorem pow_small9 (c : Nat) (h : c < 2 ^ (64 - 7 * 9)) : c < 2 := by simpa using h

/-- What is put is taken. -/
theorem take_enc (rest : List Nat) : ∀ (f k c U : Nat), f + k = 9 → c < 2 ^ (64 - 7 * k) → (0 < k → 0 < c) → takeL (encF f c ++ rest) k U = some (U + c * 128 ^ k, k + (encF f c).length) := by
  intro f
  induction f with
  | zero =>
    intro k c U hk hc hp
    obtain rfl : k = 9 := by omega
    have h2 := pow_small9 c hc
    rw [encF, List.singleton_append, takeL_good c rest 9 U (by omega) (by omega) (by omega)]
    rfl
  | succ f ih =>
    intro k c U hk hc hp
    by_cases h : c < 128
    · rw [encF, if_pos h, List.singleton_append, takeL_good c rest k U (by omega) h (by omega)]
      rfl
    · have hs := put_step k c (by omega) hc (by omega)
      rw [encF, if_neg h, List.cons_append, takeL_more _ _ k U (by omega) (by omega), ih (k + 1) (c / 128) _ (by omega) hs.2 (by omega)]
      have e1 : (c % 128 + 128) % 128 = c % 128 := by omega
      have e2 : c = c % 128 + 128 * (c / 128) := by omega
      congr 2
      · rw [e1, Nat.pow_succ]
        have : c / 128 * (128 ^ k * 128) = 128 * (c / 128) * 128 ^ k := by rw [Nat.mul_comm (128 ^ k), ← Nat.mul_assoc, Nat.mul_comm (c / 128)]
        rw [this, Nat.add_assoc, ← Nat.add_mul, ← e2]
      · simp only [List.length_cons]; omega

theorem takeAt_put (bs : List Nat) (u : Nat) (hu : u < 18446744073709551616) : takeAt (bs ++ encF 9 u) (bs.length : Int) = some (u, (encF 9 u).length) := by
  rw [takeAt, if_pos (by omega)]
  have e : (bs ++ encF 9 u).drop (bs.length : Int).toNat = encF 9 u ++ [] := by simp
  rw [e, take_enc [] 9 0 u 0 (by omega) (by simpa using hu) (by omega)]
  simp

theorem enc_pos (f c : Nat) : 0 < (encF f c).length := by
  cases f with
  | zero => simp [encF]
  | succ f => rw [encF]; split <;> simp

/-- What is taken is as it is put. -/
theorem enc_take : ∀ (l : List Nat) (k U x n : Nat), (∀ g ∈ l, g < 256) → takeL l k U = some (x, n) → ∃ c, x = U + c * 128 ^ k ∧ c < 2 ^ (64 - 7 * k) ∧ (0 < k → 0 < c) ∧ k < n ∧ k ≤ 9 ∧ n ≤ k + l.length ∧ encF (9 - k) c = l.take (n - k) := by
  intro l
  induction l with
  | nil => intro k U x n _ h; cases h
  | cons g r ih =>
    intro k U x n hl h
    by_cases hk : 10 ≤ k
    · rw [takeL_end _ _ _ hk] at h; cases h
    · by_cases hg : g < 128
      · by_cases hb : (g = 0 ∧ 0 < k) ∨ (k = 9 ∧ 1 < g)
        · rw [takeL_bad g r k U (by omega) hg hb] at h; cases h
        · rw [takeL_good g r k U (by omega) hg hb] at h
          simp only [Option.some.injEq, Prod.mk.injEq] at h
          obtain ⟨rfl, rfl⟩ := h
          refine ⟨g, rfl, ?_, by omega, by omega, by omega, by simp only [List.length_cons]; omega, ?_⟩
          · rcases pow_le9 k (by omega) with rfl | rfl | rfl | rfl | rfl | rfl | rfl | rfl | rfl | rfl <;> simp <;> omega
          · rw [enc_end (9 - k) g (by omega), show k + 1 - k = 1 by omega]; rfl
      · rw [takeL_more g r k U (by omega) (by omega)] at h
        obtain ⟨c, hx, hc, hp, hn, hk9, hlen, he⟩ := ih (k + 1) _ x n (fun y hy => hl y (List.mem_cons_of_mem _ hy)) h
        have hg256 := hl g List.mem_cons_self
        have hc0 := hp (by omega)
        refine ⟨g % 128 + 128 * c, ?_, ?_, by omega, by omega, by omega, by simp only [List.length_cons]; omega, ?_⟩
        · rw [hx, Nat.pow_succ, Nat.add_mul]
          have : c * (128 ^ k * 128) = 128 * c * 128 ^ k := by rw [Nat.mul_comm (128 ^ k), ← Nat.mul_assoc, Nat.mul_comm c]
          omega
        · rcases pow_le9 (k + 1) hk9 with e | e | e | e | e | e | e | e | e | e <;> first | omega | (obtain rfl : k = _ := Nat.succ.inj e; simp at hc ⊢; omega)
        · rw [show 9 - k = (9 - (k + 1)) + 1 by omega, encF, if_neg (by omega), show n - k = (n - (k + 1)) + 1 by omega, List.take_succ_cons]
          have e1 : (g % 128 + 128 * c) % 128 + 128 = g := by omega
          have e2 : (g % 128 + 128 * c) / 128 = c := by omega
          rw [e1, e2, he]

theorem takeAt_back (bs : List Nat) (i : Int) (x n : Nat) (hb : ∀ g ∈ bs, g < 256) (h : takeAt bs i = some (x, n)) :
    0 ≤ i ∧ 0 < n ∧ i.toNat + n ≤ bs.length ∧ x < 18446744073709551616 ∧ encF 9 x = (bs.drop i.toNat).take n := by
  unfold takeAt at h
  split at h
  · rename_i hi
    obtain ⟨c, hx, hc, _, hn, _, hlen, he⟩ := enc_take _ 0 0 x n (fun g hg => hb g (List.mem_of_mem_drop hg)) h
    have hxc : x = c := by simpa using hx
    subst hxc
    rw [List.length_drop] at hlen
    refine ⟨hi, hn, by omega, by simpa using hc, by simpa using he⟩
  · cases h
end Go.Proofs.Ytibafpbfgmjcgaa

/-
  The number that stands at a place of a list of bytes, as word.Take reads it: plain mathematics.
-/
import Derived.Test.YtjcklfbpdjfibaaDoorPutS
import Derived.Laws.BitsAllLaws
namespace Go.Proofs.YtjcklfbpdjfibaaDoor
open Go.RowKit

/-- The number that goes on with these groups, k groups and U being known: the number, and how many groups it has. -/
def takeL : List Nat → Nat → Nat → Option (Nat × Nat)
  | [], _, _ => none
  | g :: r, k, U =>
    if 10 ≤ k then none
    else if g < 128 then (if (g = 0 ∧ 0 < k) ∨ (k = 9 ∧ 1 < g) then none else some (U + g * 128 ^ k, k + 1))
    else takeL r (k + 1) (U + g % 128 * 128 ^ k)

theorem takeL_end (l : List Nat) (k U : Nat) (h : 10 ≤ k) : takeL l k U = none := by
  cases l with
  | nil => rfl
  | cons g r => rw [takeL, if_pos h]

theorem pow128 (k : Nat) : (2 : Nat) ^ (7 * k) = 128 ^ k := by rw [Nat.pow_mul]

theorem pow128_le (k : Nat) (hk : k ≤ 9) : 128 ^ k ≤ 9223372036854775808 := by
  have h : 128 ^ k ≤ 128 ^ 9 := Nat.pow_le_pow_right (by omega) hk
  have e : (128 : Nat) ^ 9 = 9223372036854775808 := by decide +kernel
  omega

theorem pow128_le8 (k : Nat) (hk : k < 9) : 128 ^ k ≤ 72057594037927936 := by
  have h : 128 ^ k ≤ 128 ^ 8 := Nat.pow_le_pow_right (by omega) (by omega)
  have e : (128 : Nat) ^ 8 = 72057594037927936 := by decide +kernel
  omega

theorem and127 (g : Nat) (hg : g < 256) : bits BinOp.and IntKind.u8 (g : Int) 127 = ((g % 128 : Nat) : Int) := by
  rw [show (127 : Int) = ((127 : Nat) : Int) from rfl, u8_and_nat g 127 hg (by omega)]
  have h : (127 : Nat) = 2 ^ 7 - 1 := by decide
  rw [h, Nat.and_two_pow_sub_one_eq_mod]

theorem or_term (U k g : Nat) (hk : k ≤ 9) (hU : U < 128 ^ k) (hg : g < 256) :
    ∃ V : Nat, bits BinOp.or IntKind.u64 (U : Int) (IntKind.u64.wrap (IntKind.u64.wrap (bits BinOp.and IntKind.u8 (g : Int) 127) * 2 ^ (7 * k))) = (V : Int) ∧ (k < 9 ∨ g % 128 ≤ 1 → V = U + g % 128 * 128 ^ k) := by
  have hp := pow128_le k hk
  have e1 : IntKind.u64.wrap (((g % 128 : Nat) : Int)) = ((g % 128 : Nat) : Int) := by rw [IntKind.wrap_u64]; omega
  have e2 : ((g % 128 : Nat) : Int) * 2 ^ (7 * k) = ((g % 128 * 128 ^ k : Nat) : Int) := by
    rw [← pow128]; simp
  rw [and127 g hg, e1, e2, IntKind.wrap_u64]
  have e3 : ((g % 128 * 128 ^ k : Nat) : Int) % 18446744073709551616 = ((g % 128 * 128 ^ k % 18446744073709551616 : Nat) : Int) := by omega
  rw [e3, u64_or_nat _ _ (by omega) (Nat.mod_lt _ (by omega))]
  refine ⟨_, rfl, fun h => ?_⟩
  have hfit : g % 128 * 128 ^ k < 18446744073709551616 := by
    rcases h with h | h
    · have h8 := pow128_le8 k h
      have : g % 128 * 128 ^ k ≤ 127 * 128 ^ k := Nat.mul_le_mul_right _ (by omega)
      omega
    · have : g % 128 * 128 ^ k ≤ 1 * 128 ^ k := Nat.mul_le_mul_right _ h
      omega
  rw [Nat.mod_eq_of_lt hfit]
  rw [← pow128] at hU ⊢
  rw [Nat.or_comm, Nat.mul_comm, ← Nat.two_pow_add_eq_or_of_lt hU]
  omega

theorem takeL_more (g : Nat) (r : List Nat) (k U : Nat) (hk : k < 10) (h : 128 ≤ g) : takeL (g :: r) k U = takeL r (k + 1) (U + g % 128 * 128 ^ k) := by
  rw [takeL, if_neg (by omega), if_neg (by omega)]

theorem takeL_bad (g : Nat) (r : List Nat) (k U : Nat) (hk : k < 10) (h : g < 128) (hb : (g = 0 ∧ 0 < k) ∨ (k = 9 ∧ 1 < g)) : takeL (g :: r) k U = none := by
  rw [takeL, if_neg (by omega), if_pos h, if_pos hb]

theorem takeL_good (g : Nat) (r : List Nat) (k U : Nat) (hk : k < 10) (h : g < 128) (hb : ¬ ((g = 0 ∧ 0 < k) ∨ (k = 9 ∧ 1 < g))) : takeL (g :: r) k U = some (U + g * 128 ^ k, k + 1) := by
  rw [takeL, if_neg (by omega), if_pos h, if_neg hb]

/-- The round's step: what is known behind a group that goes on. -/
theorem take_next (U k g : Nat) (hU : U < 128 ^ k) : U + g % 128 * 128 ^ k < 128 ^ (k + 1) := by
  rw [Nat.pow_succ, Nat.mul_comm (128 ^ k) 128]
  have : g % 128 * 128 ^ k ≤ 127 * 128 ^ k := Nat.mul_le_mul_right _ (by omega)
  omega

/-- What Take answers at a place of these bytes. -/
def takeAt (bs : List Nat) (i : Int) : Option (Nat × Nat) := if 0 ≤ i then takeL (bs.drop i.toNat) 0 0 else none

theorem drop_get (bs : List Nat) (i : Nat) (h : i < bs.length) : bs.drop i = bs.getD i 0 :: bs.drop (i + 1) := by
  rw [List.drop_eq_getElem_cons h]
  simp [List.getD, List.getElem?_eq_getElem h]
end Go.Proofs.YtjcklfbpdjfibaaDoor

/-
  The law on counts: its beginning, up to the text of so many letters.
-/
import Derived.Test.YtjcklfbpdjfibaaDoorPOne0
import Derived.IntWalk
namespace Go.Proofs.YtjcklfbpdjfibaaDoor
open Go.RowKit

theorem low3C (a : Int) : bits BinOp.and IntKind.i64 a 7 = a % 8 := by
  have key : (BitVec.ofInt 64 a &&& BitVec.ofInt 64 7).toNat = (a % ((2 ^ 64 : Nat) : Int)).toNat % 2 ^ 3 := by
    have hm : BitVec.ofInt 64 7 = BitVec.ofNat 64 (2 ^ 3 - 1) := by decide
    rw [BitVec.toNat_and, hm, BitVec.toNat_ofNat, BitVec.toNat_ofInt, Nat.mod_eq_of_lt (by omega), Nat.and_two_pow_sub_one_eq_mod]
  show IntKind.i64.wrap ((BitVec.ofInt 64 a &&& BitVec.ofInt 64 7).toNat : Nat) = _
  rw [key, IntKind.wrap_i64]
  have e64 : (2 : Nat) ^ 64 = 18446744073709551616 := by decide
  have e10 : (2 : Nat) ^ 3 = 8 := by decide
  rw [e64, e10]
  omega

/-- A text of k letters I. -/
def eyes (k : Nat) : ByteArray := ⟨Array.replicate k 73⟩
theorem eyes_size (k : Nat) : (eyes k).size = k := by simp [eyes, ByteArray.size]
theorem eyes_zero : (⟨#[]⟩ : ByteArray) = eyes 0 := rfl
theorem eyes_next (k : Nat) : eyes k ++ ⟨#[73]⟩ = eyes (k + 1) := by
  have h : (eyes k ++ ⟨#[73]⟩).data = (eyes k).data ++ #[73] := ByteArray.data_append
  apply ByteArray.ext
  rw [h]
  simp [eyes, Array.replicate_succ]
theorem eyes_fair (k : Nat) : Fair (eyes k) := fun i h => by
  left
  have : (eyes k)[i] = 73 := by
    have h2 : i < (Array.replicate k (73 : UInt8)).size := h
    show (Array.replicate k (73 : UInt8))[i]'h2 = 73
    exact Array.getElem_replicate h2
  rw [this]
  rfl

theorem eyes_extract (k i j : Nat) (hj : j ≤ k) : (eyes k).extract i j = eyes (j - i) := by
  apply ByteArray.ext
  rw [ByteArray.data_extract]
  show (Array.replicate k (73 : UInt8)).extract i j = Array.replicate (j - i) 73
  rw [Array.extract_replicate]
  congr 1
  omega

end Go.Proofs.YtjcklfbpdjfibaaDoor

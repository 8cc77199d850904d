/-
  Package script: one bit of a number of options.
-/
import Derived.Test.YtjcklfbpdjfibaaDoorScrU
namespace Go.Proofs.YtjcklfbpdjfibaaDoor
open Go.RowKit

def bitN (n i : Nat) : Bool := decide (n / 2 ^ i % 2 = 1)

theorem low1U (a : Int) : bits BinOp.and IntKind.i64 a 1 = a % 2 := by
  have key : (BitVec.ofInt 64 a &&& BitVec.ofInt 64 1).toNat = (a % ((2 ^ 64 : Nat) : Int)).toNat % 2 ^ 1 := by
    have hm : BitVec.ofInt 64 1 = BitVec.ofNat 64 (2 ^ 1 - 1) := by decide
    rw [BitVec.toNat_and, hm, BitVec.toNat_ofNat, BitVec.toNat_ofInt, Nat.mod_eq_of_lt (by omega), Nat.and_two_pow_sub_one_eq_mod]
  show IntKind.i64.wrap ((BitVec.ofInt 64 a &&& BitVec.ofInt 64 1).toNat : Nat) = _
  rw [key, IntKind.wrap_i64]
  have e64 : (2 : Nat) ^ 64 = 18446744073709551616 := by decide
  have e10 : (2 : Nat) ^ 1 = 2 := by decide
  rw [e64, e10]
  omega

theorem ret_boolU {a b : Bool} (h : a = b) : Ending.returned (.bool a) = Ending.returned (.bool b) := by rw [h]

theorem bitN_at (i n B : Nat) (w : World) (hi : i ≤ 4) (_hn : n < 512) (hc : w.cell? ⟨B, 0, none⟩ = some (.int .i64 (n : Int))) :
    Calls Tryd.prog 121 #[.int .i64 i, .pointer (some ⟨B, 0, none⟩)] w fun e w' => e = .returned (.bool (bitN n i)) ∧ w' = w := by
  have l0 := low1U (n : Int)
  have l1 := low1U ((n : Int) / 2)
  have l2 := low1U ((n : Int) / 4)
  have l3 := low1U ((n : Int) / 8)
  have l4 := low1U ((n : Int) / 16)
  have h0 : Hid (((n : Int) % 2 == 1) = bitN n 0) := Lib.hid (by unfold bitN; rw [Bool.eq_iff_iff]; simp; omega)
  have h1 : Hid (((n : Int) / 2 % 2 == 1) = bitN n 1) := Lib.hid (by unfold bitN; rw [Bool.eq_iff_iff]; simp; omega)
  have h2 : Hid (((n : Int) / 4 % 2 == 1) = bitN n 2) := Lib.hid (by unfold bitN; rw [Bool.eq_iff_iff]; simp; omega)
  have h3 : Hid (((n : Int) / 8 % 2 == 1) = bitN n 3) := Lib.hid (by unfold bitN; rw [Bool.eq_iff_iff]; simp; omega)
  have h4 : Hid (((n : Int) / 16 % 2 == 1) = bitN n 4) := Lib.hid (by unfold bitN; rw [Bool.eq_iff_iff]; simp; omega)
  match i, hi with
  | 0, _ =>
    go_enter Tryd.func121, Tryd.ntmps121
    go_wp2
    go_ret
    exact ⟨ret_boolU h0.out, rfl⟩
  | 1, _ =>
    go_enter Tryd.func121, Tryd.ntmps121
    go_wp2
    go_ret
    exact ⟨ret_boolU h1.out, rfl⟩
  | 2, _ =>
    go_enter Tryd.func121, Tryd.ntmps121
    go_wp2
    go_ret
    exact ⟨ret_boolU h2.out, rfl⟩
  | 3, _ =>
    go_enter Tryd.func121, Tryd.ntmps121
    go_wp2
    go_ret
    exact ⟨ret_boolU h3.out, rfl⟩
  | 4, _ =>
    go_enter Tryd.func121, Tryd.ntmps121
    go_wp2
    go_ret
    exact ⟨ret_boolU h4.out, rfl⟩

theorem bitN_lit (i : Int) (k n B : Nat) (w : World) (hi : i = k) (hk : k ≤ 4) (hn : n < 512) (hc : w.cell? ⟨B, 0, none⟩ = some (.int .i64 (n : Int))) :
    Calls Tryd.prog 121 #[.int .i64 i, .pointer (some ⟨B, 0, none⟩)] w fun e w' => e = .returned (.bool (bitN n k)) ∧ w' = w := by
  subst hi; exact bitN_at k n B w hk hn hc

theorem low4U (a : Int) : bits BinOp.and IntKind.i64 a 15 = a % 16 := by
  have key : (BitVec.ofInt 64 a &&& BitVec.ofInt 64 15).toNat = (a % ((2 ^ 64 : Nat) : Int)).toNat % 2 ^ 4 := by
    have hm : BitVec.ofInt 64 15 = BitVec.ofNat 64 (2 ^ 4 - 1) := by decide
    rw [BitVec.toNat_and, hm, BitVec.toNat_ofNat, BitVec.toNat_ofInt, Nat.mod_eq_of_lt (by omega), Nat.and_two_pow_sub_one_eq_mod]
  show IntKind.i64.wrap ((BitVec.ofInt 64 a &&& BitVec.ofInt 64 15).toNat : Nat) = _
  rw [key, IntKind.wrap_i64]
  have e64 : (2 : Nat) ^ 64 = 18446744073709551616 := by decide
  have e10 : (2 : Nat) ^ 4 = 16 := by decide
  rw [e64, e10]
  omega

end Go.Proofs.YtjcklfbpdjfibaaDoor

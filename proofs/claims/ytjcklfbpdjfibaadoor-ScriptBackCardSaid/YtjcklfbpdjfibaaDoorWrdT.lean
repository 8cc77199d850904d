/-
  word.Take: the number that stands at a place, and the place behind it: as 'takeAt' says.
-/
import Derived.Test.YtjcklfbpdjfibaaDoorWrdL
import Derived.OwnWalk
namespace Go.Proofs.YtjcklfbpdjfibaaDoor
open Go.RowKit

/-- What Take answers. -/
def TakePost (bs : List Nat) (i : Int) (w : World) (e : Ending) (w' : World) : Prop :=
  e = .returned (match takeAt bs i with
    | none => .tuple #[.int .u64 0, .int .i64 0, .bool false]
    | some (v, n) => .tuple #[.int .u64 (v : Nat), .int .i64 (i + (n : Nat)), .bool true]) ∧ w = w'

/-- What holds at the head of Take's loop. -/
def TakeRel (bs : List Nat) (i : Nat) (su sk : Value) : Prop :=
  ∃ k U : Nat, k ≤ 10 ∧ i + k ≤ bs.length ∧ su = .int .u64 U ∧ sk = .int .i64 k ∧ (k ≤ 9 → U < 128 ^ k) ∧ takeL (bs.drop (i + k)) k U = takeL (bs.drop i) 0 0

theorem post_none {bs : List Nat} {i : Int} {w : World} (h : takeAt bs i = none) : TakePost bs i w (.returned (.tuple #[.int .u64 0, .int .i64 0, .bool false])) w := by
  unfold TakePost; rw [h]; exact ⟨rfl, rfl⟩

theorem post_some {bs : List Nat} {i : Int} {w : World} {v n : Nat} {V N : Int} (h : takeAt bs i = some (v, n)) (hV : V = v) (hN : N = i + n) : TakePost bs i w (.returned (.tuple #[.int .u64 V, .int .i64 N, .bool true])) w := by
  unfold TakePost; rw [h, hV, hN]; exact ⟨rfl, rfl⟩

theorem takeAt_nat (bs : List Nat) (i : Nat) : takeAt bs (i : Int) = takeL (bs.drop i) 0 0 := by simp [takeAt]

theorem rel_next {bs : List Nat} {i k U g V : Nat} (hk : k ≤ 9) (hlt : i + k < bs.length) (hU : k ≤ 9 → U < 128 ^ k) (hg : g = bs.getD (i + k) 0) (h128 : 128 ≤ g) (hV : k < 9 ∨ g % 128 ≤ 1 → V = U + g % 128 * 128 ^ k)
    (hT : takeL (bs.drop (i + k)) k U = takeL (bs.drop i) 0 0) : TakeRel bs i (.int .u64 V) (.int .i64 ((k : Int) + 1)) := by
  refine ⟨k + 1, V, by omega, by omega, rfl, rfl, fun h => ?_, ?_⟩
  · rw [hV (.inl (by omega))]; exact take_next U k g (hU hk)
  · rw [← hT, drop_get bs (i + k) hlt, ← hg, takeL_more g _ k U (by omega) h128]
    by_cases h9 : k < 9
    · rw [hV (.inl h9)]; rfl
    · rw [takeL_end _ (k + 1) _ (by omega), takeL_end _ (k + 1) _ (by omega)]

theorem at_end {bs : List Nat} {i k U : Nat} (h : 10 ≤ k ∨ bs.length ≤ i + k) (hT : takeL (bs.drop (i + k)) k U = takeL (bs.drop i) 0 0) : takeAt bs (i : Int) = none := by
  rw [takeAt_nat, ← hT]
  rcases h with h | h
  · exact takeL_end _ _ _ h
  · rw [List.drop_of_length_le h]; rfl

set_option maxRecDepth 100000 in
/-- Take at a place within the bytes. -/
theorem take_in (b off len cap : Nat) (bs : List Nat) (i : Nat) (w : World) (hlen : bs.length = len) (hi : i < len) (hreach : len ≤ 140737488351232)
    (hbs : ∀ g ∈ bs, g < 256) (hc : ∀ j, j < len → w.cell? ⟨b, off + j, none⟩ = some (.int .u8 ((bs.getD j 0 : Nat) : Int))) :
    Calls Tryd.prog 151 #[.slice (some ⟨b, off, none⟩) len cap, .int .i64 i] w (TakePost bs i w) := by
  have h0 : decide ((i : Int) < 0) = false := by simp
  have h1 : decide ((len : Int) ≤ (i : Int)) = false := by simp; omega
  have HC := Lib.hid hc
  have HL := Lib.hid hlen
  clear hc hlen
  go_enter Tryd.func151, Tryd.ntmps151
  go_wp2
  go_loop [7, 8] (fun su sk => TakeRel bs i su sk) (fun _ sk => 10 - (intOf sk).toNat)
  case atStart => exact ⟨0, 0, by omega, by have := HL.out; omega, rfl, rfl, fun _ => by simp, rfl⟩
  case round =>
    obtain ⟨k, U, hk, hik, rfl, rfl, hU, hT⟩ := hrel
    have HU := Lib.hid hU
    have HT := Lib.hid hT
    clear hU hT
    by_cases hin : k < 10 ∧ i + k < len
    · obtain ⟨hk10, hin⟩ := hin
      obtain ⟨g, hg⟩ : ∃ g, g = bs.getD (i + k) 0 := ⟨_, rfl⟩
      have hcell : w.cell? ⟨b, off + (i + k), none⟩ = some (.int .u8 (g : Int)) := by rw [hg]; exact HC.out (i + k) hin
      have hg256 : g < 256 := by
        have hm : bs.getD (i + k) 0 ∈ bs := by
          have hl : i + k < bs.length := by have := HL.out; omega
          rw [List.getD_eq_getElem?_getD, List.getElem?_eq_getElem hl]; exact List.getElem_mem hl
        rw [hg]; exact hbs _ hm
      have HG := Lib.hid hg
      clear hg
      obtain ⟨V, hV, hVe⟩ := or_term U k g (by omega) (HU.out (by omega)) hg256
      have HV := Lib.hid hVe
      clear hVe
      have t1 : decide ((k : Int) < 10) = true := by simp; omega
      have t2 : decide ((i : Int) + (k : Int) < (len : Int)) = true := by simp; omega
      by_cases h128 : g < 128
      · have hgl : i + k < bs.length := by have := HL.out; omega
        have hT1 := HT.out
        rw [drop_get bs (i + k) hgl, ← HG.out] at hT1
        have t3 : decide ((g : Int) < 128) = true := by simp; omega
        by_cases hb : (g = 0 ∧ 0 < k) ∨ (k = 9 ∧ 1 < g)
        · have hA : takeAt bs (i : Int) = none := by rw [takeAt_nat, ← hT1]; exact takeL_bad g _ k U hk10 h128 hb
          have HA := Lib.hid hA
          clear hA hT1
          rcases hb with ⟨hg0, hk0⟩ | ⟨hk9, hg1⟩
          · subst hg0
            go_wp2
            go_ret3
            exact post_none HA.out
          · subst hk9
            have t4 : ((g : Int) == 0) = false := by simp; omega
            have t5 : decide ((1 : Int) < (g : Int)) = true := by simp; omega
            go_wp2
            go_ret3
            exact post_none HA.out
        · have hA : takeAt bs (i : Int) = some (U + g * 128 ^ k, k + 1) := by rw [takeAt_nat, ← hT1]; exact takeL_good g _ k U hk10 h128 hb
          have hVV : V = U + g * 128 ^ k := by
            rw [HV.out (by omega), Nat.mod_eq_of_lt h128]
          have HA := Lib.hid hA
          have HVV := Lib.hid hVV
          clear hA hT1 hVV
          by_cases hg0 : g = 0
          · subst hg0
            have hk0 : k = 0 := by omega
            subst hk0
            have hV' : bits BinOp.or IntKind.u64 (U : Int) (IntKind.u64.wrap (IntKind.u64.wrap (bits BinOp.and IntKind.u8 0 127))) = (V : Int) := by simpa using hV
            have hcell' : w.cell? ⟨b, off + i, none⟩ = some (.int .u8 0) := by simpa using hcell
            clear hV hcell
            go_wp2
            go_ret3
            exact post_some HA.out (by rw [HVV.out]) (by simp)
          · have t4 : ((g : Int) == 0) = false := by simp; omega
            by_cases hk9 : k = 9
            · subst hk9
              have t5 : decide ((1 : Int) < (g : Int)) = false := by simp; omega
              have hV' : bits BinOp.or IntKind.u64 (U : Int) (IntKind.u64.wrap (IntKind.u64.wrap (bits BinOp.and IntKind.u8 (g : Int) 127) * 9223372036854775808)) = (V : Int) := by rw [← hV]; rfl
              clear hV
              go_wp2
              go_ret3
              exact post_some HA.out (by rw [HVV.out]) (by simp; omega)
            · have t5 : ((k : Int) == 9) = false := by simp; omega
              go_wp2
              go_ret3
              exact post_some HA.out (by rw [HVV.out]) (by simp; omega)
      · have t3 : decide ((g : Int) < 128) = false := by simp; omega
        go_wp2
        go_round
        case rel => exact rel_next (by omega) (by have := HL.out; omega) HU.out HG.out (by omega) HV.out HT.out
        case measure => simp [intOf]; omega
    · by_cases hk10 : k < 10
      · have t1 : decide ((k : Int) < 10) = true := by simp; omega
        have t2 : decide ((i : Int) + (k : Int) < (len : Int)) = false := by simp; omega
        go_wp2
        go_ret3
        exact post_none (at_end (.inr (by have := HL.out; omega)) HT.out)
      · have t1 : decide ((k : Int) < 10) = false := by simp; omega
        go_wp2
        go_ret3
        exact post_none (at_end (.inl (by omega)) HT.out)
end Go.Proofs.YtjcklfbpdjfibaaDoor

/-
  overdriveref.Among: true just if the number is among the list's.
-/
import Derived.Test.YtchechdcebmoeaaDoorProg
import Derived.Test.YtchechdcebmoeaaDoorMem
namespace Go.Proofs.YtchechdcebmoeaaDoor
open Go.RowKit

theorem take_no {zs : List Int} {i : Nat} {x : Int} (hi : i < zs.length) (h : x ∉ zs.take i) (hx : zs.getD i 0 ≠ x) : x ∉ zs.take (i + 1) := by
  have e : zs.take (i + 1) = zs.take i ++ [zs.getD i 0] := by rw [List.take_add_one]; simp [List.getD, hi]
  rw [e, List.mem_append]
  rintro (h1 | h1)
  · exact h h1
  · exact hx (by simpa using (List.mem_singleton.1 h1).symm)

theorem among_any (a : Option Addr) (len cap : Nat) (zs : List Int) (x : Int) (w : World) (hl : Row .i64 w a len cap zs) :
    Calls Tryd.prog 17 #[.slice a len cap, .int .i64 x] w fun e w' => e = .returned (.bool (decide (x ∈ zs))) ∧ w' = w := by
  have hmax := hl.max
  have hle := hl.le
  unfold maxLen at hmax
  have HR := Lib.hid hl
  clear hl
  go_enter Tryd.func17, Tryd.ntmps17
  go_wp2_with fail
  go_loop [5] (fun si => ∃ i : Nat, i ≤ len ∧ si = .int .i64 i ∧ x ∉ zs.take i) (fun si => len - (intOf si).toNat)
  case atStart => exact ⟨0, Nat.zero_le _, rfl, by simp⟩
  case round =>
    obtain ⟨i, hi, rfl, hn⟩ := hrel
    have HN := Lib.hid hn
    clear hn
    by_cases hlt : i < len
    · have t1 : decide (i < len) = true := by simpa using hlt
      obtain ⟨lb, lo, rfl, hc⟩ := Row_at HR.out (by omega)
      have cx := hc i hlt
      have hil : i < zs.length := by rw [HR.out.len_eq]; exact hlt
      have HIL := Lib.hid hil
      clear hc hil
      generalize hy : zs.getD i 0 = y at *
      have HY := Lib.hid hy
      clear hy
      by_cases hxy : y = x
      · have t2 : (y == x) = true := by simp [hxy]
        have HXY := Lib.hid hxy
        clear hxy
        go_wp2_with fail
        go_ret
        refine ⟨?_, rfl⟩
        have hm : x ∈ zs := by
          rw [← HXY.out, ← HY.out]
          have : zs.getD i 0 = zs[i]'HIL.out := by simp [List.getD, HIL.out]
          rw [this]
          exact List.getElem_mem _
        simp [hm]
      · have t2 : (y == x) = false := by simp [hxy]
        have HXY := Lib.hid hxy
        clear hxy
        go_wp2_with fail
        go_round
        case rel => exact ⟨i + 1, by omega, by go_num, take_no HIL.out HN.out (by rw [HY.out]; exact HXY.out)⟩
        case measure => simp [intOf]; omega
    · obtain rfl : i = len := by omega
      have t1 : decide (i < i) = false := by simp
      go_wp2_with fail
      go_ret
      refine ⟨?_, rfl⟩
      have h := HN.out
      rw [← HR.out.len_eq, List.take_length] at h
      simp [h]

end Go.Proofs.YtchechdcebmoeaaDoor

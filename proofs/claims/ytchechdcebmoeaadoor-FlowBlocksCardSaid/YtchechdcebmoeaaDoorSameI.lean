/-
  overdriveref.SameInts: true just if the two lists of integers are the same.
-/
import Derived.Test.YtchechdcebmoeaaDoorProg
import Derived.Test.YtchechdcebmoeaaDoorMem
import Derived.Deep.QuietTactic
import Derived.BigQuiet
namespace Go.Proofs.YtchechdcebmoeaaDoor
open Go.RowKit

theorem take_both {xs ys : List Int} {i : Nat} (hx : i < xs.length) (hy : i < ys.length) (ht : xs.take i = ys.take i) (he : xs.getD i 0 = ys.getD i 0) : xs.take (i + 1) = ys.take (i + 1) := by
  rw [List.take_succ_eq_append_getElem hx, List.take_succ_eq_append_getElem hy, ht]
  congr 2
  simpa [List.getD, List.getElem?_eq_getElem hx, List.getElem?_eq_getElem hy] using he

def SamePost (xs ys : List Int) (w : World) (e : Ending) (w' : World) : Prop := e = .returned (.bool (decide (xs = ys))) ∧ ∃ n, w' = w.drewN n

def SameRel (xs ys : List Int) (w : World) (si : Value) (wr : World) : Prop := ∃ i : Nat, i ≤ xs.length ∧ si = .int .i64 i ∧ xs.take i = ys.take i ∧ ∃ n, wr = w.drewN n

theorem same_at (xs ys : List Int) (ab ao bb bo len ca cb : Nat) (w : World) (hx : xs.length = len) (hy : ys.length = len) (hreach : len ≤ 140737488351232)
    (hca : ∀ j, j < len → w.cell? ⟨ab, ao + j, none⟩ = some (.int .i64 (xs.getD j 0))) (hcb : ∀ j, j < len → w.cell? ⟨bb, bo + j, none⟩ = some (.int .i64 (ys.getD j 0))) :
    Calls Tryd.prog 28 #[.slice (some ⟨ab, ao, none⟩) len ca, .slice (some ⟨bb, bo, none⟩) len cb] w (SamePost xs ys w) := by
  have HA := Lib.hid hca
  have HB := Lib.hid hcb
  have HX := Lib.hid hx
  have HY := Lib.hid hy
  clear hca hcb hx hy
  go_enter Tryd.func28, Tryd.ntmps28
  go_wp2
  go_loopw [5] (fun si wr => SameRel xs ys w si wr) (fun si _ => len - (intOf si).toNat)
  case atStart => exact ⟨0, Nat.zero_le _, rfl, rfl, 0, rfl⟩
  case round =>
    obtain ⟨i, hi, rfl, ht, n, rfl⟩ := hrel
    have HT := Lib.hid ht
    have HI : Hid (i ≤ xs.length) := hi
    clear ht hi
    by_cases hlt : i < len
    · obtain ⟨x, hx⟩ : ∃ x, x = xs.getD i 0 := ⟨_, rfl⟩
      obtain ⟨y, hy⟩ : ∃ y, y = ys.getD i 0 := ⟨_, rfl⟩
      have c1 : w.cell? ⟨ab, ao + i, none⟩ = some (.int .i64 x) := by rw [hx]; exact HA.out i hlt
      have c2 : w.cell? ⟨bb, bo + i, none⟩ = some (.int .i64 y) := by rw [hy]; exact HB.out i hlt
      have HX1 := Lib.hid hx
      have HY1 := Lib.hid hy
      clear hx hy
      have t0 : decide ((i : Int) < (len : Int)) = true := by simp; omega
      by_cases hxy : (x == y) = true
      · go_wp2
        go_quiet (fail)
        go_wp2
        go_roundw
        case rel =>
          have hxy1 : x = y := by simpa using hxy
          refine ⟨i + 1, by have := HX.out; omega, by go_num, ?_, ⟨_, rfl⟩⟩
          exact take_both (by have := HX.out; omega) (by have := HY.out; omega) HT.out (by rw [← HX1.out, ← HY1.out]; exact hxy1)
        case measure => simp [intOf]; omega
      · have hxy' : (x == y) = false := by simpa using hxy
        clear hxy
        go_wp2
        go_quiet (fail)
        go_wp2
        go_ret
        refine ⟨?_, ⟨_, rfl⟩⟩
        have hne : ¬ xs = ys := by
          intro e
          subst e
          rw [← HX1.out] at HY1
          have := HY1.out
          simp [this] at hxy'
        simp [hne]
    · have t0 : decide ((i : Int) < (len : Int)) = false := by simp; omega
      go_wp2
      go_ret
      refine ⟨?_, n, rfl⟩
      have hi : i = len := by have := HI.out; have := HX.out; omega
      have heq : xs = ys := by
        have h := HT.out
        rw [List.take_of_length_le (by have := HX.out; omega), List.take_of_length_le (by have := HY.out; omega)] at h
        exact h
      simp [heq]

theorem same_ints (a b : Option Addr) (la ca lb cb : Nat) (xs ys : List Int) (w : World) (ha : Row .i64 w a la ca xs) (hb : Row .i64 w b lb cb ys) (hreach : la ≤ 140737488351232) :
    Calls Tryd.prog 28 #[.slice a la ca, .slice b lb cb] w (SamePost xs ys w) := by
  by_cases hl : la = lb
  · subst hl
    by_cases hp : 0 < la
    · obtain ⟨ab, ao, rfl, hca⟩ := Row_at ha hp
      obtain ⟨bb, bo, rfl, hcb⟩ := Row_at hb hp
      exact same_at xs ys ab ao bb bo la ca cb w ha.len_eq hb.len_eq hreach hca hcb
    · have h0 : la = 0 := by omega
      have hx : xs = [] := List.eq_nil_of_length_eq_zero (by rw [ha.len_eq, h0])
      have hy : ys = [] := List.eq_nil_of_length_eq_zero (by rw [hb.len_eq, h0])
      subst h0
      clear ha hb
      go_enter Tryd.func28, Tryd.ntmps28
      go_wp2
      go_loop [5] (fun si => si = .int .i64 0) (fun _ => 0)
      case atStart => rfl
      case round =>
        subst hrel
        go_wp2
        go_ret
        exact ⟨by simp, 0, rfl⟩
  · have hne : ((la : Int) != (lb : Int)) = true := by simp; omega
    have hxy : ¬ xs = ys := fun e => hl (by rw [← ha.len_eq, ← hb.len_eq, e])
    have HN := Lib.hid hxy
    clear hxy ha hb hl
    go_enter Tryd.func28, Tryd.ntmps28
    go_wp2
    go_ret
    exact ⟨by simp [HN.out], 0, rfl⟩
end Go.Proofs.YtchechdcebmoeaaDoor

/-
  The arena's methods at what does not fit; Clear at any bounds; a copy of a row.
-/
import Derived.Test.YtpfpieakemnadaaDoorMovesK
import Derived.Test.YtpfpieakemnadaaDoorSee2
namespace Go.Proofs.YtpfpieakemnadaaDoor
open Go.RowKit

def NewNoPost (x : Addr) (w : World) (e : Ending) (w' : World) : Prop := e = .returned (.tuple #[.pointer none, .iface 178 (.pointer (some x))]) ∧ ∃ q, w' = w.drewN q

theorem new_no (a : Nat → Addr) (n : Int) (w : World) (h : Sents a w) (hn : n < 0 ∨ 65536 < n) :
    Calls Tryd.prog 47 #[.int .i64 n] w (NewNoPost (a 10) w) := by
  have hc := h.c10
  obtain ⟨x, hx⟩ : ∃ x, a 10 = x := ⟨_, rfl⟩
  rw [hx] at hc
  rw [hx]
  clear hx h
  by_cases h0 : n < 0
  · have d1 : decide (n < 0) = true := by simp; omega
    clear hn
    go_enter Tryd.func47, Tryd.ntmps47
    go_wp2_with fail
    go_quiet (fail)
    all_goals go_wp2_with fail
    all_goals
      go_ret2
      exact ⟨rfl, _, rfl⟩
  · have d1 : decide (n < 0) = false := by simp; omega
    have d2 : decide (65536 < n) = true := by simp; omega
    clear hn
    go_enter Tryd.func47, Tryd.ntmps47
    go_wp2_with fail
    go_quiet (fail)
    all_goals go_wp2_with fail
    all_goals
      go_ret2
      exact ⟨rfl, _, rfl⟩

theorem copy_no {B b g n : Nat} {f : Nat → Int} (T U m : Int) (w : World) (h : AnF B b g n f w) (hm0 : -9223372036854775808 ≤ m) (hm1 : m ≤ 9223372036854775807)
    (hno : ¬ (0 ≤ m ∧ m ≤ n ∧ 0 ≤ T ∧ T ≤ n - m ∧ 0 ≤ U ∧ U ≤ n - m)) :
    Calls Tryd.prog 51 #[.pointer (some ⟨b, 0, none⟩), .int .i64 T, .int .i64 U, .int .i64 m] w fun e w' => e = .returned (.bool false) ∧ w = w' := by
  obtain ⟨zs, hA, _⟩ := h
  have hb := hA.box
  have hs := hA.small
  clear hA
  by_cases h1 : m < 0
  · have d1 : decide (m < 0) = true := by simp; omega
    clear hno
    go_enter Tryd.func51, Tryd.ntmps51
    go_wp2_with fail
    go_ret
    exact ⟨rfl, rfl⟩
  have d1 : decide (m < 0) = false := by simp; omega
  by_cases h2 : (n : Int) < m
  · have d2 : decide ((n : Int) < m) = true := by simp; omega
    clear hno
    go_enter Tryd.func51, Tryd.ntmps51
    go_wp2_with fail
    go_ret
    exact ⟨rfl, rfl⟩
  have d2 : decide ((n : Int) < m) = false := by simp; omega
  by_cases h3 : T < 0
  · have d3 : decide (T < 0) = true := by simp; omega
    clear hno
    go_enter Tryd.func51, Tryd.ntmps51
    go_wp2_with fail
    go_ret
    exact ⟨rfl, rfl⟩
  have d3 : decide (T < 0) = false := by simp; omega
  by_cases h4 : (n : Int) - m < T
  · have d4 : decide ((n : Int) - m < T) = true := by simp; omega
    clear hno
    go_enter Tryd.func51, Tryd.ntmps51
    go_wp2_with fail
    go_ret
    exact ⟨rfl, rfl⟩
  have d4 : decide ((n : Int) - m < T) = false := by simp; omega
  by_cases h5 : U < 0
  · have d5 : decide (U < 0) = true := by simp; omega
    clear hno
    go_enter Tryd.func51, Tryd.ntmps51
    go_wp2_with fail
    go_ret
    exact ⟨rfl, rfl⟩
  have d5 : decide (U < 0) = false := by simp; omega
  have h6 : (n : Int) - m < U := by omega
  have d6 : decide ((n : Int) - m < U) = true := by simp; omega
  clear hno
  go_enter Tryd.func51, Tryd.ntmps51
  go_wp2_with fail
  go_ret
  exact ⟨rfl, rfl⟩

def ClearAnyPost (B b g n : Nat) (f : Nat → Int) (A C : Int) (w : World) (e : Ending) (w' : World) : Prop :=
  e = .returned (.tuple #[]) ∧ AnF B b g n (fun j => if A ≤ (j : Int) ∧ (j : Int) < C then 0 else f j) w' ∧ w.grownBy w' (some g)

theorem clear_any {B b g n : Nat} {f : Nat → Int} (A C : Int) (w : World) (h : AnF B b g n f w) :
    Calls Tryd.prog 53 #[.pointer (some ⟨b, 0, none⟩), .int .i64 A, .int .i64 C] w (ClearAnyPost B b g n f A C w) := by
  obtain ⟨zs, hA, hz⟩ := h
  have hb := hA.box
  have hs := hA.small
  have HA := Lib.hid hA
  have HZ := Lib.hid hz
  clear hA hz
  obtain ⟨X, hX, hXA⟩ : ∃ X : Nat, (if A < 0 then 0 else A) = (X : Int) ∧ (∀ j : Nat, (X ≤ j ↔ A ≤ (j : Int))) := by
    by_cases h : A < 0
    · exact ⟨0, by rw [if_pos h]; rfl, fun j => by omega⟩
    · exact ⟨A.toNat, by rw [if_neg h]; omega, fun j => by omega⟩
  obtain ⟨Y, hY, hYn, hYC⟩ : ∃ Y : Int, (if (n : Int) < C then (n : Int) else C) = Y ∧ Y ≤ n ∧ (∀ j : Nat, j < n → ((j : Int) < Y ↔ (j : Int) < C)) := by
    by_cases h : (n : Int) < C
    · exact ⟨n, by rw [if_pos h], by omega, fun j hj => by omega⟩
    · exact ⟨C, by rw [if_neg h], by omega, fun j hj => by omega⟩
  have HX := Lib.hid hX
  have HY := Lib.hid hY
  have HXA := Lib.hid hXA
  have HYC := Lib.hid hYC
  clear hX hY hXA hYC
  go_enter Tryd.func53, Tryd.ntmps53
  go_wp2_with fail
  go_quiet (fail)
  all_goals go_upto_region 1 with (fail)
  all_goals
    rw [HX.out, HY.out]
    by_cases hlt : (X : Int) < Y
    · obtain ⟨y, rfl⟩ : ∃ y : Nat, Y = (y : Int) := ⟨Y.toNat, by omega⟩
      have hne : ¬ n = X := by omega
      have d1 : decide (X < y) = true := by simp; omega
      have HC : Hid (∀ j, j < y - X → ((w.drewN nq).cell? ⟨g, X + j, none⟩).isSome = true) := Lib.hid fun j hj => by
        show (w.cell? ⟨g, X + j, none⟩).isSome = true
        rw [HA.out.cell _ (by omega)]; rfl
      have HF : Hid (∀ j, j < y - X → (w.drewN nq).frozen? ⟨g, X + j, none⟩ = false) := Lib.hid fun j hj => HA.out.frozen _
      have hpost : ClearAnyPost B b g n f A C w (.returned (.tuple #[])) ((w.drewN nq).setCells g X (List.replicate (y - X) (Value.int IntKind.i64 0))) := by
        obtain ⟨zs', hA5, hz, hg5⟩ := An.storedAll (List.replicate (y - X) 0) zs X (w.drewN nq) (HA.out.kept rfl rfl) (by simp; omega)
        rw [List.map_replicate] at hA5 hg5
        refine ⟨rfl, ⟨zs', hA5, fun j hj => ?_⟩, ⟨hg5.os, hg5.tape, hg5.output, hg5.size, hg5.block⟩⟩
        rw [hz j]
        show _ = if A ≤ (j : Int) ∧ (j : Int) < C then 0 else f j
        have q1 := HXA.out j
        have q2 := HYC.out j hj
        by_cases hin : X ≤ j ∧ j < X + (List.replicate (y - X) (0 : Int)).length
        · rw [if_pos hin, if_pos (by rw [List.length_replicate] at hin; omega)]
          exact rep_get _ _
        · rw [if_neg hin, if_neg (by rw [List.length_replicate] at hin; omega)]
          exact HZ.out j hj
      have HP := Lib.hid hpost
      clear hpost
      go_wp2_with (with_reducible refine wpList_clear_row (o := ⟨none, _, _, _, _, _⟩) rfl (.tmp 24) 83 2 rfl (.int .i64 0) Tryd.underlying83 zero_i64 rfl rfl g X (y - X) (n - X) rfl (by omega) HC.out HF.out ?_)
      exact bodyPost_end (v := .tuple #[]) (by simp [results, Tryd.results53, go_sem]) rfl HP.out
    · have d1 : decide ((X : Int) < Y) = false := by simp; omega
      have hpost : ClearAnyPost B b g n f A C w (.returned (.tuple #[])) (w.drewN nq) := by
        refine ⟨rfl, ⟨zs, HA.out.kept rfl rfl, fun j hj => ?_⟩, ⟨rfl, rfl, rfl, Nat.le_refl _, fun _ _ _ => rfl⟩⟩
        show _ = if A ≤ (j : Int) ∧ (j : Int) < C then 0 else f j
        have q1 := HXA.out j
        have q2 := HYC.out j hj
        rw [if_neg (by omega)]
        exact HZ.out j hj
      have HP := Lib.hid hpost
      clear hpost
      go_wp2_with fail
      exact bodyPost_end (v := .tuple #[]) (by simp [results, Tryd.results53, go_sem]) rfl HP.out

/-- A row of its own, by what stands at each place. -/
def RowF (h n : Nat) (f : Nat → Int) (w : World) : Prop := ∃ zs : List Int, zs.length = n ∧ w.heap[h]? = some (.cells (zs.map (Value.int .i64)).toArray 2 (0, 0)) ∧ ∀ j, j < n → zs.getD j 0 = f j

theorem RowF.cell {h n : Nat} {f : Nat → Int} {w : World} (r : RowF h n f w) (j : Nat) (hj : j < n) : w.cell? ⟨h, j, none⟩ = some (.int .i64 (f j)) := by
  obtain ⟨zs, hl, hr, hz⟩ := r
  rw [cell_of_row w h j _ 2 (0, 0) hr, ← hz j hj]
  simp [List.getD, List.getElem?_eq_getElem (show j < zs.length by omega)]

theorem RowF.frozen {h n : Nat} {f : Nat → Int} {w : World} (r : RowF h n f w) (j : Nat) : w.frozen? ⟨h, j, none⟩ = false := by
  obtain ⟨zs, hl, hr, hz⟩ := r
  exact frozen_of_row w h j _ 2 hr

theorem RowF.kept {h n : Nat} {f : Nat → Int} {w w' : World} (r : RowF h n f w) (hg : w'.heap[h]? = w.heap[h]?) : RowF h n f w' := by
  obtain ⟨zs, hl, hr, hz⟩ := r
  exact ⟨zs, hl, hg.trans hr, hz⟩

theorem RowF.congr {h n : Nat} {f f' : Nat → Int} {w : World} (r : RowF h n f w) (hf : ∀ j, j < n → f j = f' j) : RowF h n f' w := by
  obtain ⟨zs, hl, hr, hz⟩ := r
  exact ⟨zs, hl, hr, fun j hj => (hz j hj).trans (hf j hj)⟩

theorem RowF.stored {h n : Nat} {f : Nat → Int} {w : World} (r : RowF h n f w) (i : Nat) (v : Int) : RowF h n (fun j => if j = i then v else f j) (w.setCell ⟨h, i, none⟩ (.int .i64 v)) := by
  obtain ⟨zs, hl, hr, hz⟩ := r
  refine ⟨zs.set i v, by simpa using hl, ?_, fun j hj => ?_⟩
  · rw [heap_setCell_same w h i _ 2 _ hr]; simp [List.map_set]
  · show _ = if j = i then v else f j
    by_cases e : j = i
    · subst e
      rw [if_pos rfl]
      simp [List.getD, show j < zs.length by omega]
    · rw [if_neg e, ← hz j hj]
      simp [List.getD, show ¬ i = j from fun q => e q.symm]

end Go.Proofs.YtpfpieakemnadaaDoor

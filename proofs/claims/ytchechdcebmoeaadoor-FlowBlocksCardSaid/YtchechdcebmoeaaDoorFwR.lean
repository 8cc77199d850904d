/-
  slices.Reverse of a row of integers.
-/
import Derived.Test.YtchechdcebmoeaaDoorFBase
namespace Go.Proofs.YtchechdcebmoeaaDoor
open Go.RowKit

/-- A row of integers, as a function. -/
def RowFn (g n z : Nat) (f : Nat → Int) (w : World) : Prop := ∃ cur : Array Value, w.heap[g]? = some (.cells cur 3 (0, 0)) ∧ (cur.size = z ∧ n ≤ z) ∧ ∀ j, j < n → cur[j]? = some (.int .i64 (f j))

section
variable {g n z : Nat} {f : Nat → Int} {w : World}
theorem RowFn.cell (h : RowFn g n z f w) {j : Nat} (hj : j < n) : w.cell? ⟨g, j, none⟩ = some (.int .i64 (f j)) := by
  obtain ⟨cur, hc, _, hf⟩ := h
  rw [cell_of_row w g j _ 3 (0, 0) hc]
  exact hf j hj
theorem RowFn.frozen (h : RowFn g n z f w) (j : Nat) : w.frozen? ⟨g, j, none⟩ = false := by
  obtain ⟨cur, hc, _, _⟩ := h
  exact frozen_of_row w g j _ 3 hc
theorem RowFn.stored (h : RowFn g n z f w) {j : Nat} (_hj : j < n) (x : Int) : RowFn g n z (fun k => if k = j then x else f k) (w.setCell ⟨g, j, none⟩ (.int .i64 x)) := by
  obtain ⟨cur, hc, hs, hf⟩ := h
  refine ⟨cur.set! j (.int .i64 x), ?_, by simpa using hs, fun k hk => ?_⟩
  · rw [heap_setCell_same w g j _ 3 _ hc]
    rfl
  · show (cur.set! j (.int .i64 x))[k]? = some (.int .i64 (if k = j then x else f k))
    by_cases e : k = j
    · subst e
      rw [if_pos rfl]
      have : k < cur.size := by omega
      simp [this]
    · rw [if_neg e, ← hf k hk]
      simp [Ne.symm e]
theorem RowFn.congr (h : RowFn g n z f w) {f2 : Nat → Int} (e : ∀ j, j < n → f j = f2 j) : RowFn g n z f2 w := by
  obtain ⟨cur, hc, hs, hf⟩ := h
  exact ⟨cur, hc, hs, fun j hj => by rw [← e j hj]; exact hf j hj⟩
theorem RowFn.keep (h : RowFn g n z f w) {w' : World} (hk : w'.heap[g]? = w.heap[g]?) : RowFn g n z f w' := by
  obtain ⟨cur, hc, hs, hf⟩ := h
  exact ⟨cur, hk.trans hc, hs, hf⟩
end

def revF (n : Nat) (f : Nat → Int) (i j : Nat) : Int := if j < i ∨ n - i ≤ j then f (n - 1 - j) else f j

theorem revF_next {n i : Nat} {f : Nat → Int} (h : i < n - 1 - i) : ∀ j, j < n → (if j = n - 1 - i then f i else if j = i then f (n - 1 - i) else revF n f i j) = revF n f (i + 1) j := by
  intro j hj
  unfold revF
  by_cases e : j = n - 1 - i
  · rw [if_pos e, if_pos (by omega)]
    congr 1
    omega
  · rw [if_neg e]
    by_cases e2 : j = i
    · rw [if_pos e2, if_pos (by omega)]
      congr 1
      omega
    · rw [if_neg e2]
      by_cases e3 : j < i ∨ n - i ≤ j
      · rw [if_pos e3, if_pos (by omega)]
      · rw [if_neg e3, if_neg (by omega)]

theorem revF_end {n i : Nat} {f : Nat → Int} (h : ¬ i < n - 1 - i) : ∀ j, j < n → revF n f i j = f (n - 1 - j) := by
  intro j hj
  unfold revF
  by_cases e3 : j < i ∨ n - i ≤ j
  · rw [if_pos e3]
  · rw [if_neg e3]
    congr 1
    omega

def RevRel (g n z : Nat) (f : Nat → Int) (w : World) (s2 s3 : Value) (wr : World) : Prop :=
  ∃ i : Nat, i ≤ n ∧ s2 = .int .i64 i ∧ s3 = .int .i64 ((n : Int) - 1 - i) ∧ RowFn g n z (revF n f i) wr ∧ w.grownBy wr (some g)

set_option maxHeartbeats 2000000 in
set_option maxRecDepth 100000 in
theorem reverse_row (g n z c : Nat) (f : Nat → Int) (w : World) (h : RowFn g n z f w) (h0 : 0 < n) (hn : n ≤ c) (hc : c ≤ maxLen) :
    Calls Tryd.prog 111 #[.slice (some ⟨g, 0, none⟩) n c] w fun e w' => e = .returned (.tuple #[]) ∧ RowFn g n z (fun j => f (n - 1 - j)) w' ∧ w.grownBy w' (some g) := by
  have hm := hc
  unfold maxLen at hm
  have R0 : Hid (RevRel g n z f w (.int .i64 0) (.int .i64 ((n : Int) - 1)) w) := Lib.hid ⟨0, Nat.zero_le _, rfl, by simp, h.congr fun j hj => by unfold revF; rw [if_neg (by omega)], World.grownBy.refl _ _⟩
  have s0 : IntKind.i64.wrap ((n : Int) - 1) = (n : Int) - 1 := IntWalk.i64_in _ (by omega)
  clear h hc
  go_enter Tryd.func111, Tryd.ntmps111
  go_wp2_with fail
  go_loopw [2, 3] (fun s2 s3 wr => RevRel g n z f w s2 s3 wr) (fun s2 _ _ => n - (intOf s2).toNat)
  case atStart => exact R0.out
  case round =>
    clear R0
    obtain ⟨i, hi, rfl, rfl, hrow, hg⟩ := hrel
    by_cases hlt : i < n - 1 - i
    · obtain ⟨k, hk⟩ : ∃ k, n - 1 - i = k := ⟨_, rfl⟩
      have hki : (n : Int) - 1 - i = (k : Int) := by omega
      rw [hki]
      have t1 : decide (i < k) = true := by simp; omega
      have hkn : k < n := by omega
      have hin : i < n := by omega
      have ca := hrow.cell hin
      have cb := hrow.cell hkn
      have fa := hrow.frozen i
      have hst := (hrow.stored hin (revF n f i k)).stored hkn (revF n f i i)
      have ea : revF n f i i = f i := by unfold revF; rw [if_neg (by omega)]
      have eb : revF n f i k = f k := by unfold revF; rw [if_neg (by omega)]
      rw [ea, eb] at hst
      rw [ea] at ca
      rw [eb] at cb
      have hst2 := hst.congr (f2 := revF n f (i + 1)) fun j hj => by
        have := revF_next (f := f) hlt j hj
        rw [hk] at this
        exact this
      have fb := (hrow.stored hin (f k)).frozen k
      have cb2 := (hrow.stored hin (f k)).cell hkn
      rw [if_neg (show ¬ k = i by omega), eb] at cb2
      have HST := Lib.hid hst2
      have HG := Lib.hid hg
      have s1 : IntKind.i64.wrap ((k : Int) - 1) = (n : Int) - 1 - ((i + 1 : Nat) : Int) := (IntWalk.i64_in _ (by omega)).trans (by omega)
      have s2 : IntKind.i64.wrap ((i : Int) + 1) = ((i + 1 : Nat) : Int) := (IntWalk.i64_in _ (by omega)).trans (by omega)
      generalize f i = x at *
      generalize f k = y at *
      clear hst hst2 hrow hg ea eb hki hlt
      go_wp2_with fail
      go_region_with (fail)
      all_goals
        go_wp2_with fail
        go_roundw
        case rel => exact ⟨i + 1, by omega, by go_num, by go_num, HST.out.keep rfl, ⟨HG.out.os, HG.out.tape, HG.out.output, by have := HG.out.size; simpa using this, fun k2 hk2 hne => by
          show ((wr.setCell ⟨g, i, none⟩ (.int .i64 y)).setCell ⟨g, k, none⟩ (.int .i64 x)).heap[k2]? = _
          rw [heap_setCell_other _ ⟨g, k, none⟩ k2 _ (fun e => hne (by simp [e])), heap_setCell_other _ ⟨g, i, none⟩ k2 _ (fun e => hne (by simp [e]))]
          exact HG.out.block k2 hk2 hne⟩⟩
        case measure => simp [intOf]; omega
    · have t1 : decide ((i : Int) < (n : Int) - 1 - i) = false := by simp; omega
      have FIN := Lib.hid (hrow.congr (f2 := fun j => f (n - 1 - j)) (revF_end hlt))
      have HG := Lib.hid hg
      clear hrow hg hlt
      go_wp2_with fail
      refine bodyPost_end (results_none rfl _ _ _) rfl ?_
      exact ⟨rfl, FIN.out, HG.out⟩

set_option maxHeartbeats 2000000 in
set_option maxRecDepth 100000 in
theorem reverse_nil (a : Option Addr) (c : Nat) (w : World) : Calls Tryd.prog 111 #[.slice a 0 c] w fun e w' => e = .returned (.tuple #[]) ∧ w' = w := by
  go_enter Tryd.func111, Tryd.ntmps111
  go_wp2_with fail
  go_loopw [2, 3] (fun s2 s3 wr => s2 = .int .i64 0 ∧ s3 = .int .i64 (-1) ∧ wr = w) (fun _ _ _ => 0)
  case atStart => exact ⟨rfl, rfl, rfl⟩
  case round =>
    obtain ⟨rfl, rfl, rfl⟩ := hrel
    go_wp2_with fail
    refine bodyPost_end (results_none rfl _ _ _) rfl ?_
    exact ⟨rfl, rfl⟩

/-- Reverse of a row that is the call's own. -/
theorem reverse_own (B n : Nat) (v : Value) (l : List Nat) (w : World) (h : w.ownsRow B 3 1 v n (l.map fun (x : Nat) => Value.int .i64 (x : Int))) :
    Calls Tryd.prog 111 #[v] w fun e w' => e = .returned (.tuple #[]) ∧ w'.ownsRow B 3 1 v n (l.reverse.map fun (x : Nat) => Value.int .i64 (x : Int)) ∧ w.grownBy w' v.ownBlock := by
  have hl : l.length = n := by simpa using h.1
  obtain ⟨a, c, rfl⟩ := own_shapeM h
  by_cases h0 : n = 0
  · subst h0
    have e : l = [] := List.length_eq_zero_iff.1 hl
    subst e
    refine (reverse_nil a c w).mono ?_
    rintro e w' ⟨rfl, rfl⟩
    exact ⟨rfl, h, World.grownBy.refl _ _⟩
  · rcases h.2 with ⟨e, _⟩ | ⟨g, cap, cur, hv, hb, hg, hnc, hcm, hcs, ht⟩
    · cases e; omega
    · have h1 := Value.slice.inj hv
      obtain ⟨rfl, rfl⟩ : a = some ⟨g, 0, none⟩ ∧ c = cap := ⟨h1.1, h1.2.2⟩
      have hr : RowFn g n (c * 1) (fun j => ((l.getD j 0 : Nat) : Int)) w := ⟨cur, hg, ⟨hcs, by omega⟩, fun j hj => by
        have h2 : (cur.toList.take (n * 1))[j]? = (l.map fun (x : Nat) => Value.int .i64 (x : Int))[j]? := by rw [ht]
        rw [List.getElem?_take_of_lt (by omega)] at h2
        rw [← Array.getElem?_toList, h2]
        simp [List.getD, show j < l.length by omega]⟩
      refine (reverse_row g n (c * 1) c _ w hr (by omega) hnc hcm).mono ?_
      rintro e w' ⟨rfl, ⟨cur', hg', ⟨hz, hnz⟩, hf⟩, hgr⟩
      refine ⟨rfl, ⟨by simp [hl], .inr ⟨g, c, cur', rfl, hb, hg', hnc, hcm, hz, ?_⟩⟩, hgr⟩
      refine List.ext_getElem (by simp [hl]; omega) fun j h2 h3 => ?_
      have hj : j < n := by simp at h2; omega
      have h4 := hf j hj
      rw [← Array.getElem?_toList, List.getElem?_eq_getElem (by simp; omega)] at h4
      have h5 := Option.some.inj h4
      rw [List.getElem_take, h5]
      have hx : n - 1 - j < l.length := by omega
      simp [List.getD, hl]
      rw [List.getElem?_eq_getElem hx]
      rfl

end Go.Proofs.YtchechdcebmoeaaDoor

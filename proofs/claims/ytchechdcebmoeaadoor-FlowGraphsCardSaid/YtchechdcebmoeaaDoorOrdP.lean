/-
  The law on orders, plainly.
-/
import Derived.Test.YtchechdcebmoeaaDoorFwM
import Derived.Test.YtchechdcebmoeaaDoorFwQ
import Derived.Test.YtchechdcebmoeaaDoorLgtG
namespace Go.Proofs.YtchechdcebmoeaaDoor
open Go.RowKit

theorem idx_of {l : List Nat} (hn : l.Nodup) {i : Nat} (hi : i < l.length) : l.idxOf (l.getD i 0) = i := by
  have e : l.getD i 0 = l[i] := by simp [List.getD, hi]
  rw [e]
  exact hn.idxOf_getElem i hi
theorem at_idx {l : List Nat} {x : Nat} (h : x ∈ l) : l.getD (l.idxOf x) 0 = x := by
  have hl := List.idxOf_lt_length_of_mem h
  simp [List.getD, hl]
theorem idx_eq {l : List Nat} (_hn : l.Nodup) {i x : Nat} (hi : i < l.length) (h : l.idxOf x = i) : l.getD i 0 = x := by
  have hx : x ∈ l := List.idxOf_lt_length_iff.1 (by omega)
  rw [← h]
  exact at_idx hx

/-- At which place of the order, of the first i; -1: none. -/
def posF (o : List Nat) (i j : Nat) : Int := if o.idxOf j < i then (o.idxOf j : Int) else -1
theorem posF_new {o : List Nat} (hn : o.Nodup) {i : Nat} (hi : i < o.length) : posF o i (o.getD i 0) = -1 := by
  unfold posF; rw [idx_of hn hi, if_neg (Nat.lt_irrefl i)]
theorem posF_next {o : List Nat} (hn : o.Nodup) {i : Nat} (hi : i < o.length) (j : Nat) : updV (posF o i) (o.getD i 0) (i : Int) j = posF o (i + 1) j := by
  unfold updV
  by_cases e : j = o.getD i 0
  · rw [if_pos e]
    unfold posF
    rw [e, idx_of hn hi, if_pos (Nat.lt_succ_self i)]
  · rw [if_neg e]
    unfold posF
    have hne : o.idxOf j ≠ i := fun h => e (idx_eq hn hi h).symm
    by_cases h : o.idxOf j < i
    · rw [if_pos h, if_pos (by omega)]
    · rw [if_neg h, if_neg (by omega)]
theorem posF_mem (o : List Nat) (j : Nat) : (0 ≤ posF o o.length j) ↔ j ∈ o := by
  unfold posF
  rw [← List.idxOf_lt_length_iff]
  split <;> omega

theorem nodup_rev {l : List Nat} (h : l.Nodup) : l.reverse.Nodup := List.pairwise_reverse.2 (List.Pairwise.imp (fun h => h.symm) h)
theorem idx_rev {l : List Nat} (hn : l.Nodup) {x : Nat} (h : x ∈ l) : l.reverse.idxOf x = l.length - 1 - l.idxOf x := by
  have hl := List.idxOf_lt_length_of_mem h
  have hr : l.reverse.Nodup := nodup_rev hn
  have hi : l.length - 1 - l.idxOf x < l.reverse.length := by simp; omega
  have := idx_of hr hi
  have e : l.reverse.getD (l.length - 1 - l.idxOf x) 0 = x := by
    have h2 := at_idx h
    simp only [List.getD] at h2 ⊢
    rw [List.getElem?_reverse (by omega), show l.length - 1 - (l.length - 1 - l.idxOf x) = l.idxOf x by omega]
    exact h2
  rw [e] at this
  exact this

/-- What the law on orders asks, plainly. -/
structure OrdOk (g : List (List Int)) (o : List Nat) (st : Nat → Nat) (lo : List (Nat × Nat)) : Prop where
  nodup : o.Nodup
  lt : ∀ v ∈ o, v < g.length
  first : 0 < o.length ∧ o.getD 0 0 = 0
  two : ∀ v, st v = 2 ↔ v ∈ o
  edge : ∀ i ∈ o, ∀ e, e < degW g i → ∀ y : Nat, edgeW g i e = y → y < g.length → y ∈ o ∧ (posF o o.length y ≤ posF o o.length i ↔ (i, y) ∈ lo)
  small : ∀ e ∈ lo, e.1 < g.length ∧ e.2 < g.length

theorem ord_ok (g : List (List Int)) (h0 : 0 < g.length) : OrdOk g (walkW g).left.reverse (walkW g).st (dedE (walkW g).loops) := by
  obtain ⟨hb, _⟩ := walk_bas g h0
  have hok := walk_ok g h0
  have hz := walk_zero g h0
  have he := walk_edges g h0
  have hn := hb.nodupL
  have hlen : 0 < (walkW g).left.length := by
    cases hl : (walkW g).left with
    | nil => rw [hl] at hz; cases hz
    | cons a r => simp
  refine ⟨nodup_rev hn, fun v hv => hok.lf v (List.mem_reverse.1 hv), ⟨by simp; exact hlen, ?_⟩, fun v => by rw [hb.two v, List.mem_reverse], fun i hi e hed y hy hyg => ?_, fun e h => hok.lp e ((dedE_mem _ _).1 h)⟩
  · rw [List.getLast?_eq_getElem?] at hz
    simp only [List.getD]
    rw [List.getElem?_reverse (by omega), Nat.sub_zero, hz]
    rfl
  · have hi2 := List.mem_reverse.1 hi
    obtain ⟨h1, h2⟩ := he i hi2 e hed y hy hyg
    refine ⟨List.mem_reverse.2 h1, ?_⟩
    rw [dedE_mem, ← h2]
    have a1 := List.idxOf_lt_length_of_mem h1
    have a2 := List.idxOf_lt_length_of_mem hi2
    unfold posF
    rw [idx_rev hn h1, idx_rev hn hi2, List.length_reverse, if_pos (by omega), if_pos (by omega)]
    omega

/-- A row of integers, as a function. -/
def AtR (b n : Nat) (F : Nat → Int) (w : World) : Prop := w.heap[b]? = some (.cells ((List.range n).map fun k => Value.int .i64 (F k)).toArray 3 (0, 0))
section
variable {b n : Nat} {F : Nat → Int} {w : World}
theorem AtR.cell (h : AtR b n F w) {j : Nat} (hj : j < n) : w.cell? ⟨b, j, none⟩ = some (.int .i64 (F j)) := by
  rw [cell_of_row w b j _ 3 (0, 0) h]
  simp [hj]
theorem AtR.frozen (h : AtR b n F w) (j : Nat) : w.frozen? ⟨b, j, none⟩ = false := frozen_of_row w b j _ 3 h
theorem AtR.lt (h : AtR b n F w) : b < w.heap.size := (Array.getElem?_eq_some_iff.1 h).1
theorem AtR.congr (h : AtR b n F w) {G : Nat → Int} (e : ∀ j, j < n → F j = G j) : AtR b n G w := by
  unfold AtR
  rw [show w.heap[b]? = _ from h]
  congr 3
  exact List.map_congr_left fun k hk => by rw [e k (by simpa using hk)]
theorem AtR.set (h : AtR b n F w) (j : Nat) (x : Int) : AtR b n (updV F j x) (w.setCell ⟨b, j, none⟩ (.int .i64 x)) := by
  unfold AtR
  rw [heap_setCell_same w b j _ 3 _ h]
  have e : ((List.range n).map fun k => Value.int .i64 (F k)).set j (.int .i64 x) = (List.range n).map fun k => Value.int .i64 (updV F j x k) := by
    rw [rws_set]
    refine List.map_congr_left fun k _ => ?_
    unfold updV
    split <;> rfl
  simp [e]
end

end Go.Proofs.YtchechdcebmoeaaDoor

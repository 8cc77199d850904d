/-
  A row of rows of integers, all the call's own.
-/
import Derived.Test.YtchechdcebmoeaaDoorFam
import Derived.Test.YtchechdcebmoeaaDoorFwD
namespace Go.Proofs.YtchechdcebmoeaaDoor
open Go.RowKit

/-- A row of rows of integers, all the call's own. -/
structure Rws (B b n : Nat) (vs : Nat → Value) (F : Nat → List Int) (w : World) : Prop where
  cb : w.heap[b]? = some (.cells ((List.range n).map vs).toArray 26 (0, 0))
  lo : B ≤ b
  fam : Fam B n vs F w

section
variable {B b n : Nat} {vs : Nat → Value} {F : Nat → List Int} {w : World}

theorem Rws.cell (h : Rws B b n vs F w) {j : Nat} (hj : j < n) : w.cell? ⟨b, j, none⟩ = some (vs j) := by
  rw [cell_of_row w b j _ 26 (0, 0) h.cb]
  simp [hj]
theorem Rws.frozen (h : Rws B b n vs F w) (j : Nat) : w.frozen? ⟨b, j, none⟩ = false := frozen_of_row w b j _ 26 h.cb
theorem Rws.lt (h : Rws B b n vs F w) : b < w.heap.size := (Array.getElem?_eq_some_iff.1 h.cb).1
theorem Rws.ne (h : Rws B b n vs F w) {j k : Nat} (hj : j < n) (hk : (vs j).ownBlock = some k) : k ≠ b := fun e => by
  obtain ⟨_, _, cur, hc⟩ := h.fam.lt hj hk
  rw [e, h.cb] at hc
  exact absurd (Obj.cells.inj (Option.some.inj hc)).2.1 (by decide)
theorem Rws.kept (h : Rws B b n vs F w) {w' : World} (hk : ∀ k, k < w.heap.size → w'.heap[k]? = w.heap[k]?) : Rws B b n vs F w' :=
  ⟨(hk b h.lt).trans h.cb, h.lo, h.fam.all hk⟩
theorem Rws.congr (h : Rws B b n vs F w) {G : Nat → List Int} (e : ∀ j, j < n → F j = G j) : Rws B b n vs G w := ⟨h.cb, h.lo, h.fam.congr e⟩

theorem rws_set (n : Nat) (vs : Nat → Value) (j : Nat) (v : Value) : ((List.range n).map vs).set j v = (List.range n).map (updV vs j v) := by
  refine List.ext_getElem (by simp) fun i h1 h2 => ?_
  rw [List.getElem_set]
  simp only [List.getElem_map, List.getElem_range]
  by_cases q : j = i
  · subst q; rw [if_pos rfl, updV_same]
  · rw [if_neg q, updV_other _ _ (fun e => q e.symm)]

/-- A number at the end of one row, and the row's new place. -/
theorem Rws.app (h : Rws B b n vs F w) {w1 w5 : World} {j : Nat} {v' : Value} {x : Int} (hj : j < n) (h1 : ∀ k, k < w.heap.size → w1.heap[k]? = w.heap[k]?) (hs : w.heap.size ≤ w1.heap.size)
    (ho : w5.ownsRow B 3 1 v' ((F j).length + 1) ((F j).map (Value.int .i64) ++ [.int .i64 x])) (hg : w1.grownBy w5 (vs j).ownBlock) (ha : v'.ownBlock = (vs j).ownBlock ∨ v'.ownBlock = some w1.heap.size) :
    w5.frozen? ⟨b, j, none⟩ = false ∧ w5.cell? ⟨b, j, none⟩ = some (vs j) ∧ Rws B b n (updV vs j v') (updV F j (F j ++ [x])) (w5.setCell ⟨b, j, none⟩ v') := by
  have hf := h.fam.app hj h1 hs ho hg ha
  have hb5 : w5.heap[b]? = some (.cells ((List.range n).map vs).toArray 26 (0, 0)) := by
    have := h.lt
    rw [hg.block b (by omega) (fun e => h.ne hj e.symm rfl), h1 b h.lt]
    exact h.cb
  refine ⟨frozen_of_row w5 b j _ 26 hb5, ?_, ?_, h.lo, hf.kept fun i k hi hk => heap_setCell_other w5 ⟨b, j, none⟩ k _ fun e => ?_⟩
  · rw [cell_of_row w5 b j _ 26 (0, 0) hb5]
    simp [hj]
  · rw [heap_setCell_same w5 b j _ 26 _ hb5]
    have := rws_set n vs j v'
    simp [this]
  · obtain ⟨_, _, cur, hc⟩ := hf.lt hi hk
    have e2 : k = b := e
    rw [e2, hb5] at hc
    exact absurd (Obj.cells.inj (Option.some.inj hc)).2.1 (by decide)

theorem Rws.below {W : World} {w1 w5 : World} {j : Nat} {v' : Value} (h : Rws B b n vs F w) (hB : W.heap.size = B) (hb : Below W.heap.size W w) (hj : j < n) (h1 : Below W.heap.size w w1) (hg : w1.grownBy w5 (vs j).ownBlock) : Below W.heap.size W (w5.setCell ⟨b, j, none⟩ v') :=
  ((hb.trans h1).grown hg (hb.trans h1).size (fun z hz => by rw [hB]; exact (h.fam.lt hj hz).1)).setCell (by rw [hB]; exact h.lo) _

/-- A graph that can be read. -/
theorem Rws.grf (h : Rws B b n vs F w) (hn : n ≤ maxLen) (hw : ∀ j, j < n → ∀ x ∈ F j, (Lit.int .i64 x).wf = true) : Grf w (some ⟨b, 0, none⟩) n n ((List.range n).map F) := by
  refine ⟨by simp, Nat.le_refl _, hn, fun _ => ⟨b, 0, rfl, h.lt, fun j hj => ?_⟩⟩
  obtain ⟨a, c, e, hr⟩ := h.fam.row hj (hw j hj)
  have hd : degW ((List.range n).map F) j = (F j).length := by simp [degW, List.getD, hj]
  have hg : ((List.range n).map F).getD j [] = F j := by simp [List.getD, hj]
  refine ⟨a, c, ?_, ?_⟩
  · rw [hd, Nat.zero_add, h.cell hj, e]
  · rw [hd, hg]; exact hr
end

/-- As it is made. -/
theorem rws_made {w w1 : World} {n : Nat} (h : w1.ownsRow w.heap.size 26 1 (.slice (some ⟨w.heap.size, 0, none⟩) n n) n (List.replicate n (.slice none 0 0))) : Rws w.heap.size w.heap.size n (fun _ => .slice none 0 0) (fun _ => []) w1 := by
  refine ⟨?_, Nat.le_refl _, Fam.nils _ _ _⟩
  rcases h.2 with ⟨hv, _⟩ | ⟨g, cap, cur, hv, hb, hg, hnc, hm, hcs, ht⟩
  · cases hv
  · cases hv
    rw [hg]
    have hl : cur.toList = List.replicate n (Value.slice none 0 0) := by
      rw [← ht, List.take_of_length_le (by simp only [Array.length_toList]; omega)]
    have hc : cur = (List.replicate n (Value.slice none 0 0)).toArray := by rw [← hl]
    rw [hc]
    congr 3
    refine List.ext_getElem (by simp) fun i h1 h2 => ?_
    simp

end Go.Proofs.YtchechdcebmoeaaDoor

/-
  flow.newWalk's boxes; meet.
-/
import Derived.Test.YtchechdcebmoeaaDoorFwA
import Derived.Test.YtchechdcebmoeaaDoorFBase
namespace Go.Proofs.YtchechdcebmoeaaDoor
open Go.RowKit

def pairsZ (l : List (Nat × Nat)) : List (Int × Int) := l.map fun e => ((e.1 : Int), (e.2 : Int))

theorem owns_kept1 {w w' : World} {N e k n : Nat} {v : Value} {xs : List Value} (h : w.ownsRow N e k v n xs) (hk : ∀ k, v.ownBlock = some k → w'.heap[k]? = w.heap[k]?) : w'.ownsRow N e k v n xs := by
  refine ⟨h.1, ?_⟩
  rcases h.2 with h2 | ⟨g, cap, cur, hv, hb, hg, h3⟩
  · exact .inl h2
  · exact .inr ⟨g, cap, cur, hv, hb, (hk g (by rw [hv]; rfl)).trans hg, h3⟩

theorem kv_kept1 {B : Nat} {bs : List Nat} {v : Value} {ks : List (Int × Int)} {w w' : World} (h : KV B bs v ks w) (hk : ∀ k, v.ownBlock = some k → w'.heap[k]? = w.heap[k]?) (hb : ∀ b ∈ bs, w'.heap[b]? = w.heap[b]?) : KV B bs v ks w' :=
  ⟨h.len, h.nodup, h.base, owns_kept1 h.own hk, fun j hj => (hb _ (by
    have hj2 : j < bs.length := by rw [h.len]; exact hj
    rw [show bs.getD j 0 = bs[j] by simp [List.getD, hj2]]
    exact List.getElem_mem hj2)).trans (h.at_ j hj)⟩

/-- The walk's boxes, but for its path. -/
structure Wb (B p q n : Nat) (gv : Value) (s : Wk) (bs : List Nat) (lv ov : Value) (w : World) : Prop where
  cp : w.heap[p]? = some (.cells #[gv, .slice (some ⟨q, 0, none⟩) n n, lv, ov] 165 (0, 0))
  cq : w.heap[q]? = some (.cells ((List.range n).map fun k => Value.int .i64 (s.st k)).toArray 3 (0, 0))
  left : w.ownsRow B 3 1 lv s.left.length (s.left.map fun (v : Nat) => Value.int .i64 (v : Int))
  loops : KV B bs ov (pairsZ s.loops) w
  lq : lv.ownBlock ≠ some q
  bq : q ∉ bs
  bl : ∀ b ∈ bs, lv.ownBlock ≠ some b
  bp : B ≤ p
  bq2 : B ≤ q

section
variable {B p q n : Nat} {gv : Value} {s : Wk} {bs : List Nat} {lv ov : Value} {w : World}
theorem Wb.cell (h : Wb B p q n gv s bs lv ov w) {j : Nat} (hj : j < n) : w.cell? ⟨q, j, none⟩ = some (.int .i64 (s.st j)) := by
  rw [cell_of_row w q j _ 3 (0, 0) h.cq]
  simp [hj]
theorem Wb.frozen (h : Wb B p q n gv s bs lv ov w) (j : Nat) : w.frozen? ⟨q, j, none⟩ = false := frozen_of_row w q j _ 3 h.cq
theorem Wb.ltp (h : Wb B p q n gv s bs lv ov w) : p < w.heap.size := (Array.getElem?_eq_some_iff.1 h.cp).1
theorem Wb.ltq (h : Wb B p q n gv s bs lv ov w) : q < w.heap.size := (Array.getElem?_eq_some_iff.1 h.cq).1
theorem Wb.pq (h : Wb B p q n gv s bs lv ov w) : p ≠ q := fun e => by
  have h1 := h.cp
  rw [e, h.cq] at h1
  have h2 := Obj.cells.inj (Option.some.inj h1)
  exact absurd h2.2.1 (by decide)
theorem Wb.ov_ne (h : Wb B p q n gv s bs lv ov w) {k : Nat} (hk : ov.ownBlock = some k) : k ≠ p ∧ k ≠ q ∧ lv.ownBlock ≠ some k ∧ k ∉ bs := by
  obtain ⟨cur, hc⟩ := own_typeM h.loops.own hk
  refine ⟨fun e => ?_, fun e => ?_, fun e => ?_, fun e => ?_⟩
  · subst e; rw [h.cp] at hc; cases hc
  · subst e; rw [h.cq] at hc; cases hc
  · obtain ⟨cur2, hc2⟩ := own_typeM h.left e
    rw [hc] at hc2; cases hc2
  · obtain ⟨j, hj, rfl⟩ := List.getElem_of_mem e
    have := h.loops.at_ j (by rw [← h.loops.len]; exact hj)
    rw [show bs.getD j 0 = bs[j] by simp [List.getD, hj], hc] at this
    cases this
theorem Wb.lv_ne (h : Wb B p q n gv s bs lv ov w) {k : Nat} (hk : lv.ownBlock = some k) : k ≠ p ∧ k ≠ q ∧ ov.ownBlock ≠ some k ∧ k ∉ bs := by
  obtain ⟨cur, hc⟩ := own_typeM h.left hk
  refine ⟨fun e => ?_, fun e => h.lq (by rw [hk, e]), fun e => (h.ov_ne e).2.2.1 hk, fun e => h.bl k e hk⟩
  subst e; rw [h.cp] at hc; cases hc
theorem Wb.bs_at (h : Wb B p q n gv s bs lv ov w) {b : Nat} (hb : b ∈ bs) : b ≠ p ∧ b ≠ q ∧ b < w.heap.size := by
  obtain ⟨j, hj, rfl⟩ := List.getElem_of_mem hb
  have := h.loops.at_ j (by rw [← h.loops.len]; exact hj)
  rw [show bs.getD j 0 = bs[j] by simp [List.getD, hj]] at this
  refine ⟨fun e => ?_, fun e => h.bq (by rw [← e]; exact hb), (Array.getElem?_eq_some_iff.1 this).1⟩
  rw [e, h.cp] at this; cases this

/-- What leaves these blocks leaves the boxes. -/
theorem Wb.kept (h : Wb B p q n gv s bs lv ov w) {w' : World} (hk : ∀ k, k < w.heap.size → w'.heap[k]? = w.heap[k]?) : Wb B p q n gv s bs lv ov w' :=
  ⟨(hk p h.ltp).trans h.cp, (hk q h.ltq).trans h.cq, owns_stays h.left fun k _ hk2 => hk k hk2, h.loops.kept hk, h.lq, h.bq, h.bl, h.bp, h.bq2⟩

theorem Wb.entered (h : Wb B p q n gv s bs lv ov w) (j x : Nat) : Wb B p q n gv ⟨setN s.st j x, s.left, s.loops, s.path⟩ bs lv ov (w.setCell ⟨q, j, none⟩ (.int .i64 x)) := by
  have ho : ∀ k, k ≠ q → (w.setCell ⟨q, j, none⟩ (.int .i64 x)).heap[k]? = w.heap[k]? := fun k hk => heap_setCell_other w ⟨q, j, none⟩ k _ hk
  refine ⟨(ho p h.pq).trans h.cp, ?_, ?_, ?_, h.lq, h.bq, h.bl, h.bp, h.bq2⟩
  · rw [heap_setCell_same w q j _ 3 _ h.cq]
    have e : ((List.range n).map fun k => Value.int .i64 (s.st k)).set j (.int .i64 x) = (List.range n).map fun k => Value.int .i64 ((setN s.st j x k : Nat) : Int) := by
      refine List.ext_getElem (by simp) fun i h1 h2 => ?_
      rw [List.getElem_set]
      simp only [List.getElem_map, List.getElem_range]
      by_cases e : j = i
      · subst e; rw [if_pos rfl, setN_same]
      · rw [if_neg e, setN_other _ _ (fun e2 => e e2.symm)]
    simp [e]
  · exact owns_kept1 h.left (fun k hk => ho k (h.lv_ne hk).2.1)
  · exact kv_kept1 h.loops (fun k hk => ho k (h.ov_ne hk).2.1) (fun b hb => ho b (h.bs_at hb).2.1)
end

end Go.Proofs.YtchechdcebmoeaaDoor

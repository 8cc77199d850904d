/-
  Package prog: named, at a class's field.
-/
import Derived.Test.YtjffbojgdemooaaDoorPrg2
namespace Go.Proofs.YtjffbojgdemooaaDoor
open Go.RowKit

set_option maxHeartbeats 2000000 in
set_option maxRecDepth 100000 in
theorem named_no (ca : Option Addr) (nc cc : Nat) (ma : Option Addr) (nm mc : Nat) (f : Nat → ByteArray) (ps ls rt : ByteArray) (co : Option Addr) (cl cp : Nat) (op A B N : Int) (w : World) (hC : Cls w ca nc cc f) (_hnc : nc ≤ 1000000) (hop : op = 25 ∨ op = 26) (hA : ¬ (0 ≤ A ∧ A < nc)) :
    Calls Tryd.prog 110 #[.agg #[.slice ca nc cc, .slice ma nm mc], .agg #[.string ps, .string ls, .string rt, .slice co cl cp], .agg #[.int .i64 op, .int .i64 A, .int .i64 B, .int .i64 N]] w (BoolPost (inside A nc && inside B (f A.toNat).size) w) := by
  have hb := boxes3_below ca nc cc ma nm mc ps ls rt co cl cp op A B N w
  obtain ⟨W, hW⟩ : ∃ W, boxes3 ca nc cc ma nm mc ps ls rt co cl cp op A B N w = W := ⟨_, rfl⟩
  rw [hW] at hb
  have q0 : W.heap[w.heap.size]? = some (.cells #[.slice ca nc cc, .slice ma nm mc] 46 (0, 0)) := by
    rw [← hW]; unfold boxes3
    rw [Below.heap_alloc _ _ _ (by simp; omega), Below.heap_alloc _ _ _ (by simp)]
    exact heap_alloc_new w _
  have q2 : W.heap[w.heap.size + 2]? = some (.cells #[.int .i64 op, .int .i64 A, .int .i64 B, .int .i64 N] 67 (0, 0)) := by
    rw [← hW]; unfold boxes3
    have := heap_alloc_new ((w.alloc (.cells #[.slice ca nc cc, .slice ma nm mc] 46)).alloc (.cells #[.string ps, .string ls, .string rt, .slice co cl cp] 62)) (.cells #[.int .i64 op, .int .i64 A, .int .i64 B, .int .i64 N] 67)
    simpa using this
  have p0 : W.cell? ⟨w.heap.size, 0, none⟩ = some (.slice ca nc cc) := (cell_of_row _ w.heap.size 0 _ 46 (0, 0) q0).trans rfl
  have i0 : W.cell? ⟨w.heap.size + 1 + 1, 0, none⟩ = some (.int .i64 op) := (cell_of_row _ (w.heap.size + 2) 0 _ 67 (0, 0) q2).trans rfl
  have i1 : W.cell? ⟨w.heap.size + 1 + 1, 1, none⟩ = some (.int .i64 A) := (cell_of_row _ (w.heap.size + 2) 1 _ 67 (0, 0) q2).trans rfl
  have i2 : W.cell? ⟨w.heap.size + 1 + 1, 2, none⟩ = some (.int .i64 B) := (cell_of_row _ (w.heap.size + 2) 2 _ 67 (0, 0) q2).trans rfl
  have HB := Lib.hid hb
  have HC := Lib.hid (hC.below hb)
  unfold boxes3 at hW
  clear q0 q2 hb hC
  have K : ∀ x y nq, Hid (Calls Tryd.prog 109 #[.int .i64 x, .int .i64 y] (W.drewN nq) fun e w' => e = .returned (.bool (inside x y)) ∧ w' = W.drewN nq) := fun x y nq => Lib.hid ((within_any x y _).mono (by rintro e w' ⟨h, rfl⟩; exact ⟨h, rfl⟩))
  have hin : inside A nc = false := by simp only [inside]; simpa using hA
  rw [hin, Bool.false_and]
  have K1 : ∀ nq, Hid (Calls Tryd.prog 109 #[.int .i64 A, .int .i64 nc] (W.drewN nq) fun e w' => e = .returned (.bool false) ∧ w' = W.drewN nq) := fun nq => by have h := K A nc nq; rwa [hin] at h
  clear hA HC K hin
  rcases hop with rfl | rfl
  all_goals
    go_enter Tryd.func110, Tryd.ntmps110
    go_wp2_with fail
    go_quiet ((go_at_call 109; exact Calls.quiet_of_same (K1 _).out))
    go_wp2
    all_goals
      go_ret
      exact ⟨rfl, below_drewN HB.out _⟩

end Go.Proofs.YtjffbojgdemooaaDoor

/-
  The reference's fault at a place.
-/
import Derived.Test.YtjcklfbpdjfibaaDoorScr2
namespace Go.Proofs.YtjcklfbpdjfibaaDoor
open Go.RowKit

def PlacedPost (c pos : Int) (w : World) (e : Ending) (w' : World) : Prop := ∃ g, e = .returned (.agg #[.int .i64 c, .slice (some ⟨g, 0, none⟩) 1 1]) ∧ w'.cell? ⟨g, 0, none⟩ = some (.int .i64 pos) ∧ Below w.heap.size w w'

theorem placed_any (c pos : Int) (w : World) (hc : c ≠ 0) :
    Calls Tryd.prog 60 #[.int .i64 c, .int .i64 pos] w (PlacedPost c pos w) := by
  have t1 : (c == 0) = false := by simpa using hc
  clear hc
  go_enter Tryd.func60, Tryd.ntmps60
  go_wp2_with fail
  have hX := heap_alloc_new w (Obj.cells #[Value.int IntKind.i64 c, Value.slice (some ⟨w.heap.size + 1, 0, none⟩) 1 1] 53)
  have hs : (w.alloc (Obj.cells #[Value.int IntKind.i64 c, Value.slice (some ⟨w.heap.size + 1, 0, none⟩) 1 1] 53)).heap.size = w.heap.size + 1 := by simp
  have hY := heap_alloc_new (w.alloc (Obj.cells #[Value.int IntKind.i64 c, Value.slice (some ⟨w.heap.size + 1, 0, none⟩) 1 1] 53)) (Obj.cells #[Value.int IntKind.i64 pos] 3)
  rw [hs] at hY
  have hb : Below w.heap.size w ((w.alloc (Obj.cells #[Value.int IntKind.i64 c, Value.slice (some ⟨w.heap.size + 1, 0, none⟩) 1 1] 53)).alloc (Obj.cells #[Value.int IntKind.i64 pos] 3)) := ((Below.refl _ _).alloc (Nat.le_refl _) _).alloc (by simp) _
  have hX2 : ((w.alloc (Obj.cells #[Value.int IntKind.i64 c, Value.slice (some ⟨w.heap.size + 1, 0, none⟩) 1 1] 53)).alloc (Obj.cells #[Value.int IntKind.i64 pos] 3)).heap[w.heap.size]? = _ := (Below.heap_alloc _ _ _ (by simp)).trans hX
  have f0 := (cell_of_row _ w.heap.size 0 _ 53 (0, 0) hX2).trans rfl
  have f1 := (cell_of_row _ w.heap.size 1 _ 53 (0, 0) hX2).trans rfl
  exact bodyPost_ret (v := .agg #[.int .i64 c, .slice (some ⟨w.heap.size + 1, 0, none⟩) 1 1]) (by simp [results, Tryd.results60, go_sem, f0, f1]) rfl ⟨_, rfl, (cell_of_row _ (w.heap.size + 1) 0 _ 3 (0, 0) hY).trans rfl, hb⟩

end Go.Proofs.YtjcklfbpdjfibaaDoor

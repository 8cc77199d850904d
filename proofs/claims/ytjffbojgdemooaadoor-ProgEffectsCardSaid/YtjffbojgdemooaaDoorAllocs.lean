/-
  Several blocks made one behind the other; what lies in them.
-/
import Derived.Test.YtjffbojgdemooaaDoorPrg7
namespace Go.Proofs.YtjffbojgdemooaaDoor
open Go.RowKit

def allocs (l : List Obj) (w : World) : World := l.foldl World.alloc w

theorem allocs_below : ∀ (l : List Obj) (w : World), Below w.heap.size w (allocs l w)
  | [], w => Below.refl _ _
  | o :: l, w => ((Below.refl _ _).alloc (Nat.le_refl _) o).trans ((allocs_below l (w.alloc o)).mono (by simp))

theorem allocs_at : ∀ (l : List Obj) (w : World) (i : Nat) (o : Obj), l[i]? = some o → (allocs l w).heap[w.heap.size + i]? = some o
  | [], w, i, o, h => by simp at h
  | x :: l, w, 0, o, h => by
    have h1 := (allocs_below l (w.alloc x)).block w.heap.size (by simp)
    have h2 := heap_alloc_new w x
    simp at h
    subst h
    exact h1.trans h2
  | x :: l, w, i + 1, o, h => by
    have h1 := allocs_at l (w.alloc x) i o (by simpa using h)
    have h2 : (w.alloc x).heap.size + i = w.heap.size + (i + 1) := by simp; omega
    rw [h2] at h1
    exact h1

theorem size_allocs (l : List Obj) (w : World) : (allocs l w).heap.size = w.heap.size + l.length := by
  induction l generalizing w with
  | nil => rfl
  | cons o l ih =>
    show (allocs l (w.alloc o)).heap.size = _
    rw [ih]
    simp
    omega

theorem add_zero_off (b k : Nat) : (⟨b, 0, none⟩ : Addr).add k = ⟨b, k, none⟩ := by
  unfold Addr.add
  split
  · rename_i h0; rw [h0]
  · simp

/-- A block of instructions. -/
theorem picks_of {w : World} {b len : Nat} {cs : Array Value} {T : TypeId} {gv : Nat → Nat → Int} (h : w.heap[b]? = some (.cells cs T (0, 0))) (hl : len ≤ 1000000) (hc : ∀ i j, i < len → j < 4 → cs[i * 4 + j]? = some (.int .i64 (gv i j))) : Picks w (some ⟨b, 0, none⟩) len len gv := by
  refine ⟨Nat.le_refl _, by unfold maxLen; omega, fun h => (by cases h), fun ad had i j hi hj => ?_⟩
  cases had
  rw [add_zero_off, cell_of_row w b _ cs T (0, 0) h]
  exact hc i j hi hj

theorem cls_of {w : World} {b len : Nat} {cs : Array Value} {T : TypeId} {f : Nat → ByteArray} (h : w.heap[b]? = some (.cells cs T (0, 0))) (hl : len ≤ 1000000) (hc : ∀ i, i < len → cs[i]? = some (.string (f i))) : Cls w (some ⟨b, 0, none⟩) len len f := by
  refine ⟨Nat.le_refl _, by unfold maxLen; omega, fun h => (by cases h), fun ad had i hi => ?_⟩
  cases had
  rw [add_zero_off, cell_of_row w b _ cs T (0, 0) h]
  exact hc i hi

theorem cls_nil (w : World) (f : Nat → ByteArray) : Cls w none 0 0 f := ⟨Nat.le_refl _, Nat.zero_le _, fun _ => rfl, fun ad h => (by cases h)⟩

end Go.Proofs.YtjffbojgdemooaaDoor

/-
  Package script: Unpack of any number of options.
-/
import Derived.Test.YtjcklfbpdjfibaaDoorUnp0
import Derived.IntWalk
namespace Go.Proofs.YtjcklfbpdjfibaaDoor
open Go.RowKit

def unV (q : Nat) (W : World) (y0 y1 y2 y3 y4 : Bool) (R : Int) : World := ((((((W.setCell ⟨q, 0, none⟩ (.bool y0)).setCell ⟨q, 1, none⟩ (.bool y1)).setCell ⟨q, 2, none⟩ (.bool y2)).setCell ⟨q, 3, none⟩ (.bool y3)).setCell ⟨q, 4, none⟩ (.bool y4)).setCell ⟨q, 5, none⟩ (.int .i64 R)).drew

theorem unV_row (q : Nat) (W : World) (y0 y1 y2 y3 y4 : Bool) (R : Int) (h : W.heap[q]? = some (Obj.cells #[Value.bool false, Value.bool false, Value.bool false, Value.bool false, Value.bool false, Value.int IntKind.i64 0] 90 (0, 0))) :
    ((((((W.setCell ⟨q, 0, none⟩ (.bool y0)).setCell ⟨q, 1, none⟩ (.bool y1)).setCell ⟨q, 2, none⟩ (.bool y2)).setCell ⟨q, 3, none⟩ (.bool y3)).setCell ⟨q, 4, none⟩ (.bool y4)).setCell ⟨q, 5, none⟩ (.int .i64 R)).heap[q]? = some (Obj.cells #[Value.bool y0, Value.bool y1, Value.bool y2, Value.bool y3, Value.bool y4, Value.int IntKind.i64 R] 90 (0, 0)) := by
  have h1 : (W.setCell ⟨q, 0, none⟩ (.bool y0)).heap[q]? = some (Obj.cells #[Value.bool y0, Value.bool false, Value.bool false, Value.bool false, Value.bool false, Value.int IntKind.i64 0] 90 (0, 0)) := (heap_setCell_same W q 0 _ 90 _ h).trans rfl
  have h2 : ((W.setCell ⟨q, 0, none⟩ (.bool y0)).setCell ⟨q, 1, none⟩ (.bool y1)).heap[q]? = some (Obj.cells #[Value.bool y0, Value.bool y1, Value.bool false, Value.bool false, Value.bool false, Value.int IntKind.i64 0] 90 (0, 0)) := (heap_setCell_same (W.setCell ⟨q, 0, none⟩ (.bool y0)) q 1 _ 90 _ h1).trans rfl
  have h3 : (((W.setCell ⟨q, 0, none⟩ (.bool y0)).setCell ⟨q, 1, none⟩ (.bool y1)).setCell ⟨q, 2, none⟩ (.bool y2)).heap[q]? = some (Obj.cells #[Value.bool y0, Value.bool y1, Value.bool y2, Value.bool false, Value.bool false, Value.int IntKind.i64 0] 90 (0, 0)) := (heap_setCell_same ((W.setCell ⟨q, 0, none⟩ (.bool y0)).setCell ⟨q, 1, none⟩ (.bool y1)) q 2 _ 90 _ h2).trans rfl
  have h4 : ((((W.setCell ⟨q, 0, none⟩ (.bool y0)).setCell ⟨q, 1, none⟩ (.bool y1)).setCell ⟨q, 2, none⟩ (.bool y2)).setCell ⟨q, 3, none⟩ (.bool y3)).heap[q]? = some (Obj.cells #[Value.bool y0, Value.bool y1, Value.bool y2, Value.bool y3, Value.bool false, Value.int IntKind.i64 0] 90 (0, 0)) := (heap_setCell_same (((W.setCell ⟨q, 0, none⟩ (.bool y0)).setCell ⟨q, 1, none⟩ (.bool y1)).setCell ⟨q, 2, none⟩ (.bool y2)) q 3 _ 90 _ h3).trans rfl
  have h5 : (((((W.setCell ⟨q, 0, none⟩ (.bool y0)).setCell ⟨q, 1, none⟩ (.bool y1)).setCell ⟨q, 2, none⟩ (.bool y2)).setCell ⟨q, 3, none⟩ (.bool y3)).setCell ⟨q, 4, none⟩ (.bool y4)).heap[q]? = some (Obj.cells #[Value.bool y0, Value.bool y1, Value.bool y2, Value.bool y3, Value.bool y4, Value.int IntKind.i64 0] 90 (0, 0)) := (heap_setCell_same ((((W.setCell ⟨q, 0, none⟩ (.bool y0)).setCell ⟨q, 1, none⟩ (.bool y1)).setCell ⟨q, 2, none⟩ (.bool y2)).setCell ⟨q, 3, none⟩ (.bool y3)) q 4 _ 90 _ h4).trans rfl
  have h6 : ((((((W.setCell ⟨q, 0, none⟩ (.bool y0)).setCell ⟨q, 1, none⟩ (.bool y1)).setCell ⟨q, 2, none⟩ (.bool y2)).setCell ⟨q, 3, none⟩ (.bool y3)).setCell ⟨q, 4, none⟩ (.bool y4)).setCell ⟨q, 5, none⟩ (.int .i64 R)).heap[q]? = some (Obj.cells #[Value.bool y0, Value.bool y1, Value.bool y2, Value.bool y3, Value.bool y4, Value.int IntKind.i64 R] 90 (0, 0)) := (heap_setCell_same (((((W.setCell ⟨q, 0, none⟩ (.bool y0)).setCell ⟨q, 1, none⟩ (.bool y1)).setCell ⟨q, 2, none⟩ (.bool y2)).setCell ⟨q, 3, none⟩ (.bool y3)).setCell ⟨q, 4, none⟩ (.bool y4)) q 5 _ 90 _ h5).trans rfl
  exact h6

theorem unV_below (q B : Nat) (W w : World) (y0 y1 y2 y3 y4 : Bool) (R : Int) (h : Below B w W) (hq : B ≤ q) : Below B w (unV q W y0 y1 y2 y3 y4 R) := by
  have k1 : Below B w (W.setCell ⟨q, 0, none⟩ (.bool y0)) := h.setCell hq _
  have k2 := k1.setCell (p := ⟨q, 1, none⟩) hq (.bool y1)
  have k3 := k2.setCell (p := ⟨q, 2, none⟩) hq (.bool y2)
  have k4 := k3.setCell (p := ⟨q, 3, none⟩) hq (.bool y3)
  have k5 := k4.setCell (p := ⟨q, 4, none⟩) hq (.bool y4)
  have k6 := k5.setCell (p := ⟨q, 5, none⟩) hq (.int .i64 R)
  unfold unV
  exact below_drew k6

set_option maxHeartbeats 2000000 in
theorem unpack_any (n : Nat) (w : World) (hn : n < 512) : Calls Tryd.prog 72 #[.int .i64 (n : Int)] w fun e w' => e = .returned (.agg #[.bool (bitN n 0), .bool (bitN n 1), .bool (bitN n 2), .bool (bitN n 3), .bool (bitN n 4), .int .i64 (1 + (n : Int) / 32 % 16)]) ∧ Below w.heap.size w w' := by
  go_enter Tryd.func72, Tryd.ntmps72
  go_wp2_with fail
  have hal1 := heap_alloc_new w (Obj.cells #[Value.int IntKind.i64 (n : Int)] 3)
  have hal2 := heap_alloc_new (w.alloc (Obj.cells #[Value.int IntKind.i64 (n : Int)] 3)) (Obj.cells #[Value.bool false, Value.bool false, Value.bool false, Value.bool false, Value.bool false, Value.int IntKind.i64 0] 90)
  have hb : Below w.heap.size w ((w.alloc (Obj.cells #[Value.int IntKind.i64 (n : Int)] 3)).alloc (Obj.cells #[Value.bool false, Value.bool false, Value.bool false, Value.bool false, Value.bool false, Value.int IntKind.i64 0] 90)) := ((Below.refl _ _).alloc (Nat.le_refl _) _).alloc (by simp) _
  have hal3 : ((w.alloc (Obj.cells #[Value.int IntKind.i64 (n : Int)] 3)).alloc (Obj.cells #[Value.bool false, Value.bool false, Value.bool false, Value.bool false, Value.bool false, Value.int IntKind.i64 0] 90)).heap[w.heap.size]? = some (Obj.cells #[Value.int IntKind.i64 (n : Int)] 3) := (Below.heap_alloc _ _ _ (by simp)).trans hal1
  rw [World.size_alloc] at hal2
  have hsz : ((w.alloc (Obj.cells #[Value.int IntKind.i64 (n : Int)] 3)).alloc (Obj.cells #[Value.bool false, Value.bool false, Value.bool false, Value.bool false, Value.bool false, Value.int IntKind.i64 0] 90)).heap.size = w.heap.size + 2 := by simp
  generalize ((w.alloc (Obj.cells #[Value.int IntKind.i64 (n : Int)] 3)).alloc (Obj.cells #[Value.bool false, Value.bool false, Value.bool false, Value.bool false, Value.bool false, Value.int IntKind.i64 0] 90)) = W at *
  have c0 : W.cell? ⟨w.heap.size, 0, none⟩ = some (.int .i64 (n : Int)) := (cell_of_row W w.heap.size 0 _ 3 (0, 0) hal3).trans rfl
  have r0 : W.cell? ⟨w.heap.size + 1, 0, none⟩ = some (.bool false) := (cell_of_row W (w.heap.size + 1) 0 _ 90 (0, 0) hal2).trans rfl
  have r1 : W.cell? ⟨w.heap.size + 1, 1, none⟩ = some (.bool false) := (cell_of_row W (w.heap.size + 1) 1 _ 90 (0, 0) hal2).trans rfl
  have r2 : W.cell? ⟨w.heap.size + 1, 2, none⟩ = some (.bool false) := (cell_of_row W (w.heap.size + 1) 2 _ 90 (0, 0) hal2).trans rfl
  have r3 : W.cell? ⟨w.heap.size + 1, 3, none⟩ = some (.bool false) := (cell_of_row W (w.heap.size + 1) 3 _ 90 (0, 0) hal2).trans rfl
  have r4 : W.cell? ⟨w.heap.size + 1, 4, none⟩ = some (.bool false) := (cell_of_row W (w.heap.size + 1) 4 _ 90 (0, 0) hal2).trans rfl
  have r5 : W.cell? ⟨w.heap.size + 1, 5, none⟩ = some (.int .i64 0) := (cell_of_row W (w.heap.size + 1) 5 _ 90 (0, 0) hal2).trans rfl
  have f0 := frozen_of_row W (w.heap.size + 1) 0 _ 90 hal2
  have f1 := frozen_of_row W (w.heap.size + 1) 1 _ 90 hal2
  have f2 := frozen_of_row W (w.heap.size + 1) 2 _ 90 hal2
  have f3 := frozen_of_row W (w.heap.size + 1) 3 _ 90 hal2
  have f4 := frozen_of_row W (w.heap.size + 1) 4 _ 90 hal2
  have f5 := frozen_of_row W (w.heap.size + 1) 5 _ 90 hal2
  have HB := Lib.hid hb
  have HROW := Lib.hid hal2
  clear hal1 hal2 hal3 hb hsz
  generalize hq : w.heap.size + 1 = q at *
  generalize hr : w.heap.size = r at *
  have HQ := Lib.hid hq
  have HR := Lib.hid hr
  clear hq hr
  have KG : Hid (∀ i : Int, 0 ≤ i → i ≤ 4 → Calls Tryd.prog 121 #[.int .i64 i, .pointer (some ⟨r, 0, none⟩)] W.drew fun e w' => e = .returned (.bool (bitN n i.toNat)) ∧ w' = W.drew) := Lib.hid fun i h0 h4 => bitN_lit i i.toNat n r W.drew (by omega) (by omega) hn c0
  obtain ⟨y0, b0⟩ : ∃ y, bitN n 0 = y := ⟨_, rfl⟩
  obtain ⟨y1, b1⟩ : ∃ y, bitN n 1 = y := ⟨_, rfl⟩
  obtain ⟨y2, b2⟩ : ∃ y, bitN n 2 = y := ⟨_, rfl⟩
  obtain ⟨y3, b3⟩ : ∃ y, bitN n 3 = y := ⟨_, rfl⟩
  obtain ⟨y4, b4⟩ : ∃ y, bitN n 4 = y := ⟨_, rfl⟩
  obtain ⟨R, hR⟩ : ∃ R, (n : Int) / 32 % 16 = R := ⟨_, rfl⟩
  have z1 : bits BinOp.and IntKind.i64 ((n : Int) / 32) 15 = R := by rw [low4U, hR]
  have z2 : IntKind.i64.wrap (1 + R) = 1 + R := IntWalk.i64_in _ (by omega)
  go_region_with (go_at_call 121; refine (KG.out _ (by decide) (by decide)).mono ?_; rintro e w' ⟨rfl, rfl⟩)
  all_goals go_wp2_with fail
  all_goals
    have hrow := unV_row q W y0 y1 y2 y3 y4 (1 + R) HROW.out
    have hbel := unV_below q r W w y0 y1 y2 y3 y4 (1 + R) HB.out (by have := HQ.out; omega)
    have x0 := (drew_cell _ ⟨q, 0, none⟩).trans ((cell_of_row _ q 0 _ 90 (0, 0) hrow).trans rfl)
    have x1 := (drew_cell _ ⟨q, 1, none⟩).trans ((cell_of_row _ q 1 _ 90 (0, 0) hrow).trans rfl)
    have x2 := (drew_cell _ ⟨q, 2, none⟩).trans ((cell_of_row _ q 2 _ 90 (0, 0) hrow).trans rfl)
    have x3 := (drew_cell _ ⟨q, 3, none⟩).trans ((cell_of_row _ q 3 _ 90 (0, 0) hrow).trans rfl)
    have x4 := (drew_cell _ ⟨q, 4, none⟩).trans ((cell_of_row _ q 4 _ 90 (0, 0) hrow).trans rfl)
    have x5 := (drew_cell _ ⟨q, 5, none⟩).trans ((cell_of_row _ q 5 _ 90 (0, 0) hrow).trans rfl)
    have hbel2 : Below w.heap.size w (unV q W y0 y1 y2 y3 y4 (1 + R)) := by rw [HR.out]; exact hbel
    clear hrow hbel
    unfold unV at hbel2
    exact bodyPost_ret (v := .agg #[.bool y0, .bool y1, .bool y2, .bool y3, .bool y4, .int .i64 (1 + R)]) (by simp [results, Tryd.results72, go_sem, x0, x1, x2, x3, x4, x5]) rfl ⟨by rw [b0, b1, b2, b3, b4, hR], hbel2⟩

end Go.Proofs.YtjcklfbpdjfibaaDoor

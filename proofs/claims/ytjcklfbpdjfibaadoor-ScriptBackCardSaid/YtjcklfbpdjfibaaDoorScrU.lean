/-
  Package script: Unpack and Pack at the chapter's example.
-/
import Derived.Test.YtjcklfbpdjfibaaDoorScr2
import Derived.Test.YtjcklfbpdjfibaaDoorPutS
import Derived.Test.YtjcklfbpdjfibaaDoorSameB
namespace Go.Proofs.YtjcklfbpdjfibaaDoor
open Go.RowKit

def bitOf (i : Nat) : Bool := decide (33 / 2 ^ i % 2 = 1)

theorem bit_any (i B : Nat) (w : World) (hi : i ≤ 4) (hc : w.cell? ⟨B, 0, none⟩ = some (.int .i64 33)) :
    Calls Tryd.prog 121 #[.int .i64 i, .pointer (some ⟨B, 0, none⟩)] w fun e w' => e = .returned (.bool (bitOf i)) ∧ w' = w := by
  match i, hi with
  | 0, _ =>
    go_enter Tryd.func121, Tryd.ntmps121
    go_wp2
    go_ret
    exact ⟨rfl, rfl⟩
  | 1, _ =>
    go_enter Tryd.func121, Tryd.ntmps121
    go_wp2
    go_ret
    exact ⟨rfl, rfl⟩
  | 2, _ =>
    go_enter Tryd.func121, Tryd.ntmps121
    go_wp2
    go_ret
    exact ⟨rfl, rfl⟩
  | 3, _ =>
    go_enter Tryd.func121, Tryd.ntmps121
    go_wp2
    go_ret
    exact ⟨rfl, rfl⟩
  | 4, _ =>
    go_enter Tryd.func121, Tryd.ntmps121
    go_wp2
    go_ret
    exact ⟨rfl, rfl⟩

theorem bit_lit (i : Int) (k B : Nat) (w : World) (hi : i = k) (hk : k ≤ 4) (hc : w.cell? ⟨B, 0, none⟩ = some (.int .i64 33)) :
    Calls Tryd.prog 121 #[.int .i64 i, .pointer (some ⟨B, 0, none⟩)] w fun e w' => e = .returned (.bool (bitOf k)) ∧ w' = w := by
  subst hi; exact bit_any k B w hk hc

def unW (q : Nat) (W : World) : World := ((((((W.setCell ⟨q, 0, none⟩ (.bool true)).setCell ⟨q, 1, none⟩ (.bool false)).setCell ⟨q, 2, none⟩ (.bool false)).setCell ⟨q, 3, none⟩ (.bool false)).setCell ⟨q, 4, none⟩ (.bool false)).setCell ⟨q, 5, none⟩ (.int .i64 2)).drew

theorem drew_cell (X : World) (p : Addr) : X.drew.cell? p = X.cell? p := rfl

theorem un_row (q : Nat) (W : World) (h : W.heap[q]? = some (Obj.cells #[Value.bool false, Value.bool false, Value.bool false, Value.bool false, Value.bool false, Value.int IntKind.i64 0] 90 (0, 0))) :
    ((((((W.setCell ⟨q, 0, none⟩ (.bool true)).setCell ⟨q, 1, none⟩ (.bool false)).setCell ⟨q, 2, none⟩ (.bool false)).setCell ⟨q, 3, none⟩ (.bool false)).setCell ⟨q, 4, none⟩ (.bool false)).setCell ⟨q, 5, none⟩ (.int .i64 2)).heap[q]? = some (Obj.cells #[Value.bool true, Value.bool false, Value.bool false, Value.bool false, Value.bool false, Value.int IntKind.i64 2] 90 (0, 0)) := by
  have h1 : (W.setCell ⟨q, 0, none⟩ (.bool true)).heap[q]? = some (Obj.cells #[Value.bool true, Value.bool false, Value.bool false, Value.bool false, Value.bool false, Value.int IntKind.i64 0] 90 (0, 0)) := (heap_setCell_same W q 0 _ 90 _ h).trans rfl
  have h2 : ((W.setCell ⟨q, 0, none⟩ (.bool true)).setCell ⟨q, 1, none⟩ (.bool false)).heap[q]? = some (Obj.cells #[Value.bool true, Value.bool false, Value.bool false, Value.bool false, Value.bool false, Value.int IntKind.i64 0] 90 (0, 0)) := (heap_setCell_same (W.setCell ⟨q, 0, none⟩ (.bool true)) q 1 _ 90 _ h1).trans rfl
  have h3 : (((W.setCell ⟨q, 0, none⟩ (.bool true)).setCell ⟨q, 1, none⟩ (.bool false)).setCell ⟨q, 2, none⟩ (.bool false)).heap[q]? = some (Obj.cells #[Value.bool true, Value.bool false, Value.bool false, Value.bool false, Value.bool false, Value.int IntKind.i64 0] 90 (0, 0)) := (heap_setCell_same ((W.setCell ⟨q, 0, none⟩ (.bool true)).setCell ⟨q, 1, none⟩ (.bool false)) q 2 _ 90 _ h2).trans rfl
  have h4 : ((((W.setCell ⟨q, 0, none⟩ (.bool true)).setCell ⟨q, 1, none⟩ (.bool false)).setCell ⟨q, 2, none⟩ (.bool false)).setCell ⟨q, 3, none⟩ (.bool false)).heap[q]? = some (Obj.cells #[Value.bool true, Value.bool false, Value.bool false, Value.bool false, Value.bool false, Value.int IntKind.i64 0] 90 (0, 0)) := (heap_setCell_same (((W.setCell ⟨q, 0, none⟩ (.bool true)).setCell ⟨q, 1, none⟩ (.bool false)).setCell ⟨q, 2, none⟩ (.bool false)) q 3 _ 90 _ h3).trans rfl
  have h5 : (((((W.setCell ⟨q, 0, none⟩ (.bool true)).setCell ⟨q, 1, none⟩ (.bool false)).setCell ⟨q, 2, none⟩ (.bool false)).setCell ⟨q, 3, none⟩ (.bool false)).setCell ⟨q, 4, none⟩ (.bool false)).heap[q]? = some (Obj.cells #[Value.bool true, Value.bool false, Value.bool false, Value.bool false, Value.bool false, Value.int IntKind.i64 0] 90 (0, 0)) := (heap_setCell_same ((((W.setCell ⟨q, 0, none⟩ (.bool true)).setCell ⟨q, 1, none⟩ (.bool false)).setCell ⟨q, 2, none⟩ (.bool false)).setCell ⟨q, 3, none⟩ (.bool false)) q 4 _ 90 _ h4).trans rfl
  have h6 : ((((((W.setCell ⟨q, 0, none⟩ (.bool true)).setCell ⟨q, 1, none⟩ (.bool false)).setCell ⟨q, 2, none⟩ (.bool false)).setCell ⟨q, 3, none⟩ (.bool false)).setCell ⟨q, 4, none⟩ (.bool false)).setCell ⟨q, 5, none⟩ (.int .i64 2)).heap[q]? = some (Obj.cells #[Value.bool true, Value.bool false, Value.bool false, Value.bool false, Value.bool false, Value.int IntKind.i64 2] 90 (0, 0)) := (heap_setCell_same (((((W.setCell ⟨q, 0, none⟩ (.bool true)).setCell ⟨q, 1, none⟩ (.bool false)).setCell ⟨q, 2, none⟩ (.bool false)).setCell ⟨q, 3, none⟩ (.bool false)).setCell ⟨q, 4, none⟩ (.bool false)) q 5 _ 90 _ h5).trans rfl
  exact h6

theorem un_below (q B : Nat) (W w : World) (h : Below B w W) (hq : B ≤ q) : Below B w (unW q W) := by
  have k1 : Below B w (W.setCell ⟨q, 0, none⟩ (.bool true)) := h.setCell hq _
  have k2 := k1.setCell (p := ⟨q, 1, none⟩) hq (.bool false)
  have k3 := k2.setCell (p := ⟨q, 2, none⟩) hq (.bool false)
  have k4 := k3.setCell (p := ⟨q, 3, none⟩) hq (.bool false)
  have k5 := k4.setCell (p := ⟨q, 4, none⟩) hq (.bool false)
  have k6 := k5.setCell (p := ⟨q, 5, none⟩) hq (.int .i64 2)
  unfold unW
  exact below_drew k6

set_option maxHeartbeats 2000000 in
theorem unpack_33 (w : World) : Calls Tryd.prog 72 #[.int .i64 33] w fun e w' => e = .returned (.agg #[.bool true, .bool false, .bool false, .bool false, .bool false, .int .i64 2]) ∧ Below w.heap.size w w' := by
  go_enter Tryd.func72, Tryd.ntmps72
  go_wp2_with fail
  have hal1 := heap_alloc_new w (Obj.cells #[Value.int IntKind.i64 33] 3)
  have hal2 := heap_alloc_new (w.alloc (Obj.cells #[Value.int IntKind.i64 33] 3)) (Obj.cells #[Value.bool false, Value.bool false, Value.bool false, Value.bool false, Value.bool false, Value.int IntKind.i64 0] 90)
  have hb : Below w.heap.size w ((w.alloc (Obj.cells #[Value.int IntKind.i64 33] 3)).alloc (Obj.cells #[Value.bool false, Value.bool false, Value.bool false, Value.bool false, Value.bool false, Value.int IntKind.i64 0] 90)) := ((Below.refl _ _).alloc (Nat.le_refl _) _).alloc (by simp) _
  have hal3 : ((w.alloc (Obj.cells #[Value.int IntKind.i64 33] 3)).alloc (Obj.cells #[Value.bool false, Value.bool false, Value.bool false, Value.bool false, Value.bool false, Value.int IntKind.i64 0] 90)).heap[w.heap.size]? = some (Obj.cells #[Value.int IntKind.i64 33] 3) := (Below.heap_alloc _ _ _ (by simp)).trans hal1
  rw [World.size_alloc] at hal2
  have hsz : ((w.alloc (Obj.cells #[Value.int IntKind.i64 33] 3)).alloc (Obj.cells #[Value.bool false, Value.bool false, Value.bool false, Value.bool false, Value.bool false, Value.int IntKind.i64 0] 90)).heap.size = w.heap.size + 2 := by simp
  generalize ((w.alloc (Obj.cells #[Value.int IntKind.i64 33] 3)).alloc (Obj.cells #[Value.bool false, Value.bool false, Value.bool false, Value.bool false, Value.bool false, Value.int IntKind.i64 0] 90)) = W at *
  have c0 : W.cell? ⟨w.heap.size, 0, none⟩ = some (.int .i64 33) := (cell_of_row W w.heap.size 0 _ 3 (0, 0) hal3).trans rfl
  have r0 : W.cell? ⟨w.heap.size + 1, 0, none⟩ = some (.bool false) := (cell_of_row W (w.heap.size + 1) 0 _ 90 (0, 0) hal2).trans rfl
  have r1 : W.cell? ⟨w.heap.size + 1, 1, none⟩ = some (.bool false) := (cell_of_row W (w.heap.size + 1) 1 _ 90 (0, 0) hal2).trans rfl
  have r2 : W.cell? ⟨w.heap.size + 1, 2, none⟩ = some (.bool false) := (cell_of_row W (w.heap.size + 1) 2 _ 90 (0, 0) hal2).trans rfl
  have r3 : W.cell? ⟨w.heap.size + 1, 3, none⟩ = some (.bool false) := (cell_of_row W (w.heap.size + 1) 3 _ 90 (0, 0) hal2).trans rfl
  have r4 : W.cell? ⟨w.heap.size + 1, 4, none⟩ = some (.bool false) := (cell_of_row W (w.heap.size + 1) 4 _ 90 (0, 0) hal2).trans rfl
  have r5 : W.cell? ⟨w.heap.size + 1, 5, none⟩ = some (.int .i64 0) := (cell_of_row W (w.heap.size + 1) 5 _ 90 (0, 0) hal2).trans rfl
  have f0 := frozen_of_row W (w.heap.size + 1) 0 _ 90 hal2
  have f1 := frozen_of_row W (w.heap.size + 1) 1 _ 90 hal2
  have f2 := frozen_of_row W (w.heap.size + 1) 2 _ 90 hal2
  have f3 := frozen_of_row W (w.heap.size + 1) 3 _ 90 hal2
  have f4 := frozen_of_row W (w.heap.size + 1) 4 _ 90 hal2
  have f5 := frozen_of_row W (w.heap.size + 1) 5 _ 90 hal2
  have HB := Lib.hid hb
  have HROW := Lib.hid hal2
  clear hal1 hal2 hal3 hb hsz
  generalize hq : w.heap.size + 1 = q at *
  generalize hr : w.heap.size = r at *
  have HQ := Lib.hid hq
  have HR := Lib.hid hr
  clear hq hr
  have KG : Hid (∀ i : Int, 0 ≤ i → i ≤ 4 → Calls Tryd.prog 121 #[.int .i64 i, .pointer (some ⟨r, 0, none⟩)] W.drew fun e w' => e = .returned (.bool (bitOf i.toNat)) ∧ w' = W.drew) := Lib.hid fun i h0 h4 => bit_lit i i.toNat r W.drew (by omega) (by omega) c0
  have b0 : bitOf 0 = true := rfl
  have b1 : bitOf 1 = false := rfl
  have b2 : bitOf 2 = false := rfl
  have b3 : bitOf 3 = false := rfl
  have b4 : bitOf 4 = false := rfl
  have z1 : bits BinOp.and IntKind.i64 1 15 = 1 := by decide
  have z2 : IntKind.i64.wrap (1 + 1) = 2 := by decide
  have z3 : IntKind.i64.wrap 2 = 2 := by decide
  go_region_with (go_at_call 121; refine (KG.out _ (by decide) (by decide)).mono ?_; rintro e w' ⟨rfl, rfl⟩)
  all_goals go_wp2_with fail
  all_goals
    have hrow := un_row q W HROW.out
    have hbel := un_below q r W w HB.out (by have := HQ.out; omega)
    have x0 := (drew_cell _ ⟨q, 0, none⟩).trans ((cell_of_row _ q 0 _ 90 (0, 0) hrow).trans rfl)
    have x1 := (drew_cell _ ⟨q, 1, none⟩).trans ((cell_of_row _ q 1 _ 90 (0, 0) hrow).trans rfl)
    have x2 := (drew_cell _ ⟨q, 2, none⟩).trans ((cell_of_row _ q 2 _ 90 (0, 0) hrow).trans rfl)
    have x3 := (drew_cell _ ⟨q, 3, none⟩).trans ((cell_of_row _ q 3 _ 90 (0, 0) hrow).trans rfl)
    have x4 := (drew_cell _ ⟨q, 4, none⟩).trans ((cell_of_row _ q 4 _ 90 (0, 0) hrow).trans rfl)
    have x5 := (drew_cell _ ⟨q, 5, none⟩).trans ((cell_of_row _ q 5 _ 90 (0, 0) hrow).trans rfl)
    have hbel2 : Below w.heap.size w (unW q W) := by rw [HR.out]; exact hbel
    clear hrow hbel
    unfold unW at hbel2
    exact bodyPost_ret (v := .agg #[.bool true, .bool false, .bool false, .bool false, .bool false, .int .i64 2]) (by simp [results, Tryd.results72, go_sem, x0, x1, x2, x3, x4, x5]) rfl ⟨rfl, hbel2⟩

end Go.Proofs.YtjcklfbpdjfibaaDoor

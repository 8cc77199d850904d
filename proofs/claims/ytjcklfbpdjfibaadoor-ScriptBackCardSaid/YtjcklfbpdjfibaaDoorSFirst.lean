/-
  The chapter's examples on scripts (the law's own 'first'): true.
-/
import Derived.Test.YtjcklfbpdjfibaaDoorScrU
import Derived.Test.YtjcklfbpdjfibaaDoorPack3
import Derived.Test.YtjcklfbpdjfibaaDoorPrint2
namespace Go.Proofs.YtjcklfbpdjfibaaDoor
open Go.RowKit

theorem row_six (w : World) : Row .u8 (w.alloc (.cells #[.int .u8 3, .int .u8 1, .int .u8 0, .int .u8 3, .int .u8 2, .int .u8 33] 5)) (some ⟨w.heap.size, 0, none⟩) 6 6 [3, 1, 0, 3, 2, 33] := by
  refine ⟨rfl, Nat.le_refl _, (by unfold maxLen; omega), fun h => (by cases h), fun ad had j hj => ?_, fun n hn => ?_⟩
  · cases had
    have e : (⟨w.heap.size, 0, none⟩ : Addr).add j = ⟨w.heap.size, j, none⟩ := by
      unfold Addr.add
      split
      · rename_i h0; rw [h0]
      · simp
    rw [e, cell_of_row _ w.heap.size j _ 5 (0, 0) (heap_alloc_new w _)]
    match j, hj with
    | 0, _ => rfl
    | 1, _ => rfl
    | 2, _ => rfl
    | 3, _ => rfl
    | 4, _ => rfl
    | 5, _ => rfl
  · have h : n = 3 ∨ n = 1 ∨ n = 0 ∨ n = 3 ∨ n = 2 ∨ n = 33 := by simpa using hn
    rcases h with rfl | rfl | rfl | rfl | rfl | rfl <;> rfl

/-- The box of the options. -/
def OBox (q : Nat) (w : World) : Prop := w.heap[q]? = some (Obj.cells #[Value.bool true, Value.bool false, Value.bool false, Value.bool false, Value.bool false, Value.int IntKind.i64 2] 90 (0, 0))
theorem OBox.stays {q : Nat} {w w' : World} (h : OBox q w) (hb : Below w.heap.size w w') : OBox q w' := (hb.block q (Array.getElem?_eq_some_iff.1 h).1).trans h
theorem OBox.cells {q : Nat} {w : World} (h : OBox q w) : w.cell? ⟨q, 0, none⟩ = some (.bool true) ∧ w.cell? ⟨q, 1, none⟩ = some (.bool false) ∧ w.cell? ⟨q, 2, none⟩ = some (.bool false) ∧ w.cell? ⟨q, 3, none⟩ = some (.bool false) ∧ w.cell? ⟨q, 4, none⟩ = some (.bool false) ∧ w.cell? ⟨q, 5, none⟩ = some (.int .i64 2) := by
  refine ⟨?_, ?_, ?_, ?_, ?_, ?_⟩ <;> (rw [cell_of_row w q _ _ 90 (0, 0) h]; rfl)

set_option maxHeartbeats 2000000 in
set_option maxRecDepth 100000 in
theorem sfirst (a : Nat → Addr) (w : World) (h : Sents a w) : Calls Tryd.prog 65 #[] w (TruePost w) := by
  have hb0 : Below w.heap.size w (w.alloc (Obj.cells #[.int .i64 3, .int .i64 1, .int .i64 0, .int .i64 0, .int .i64 3, .int .i64 3, .int .i64 2, .int .i64 33] 107)) := (Below.refl _ _).alloc (Nat.le_refl _) _
  have HS := Lib.hid (h.below hb0)
  have HP := Lib.hid (picks_new w)
  have HB0 := Lib.hid hb0
  clear h hb0
  go_enter Tryd.func65, Tryd.ntmps65
  go_wp2_with fail
  refine (print_two a _ _ HS.out HP.out).mono ?_
  rintro e w1 ⟨oa, oc, rfl, hr1, hb1⟩
  have HR1 := Lib.hid hr1
  have HB1 : Hid (Below w.heap.size w w1) := Lib.hid (HB0.out.trans (hb1.mono HB0.out.size))
  clear hr1 hb1
  go_wp2_with fail
  refine (unpack_33 _).mono ?_
  rintro e w2 ⟨rfl, hb2⟩
  have HR2 := Lib.hid (Row_alloc (Row_cells HR1.out hb2) (Obj.cells #[Value.bool true, Value.bool false, Value.bool false, Value.bool false, Value.bool false, Value.int IntKind.i64 2] 90))
  have hbx : OBox w2.heap.size (w2.alloc (Obj.cells #[Value.bool true, Value.bool false, Value.bool false, Value.bool false, Value.bool false, Value.int IntKind.i64 2] 90)) := heap_alloc_new w2 _
  have hb3 := HB1.out.trans (hb2.mono HB1.out.size)
  have HB2 : Hid (Below w.heap.size w (w2.alloc (Obj.cells #[Value.bool true, Value.bool false, Value.bool false, Value.bool false, Value.bool false, Value.int IntKind.i64 2] 90))) := Lib.hid (hb3.alloc hb3.size _)
  have HBX := Lib.hid hbx
  have HR3 := Lib.hid (Row_alloc HR2.out (.cells #[.int .u8 3, .int .u8 1, .int .u8 0, .int .u8 3, .int .u8 2, .int .u8 33] 5))
  clear hb2 hbx hb3 HR1 HR2
  go_wp2_with fail
  have HQ := Lib.hid (row_six (w2.alloc (Obj.cells #[Value.bool true, Value.bool false, Value.bool false, Value.bool false, Value.bool false, Value.int IntKind.i64 2] 90)))
  rw [World.size_alloc] at HQ
  refine (same_bytes oa _ 6 oc 6 6 _ _ _ HR3.out HQ.out (by omega)).mono ?_
  rintro e w3 ⟨he, nq, rfl⟩
  obtain rfl : e = .returned (.bool true) := by rw [he]; simp
  have hb6 : Below w.heap.size w (((w2.alloc (Obj.cells #[Value.bool true, Value.bool false, Value.bool false, Value.bool false, Value.bool false, Value.int IntKind.i64 2] 90)).alloc (.cells #[.int .u8 3, .int .u8 1, .int .u8 0, .int .u8 3, .int .u8 2, .int .u8 33] 5)).drewN nq) := below_drewN (HB2.out.alloc HB2.out.size _) nq
  have hbx2 : OBox w2.heap.size (((w2.alloc (Obj.cells #[Value.bool true, Value.bool false, Value.bool false, Value.bool false, Value.bool false, Value.int IntKind.i64 2] 90)).alloc (.cells #[.int .u8 3, .int .u8 1, .int .u8 0, .int .u8 3, .int .u8 2, .int .u8 33] 5)).drewN nq) := HBX.out.stays (below_drewN ((Below.refl _ _).alloc (Nat.le_refl _) _) nq)
  obtain ⟨o0, o1, o2, o3, o4, o5⟩ := hbx2.cells
  have HB6 := Lib.hid hb6
  clear he hb6 hbx2 HR3 HQ HBX
  generalize (((w2.alloc (Obj.cells #[Value.bool true, Value.bool false, Value.bool false, Value.bool false, Value.bool false, Value.int IntKind.i64 2] 90)).alloc (.cells #[.int .u8 3, .int .u8 1, .int .u8 0, .int .u8 3, .int .u8 2, .int .u8 33] 5)).drewN nq) = w6 at *
  go_wp2_with fail
  refine (pack_33 _).mono ?_
  rintro e w7 ⟨rfl, hb7⟩
  go_wp2_with fail
  go_ret
  exact ⟨rfl, HB6.out.trans (hb7.mono HB6.out.size)⟩

end Go.Proofs.YtjcklfbpdjfibaaDoor

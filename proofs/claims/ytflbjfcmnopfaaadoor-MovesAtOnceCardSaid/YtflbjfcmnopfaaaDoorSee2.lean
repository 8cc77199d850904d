/-
  The statements' own look at an error, on: the fault told, two faults compared.
-/
import Derived.Test.YtflbjfcmnopfaaaDoorSee
namespace Go.Proofs.YtflbjfcmnopfaaaDoor
open Go.RowKit

/-- A fault's box, behind what turned nothing that was there. -/
theorem boxedC {w2 : World} (w : World) (T : TypeId) (c : Int) (h : Below (w.alloc (Obj.cells #[Value.int IntKind.i64 c, Value.slice none 0 0] T)).heap.size (w.alloc (Obj.cells #[Value.int IntKind.i64 c, Value.slice none 0 0] T)) w2) :
    w2.cell? ⟨w.heap.size, 0, none⟩ = some (.int .i64 c) ∧ w2.cell? ⟨w.heap.size, 1, none⟩ = some (.slice none 0 0) ∧ w.heap.size < w2.heap.size := by
  have hlt : w.heap.size < (w.alloc (Obj.cells #[Value.int IntKind.i64 c, Value.slice none 0 0] T)).heap.size := by simp
  have hrow := heap_alloc_new w (Obj.cells #[Value.int IntKind.i64 c, Value.slice none 0 0] T)
  refine ⟨?_, ?_, Nat.lt_of_lt_of_le hlt h.size⟩
  · rw [h.cell (p := ⟨w.heap.size, 0, none⟩) hlt, cell_of_row _ w.heap.size 0 _ T (0, 0) hrow]; rfl
  · rw [h.cell (p := ⟨w.heap.size, 1, none⟩) hlt, cell_of_row _ w.heap.size 1 _ T (0, 0) hrow]; rfl

theorem Fault_any (a : Nat → Addr) (m : Nat) (w : World) (h : Sents a w) (hm : m < 14) :
    Calls Tryd.prog 41 #[.iface 271 (.pointer (some (a m)))] w (PlainPost ((101 + m : Nat) : Int) w) := by
  have hS : Hid (Sents a (w.alloc (Obj.cells #[Value.int IntKind.i64 0, Value.slice none 0 0] 67))) := Lib.hid (h.below ((Below.refl _ _).alloc (Nat.le_refl _) _))
  have hf := fault_any a m _ hS.out hm
  obtain ⟨x, hx⟩ : ∃ x, a m = x := ⟨_, rfl⟩
  rw [hx] at hf
  rw [hx]
  have F := Lib.hid hf
  clear hf hx h hS
  go_enter Tryd.func41, Tryd.ntmps41
  go_wp2_with fail
  refine F.out.mono ?_
  rintro e w2 ⟨rfl, hb2⟩
  obtain ⟨f0, f1, g0, g1, hlt⟩ := boxed w 67 hb2
  have HB2 : Hid (Below w.heap.size w w2) := Lib.hid (((Below.refl _ _).alloc (Nat.le_refl _) _).trans (hb2.mono (by simp)))
  clear hb2
  go_wp2_with fail
  exact bodyPost_ret (v := .agg #[.int .i64 ((101 + m : Nat) : Int), .slice none 0 0]) (by simp [results, Tryd.results41, go_sem, f0, f1]) rfl ⟨rfl, (HB2.out.setCell (Nat.le_refl _) _).setCell (Nat.le_refl _) _⟩

theorem sameInts_nil (w : World) : Calls Tryd.prog 28 #[.slice none 0 0, .slice none 0 0] w fun e w' => e = .returned (.bool true) ∧ w = w' := by
  go_enter Tryd.func28, Tryd.ntmps28
  go_wp2_with fail
  go_loop [5] (fun si => si = .int .i64 0) (fun _ => 0)
  case atStart => rfl
  case round =>
    obtain rfl := hrel
    go_wp2_with fail
    go_ret
    exact ⟨rfl, rfl⟩

theorem sameFault_plain (c : Int) (w : World) : Calls Tryd.prog 90 #[.agg #[.int .i64 c, .slice none 0 0], .agg #[.int .i64 c, .slice none 0 0]] w (TruePost w) := by
  go_enter Tryd.func90, Tryd.ntmps90
  go_wp2_with (go_at_call 28; refine (sameInts_nil _).mono ?_; rintro e w' ⟨rfl, rfl⟩)
  go_ret
  exact ⟨rfl, ((Below.refl _ _).alloc (Nat.le_refl _) _).alloc (by simp) _⟩

theorem same_plain (a : Nat → Addr) (m : Nat) (w : World) (h : Sents a w) (hm : m < 14) :
    Calls Tryd.prog 39 #[.iface 271 (.pointer (some (a m))), .agg #[.int .i64 ((101 + m : Nat) : Int), .slice none 0 0]] w (TruePost w) := by
  obtain ⟨c, hc⟩ : ∃ c : Int, ((101 + m : Nat) : Int) = c := ⟨_, rfl⟩
  have hS : Hid (Sents a (w.alloc (Obj.cells #[Value.int IntKind.i64 c, Value.slice none 0 0] 67))) := Lib.hid (h.below ((Below.refl _ _).alloc (Nat.le_refl _) _))
  have hf := Fault_any a m _ hS.out hm
  obtain ⟨x, hx⟩ : ∃ x, a m = x := ⟨_, rfl⟩
  rw [hx, hc] at hf
  rw [hx, hc]
  have F := Lib.hid hf
  clear hf hx h hS hc hm
  go_enter Tryd.func39, Tryd.ntmps39
  go_wp2_with fail
  refine F.out.mono ?_
  rintro e w2 ⟨rfl, hb2⟩
  obtain ⟨f0, f1, hlt⟩ := boxedC w 67 c hb2
  have HB2 : Hid (Below w.heap.size w w2) := Lib.hid (((Below.refl _ _).alloc (Nat.le_refl _) _).trans (hb2.mono (by simp)))
  have hb3 : Below w2.heap.size w2 (w2.alloc (Obj.cells #[Value.int IntKind.i64 c, Value.slice none 0 0] 67)) := (Below.refl _ _).alloc (Nat.le_refl _) _
  have g0 := (hb3.cell (p := ⟨w.heap.size, 0, none⟩) hlt).trans f0
  have g1 := (hb3.cell (p := ⟨w.heap.size, 1, none⟩) hlt).trans f1
  clear hb2 hb3 f0 f1
  go_wp2_with fail
  refine (sameFault_plain c _).mono ?_
  rintro e w4 ⟨rfl, hb4⟩
  go_wp2_with fail
  go_ret
  exact ⟨rfl, (HB2.out.alloc HB2.out.size _).trans (hb4.mono (by have := HB2.out.size; simp; omega))⟩

theorem is_plain (a : Nat → Addr) (m : Nat) (w : World) (h : Sents a w) (hm : m < 14) :
    Calls Tryd.prog 65 #[.iface 271 (.pointer (some (a m))), .int .i64 ((101 + m : Nat) : Int)] w (TruePost w) := by
  have H := Lib.hid h
  have HM := Lib.hid hm
  have HS : Hid (∀ w', Sents a w' → Calls Tryd.prog 39 #[.iface 271 (.pointer (some (a m))), .agg #[.int .i64 ((101 + m : Nat) : Int), .slice none 0 0]] w' (TruePost w')) := Lib.hid fun w' hw' => same_plain a m w' hw' hm
  obtain ⟨c, hc⟩ : ∃ c : Int, ((101 + m : Nat) : Int) = c := ⟨_, rfl⟩
  obtain ⟨x, hx⟩ : ∃ x, a m = x := ⟨_, rfl⟩
  rw [hx, hc] at HS
  rw [hx, hc]
  clear h hm hx hc
  go_enter Tryd.func65, Tryd.ntmps65
  go_wp2_with fail
  refine (bare_any c _).mono ?_
  rintro e w2 ⟨rfl, hb2⟩
  have HB2 := Lib.hid hb2
  clear hb2
  go_wp2_with fail
  refine (HS.out _ (H.out.below HB2.out)).mono ?_
  rintro e w3 ⟨rfl, hb3⟩
  go_wp2_with fail
  go_ret
  exact ⟨rfl, HB2.out.trans (hb3.mono HB2.out.size)⟩

end Go.Proofs.YtflbjfcmnopfaaaDoor

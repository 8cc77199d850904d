/-
  Package script: Pack at the chapter's example; Print of the chapter's two picks.
-/
import Derived.Test.YtjcklfbpdjfibaaDoorScr2
import Derived.Test.YtjcklfbpdjfibaaDoorPutS
import Derived.Test.YtjcklfbpdjfibaaDoorSameB
namespace Go.Proofs.YtjcklfbpdjfibaaDoor
open Go.RowKit

def packAt (k : Nat) : Int := if k = 0 then 32 else 33
def packBit (k : Nat) : Bool := decide (k = 0)

theorem pack_33 (w : World) : Calls Tryd.prog 71 #[.agg #[.bool true, .bool false, .bool false, .bool false, .bool false, .int .i64 2]] w fun e w' => e = .returned (.int .i64 33) ∧ Below w.heap.size w w' := by
  have z1 : IntKind.i64.wrap 32 = 32 := by decide
  have z2 : bits BinOp.or IntKind.i64 32 1 = 33 := by decide
  go_enter Tryd.func71, Tryd.ntmps71
  go_wp2_with fail
  have hal := heap_alloc_new (w.alloc (Obj.cells #[Value.bool true, Value.bool false, Value.bool false, Value.bool false, Value.bool false, Value.int IntKind.i64 2] 90)) (Obj.cells #[Value.bool true, Value.bool false, Value.bool false, Value.bool false, Value.bool false] 4)
  rw [World.size_alloc] at hal
  have hb : Below w.heap.size w ((w.alloc (Obj.cells #[Value.bool true, Value.bool false, Value.bool false, Value.bool false, Value.bool false, Value.int IntKind.i64 2] 90)).alloc (Obj.cells #[Value.bool true, Value.bool false, Value.bool false, Value.bool false, Value.bool false] 4)) := ((Below.refl _ _).alloc (Nat.le_refl _) _).alloc (by simp) _
  have HB := Lib.hid hb
  have HAL := Lib.hid hal
  clear hb hal
  generalize ((w.alloc (Obj.cells #[Value.bool true, Value.bool false, Value.bool false, Value.bool false, Value.bool false, Value.int IntKind.i64 2] 90)).alloc (Obj.cells #[Value.bool true, Value.bool false, Value.bool false, Value.bool false, Value.bool false] 4)) = W at *
  go_loop [3, 24] (fun sb si => ∃ k : Nat, k ≤ 5 ∧ si = .int .i64 k ∧ sb = .int .i64 (packAt k)) (fun _ si => 5 - (intOf si).toNat)
  case atStart => exact ⟨0, by omega, rfl, rfl⟩
  case round =>
    obtain ⟨k, hk, rfl, rfl⟩ := hrel
    by_cases hlt : k < 5
    · have t1 : decide ((k : Int) < 5) = true := by simp; omega
      have ck : W.cell? ⟨w.heap.size + 1, k, none⟩ = some (.bool (packBit k)) := by
        rw [cell_of_row W (w.heap.size + 1) k _ 4 (0, 0) HAL.out]
        match k, hlt with
        | 0, _ => rfl
        | 1, _ => rfl
        | 2, _ => rfl
        | 3, _ => rfl
        | 4, _ => rfl
      by_cases h0 : k = 0
      · subst h0
        have e0 : packBit 0 = true := rfl
        have e1 : packAt 0 = 32 := rfl
        rw [e0] at ck
        rw [e1]
        clear e0 e1 t1 hk hlt
        go_wp2_with fail
        go_round
        case rel => exact ⟨1, by omega, rfl, rfl⟩
        case measure => simp [intOf]
      · have e0 : packBit k = false := by simp [packBit, h0]
        have e1 : packAt k = 33 := by simp [packAt, h0]
        rw [e0] at ck
        rw [e1]
        have H0 := Lib.hid h0
        clear e0 e1 h0
        go_wp2_with fail
        go_round
        case rel => exact ⟨k + 1, by omega, by go_num, by simp [packAt]⟩
        case measure => simp [intOf]; omega
    · obtain rfl : k = 5 := by omega
      have e1 : packAt 5 = 33 := rfl
      rw [e1]
      go_wp2_with fail
      go_ret
      exact ⟨rfl, HB.out⟩

end Go.Proofs.YtjcklfbpdjfibaaDoor

/-
  Package script: may, May, New at one pick; an At around what May answers.
-/
import Derived.Test.YtjcklfbpdjfibaaDoorSee3
namespace Go.Proofs.YtjcklfbpdjfibaaDoor
open Go.RowKit

/-- Nothing, or a listed error. -/
def errV (a : Nat → Addr) : Nat → Value
  | 0 => .nilIface
  | c + 1 => .iface 211 (.pointer (some (a c)))

def mostA (act : Int) : Int := if act = 3 then 11 else 0
def mostB (act : Int) : Int := if act = 3 ∨ act = 5 then 2047 else 0
/-- What keeps a pick from being one: 0 nothing; else the listed error's number and 1. -/
def pickC (at_ act A B ahead : Int) : Nat :=
  if act < 1 ∨ 5 < act then 2 else if at_ < 0 ∨ 1048576 < at_ ∨ A < 0 ∨ mostA act < A ∨ B < 0 ∨ mostB act < B then 3 else if at_ < ahead then 5 else 0

def MayPost (a : Nat → Addr) (c : Nat) (w : World) (e : Ending) (w' : World) : Prop := e = .returned (errV a c) ∧ Below w.heap.size w w'

set_option maxHeartbeats 1000000 in
set_option maxRecDepth 100000 in
theorem may_any (a : Nat → Addr) (T K A B H : Int) (w : World) (h : Sents a w) :
    Calls Tryd.prog 120 #[.agg #[.int .i64 T, .int .i64 K, .int .i64 A, .int .i64 B], .int .i64 H] w (MayPost a (pickC T K A B H) w) := by
  have hbl : Below w.heap.size w (w.alloc (Obj.cells #[.int .i64 T, .int .i64 K, .int .i64 A, .int .i64 B] 107)) := (Below.refl _ _).alloc (Nat.le_refl _) _
  have hS := h.below hbl
  have c1 := hS.c1
  have c2 := hS.c2
  have c4 := hS.c4
  have HB := Lib.hid hbl
  obtain ⟨x1, e1⟩ : ∃ x, a 1 = x := ⟨_, rfl⟩
  obtain ⟨x2, e2⟩ : ∃ x, a 2 = x := ⟨_, rfl⟩
  obtain ⟨x4, e4⟩ : ∃ x, a 4 = x := ⟨_, rfl⟩
  rw [e1] at c1
  rw [e2] at c2
  rw [e4] at c4
  have E1 := Lib.hid e1
  have E2 := Lib.hid e2
  have E4 := Lib.hid e4
  clear h hbl hS e1 e2 e4
  obtain ⟨W, hW⟩ : ∃ W, (w.alloc (Obj.cells #[.int .i64 T, .int .i64 K, .int .i64 A, .int .i64 B] 107)) = W := ⟨_, rfl⟩
  have HW := Lib.hid hW
  rw [hW] at HB
  have fin2 : Hid (pickC T K A B H = 2 → MayPost a (pickC T K A B H) w (.returned (.iface 211 (.pointer (some x1)))) W) := Lib.hid fun h1 => ⟨by rw [h1, ← E1.out]; rfl, HB.out⟩
  have fin3 : Hid (pickC T K A B H = 3 → MayPost a (pickC T K A B H) w (.returned (.iface 211 (.pointer (some x2)))) W) := Lib.hid fun h1 => ⟨by rw [h1, ← E2.out]; rfl, HB.out⟩
  have fin5 : Hid (pickC T K A B H = 5 → MayPost a (pickC T K A B H) w (.returned (.iface 211 (.pointer (some x4)))) W) := Lib.hid fun h1 => ⟨by rw [h1, ← E4.out]; rfl, HB.out⟩
  have fin0 : Hid (pickC T K A B H = 0 → MayPost a (pickC T K A B H) w (.returned .nilIface) W) := Lib.hid fun h1 => ⟨by rw [h1]; rfl, HB.out⟩
  rw [← hW] at fin2 fin3 fin5 fin0
  clear hW
  by_cases k3 : K = 3
  · subst k3
    have m1 : mostA 3 = 11 := rfl
    have m2 : mostB 3 = 2047 := rfl
    have M1 := Lib.hid m1
    have M2 := Lib.hid m2
    clear m1 m2
    go_enter Tryd.func120, Tryd.ntmps120
    go_wp2
    all_goals
      go_ret
      first
        | exact fin3.out (by rw [pickC, if_neg (by omega), if_pos (by rw [M1.out, M2.out]; omega)])
        | exact fin5.out (by rw [pickC, if_neg (by omega), if_neg (by rw [M1.out, M2.out]; omega), if_pos (by omega)])
        | exact fin0.out (by rw [pickC, if_neg (by omega), if_neg (by rw [M1.out, M2.out]; omega), if_neg (by omega)])
        | (exfalso; omega)
  · by_cases k5 : K = 5
    · subst k5
      have m1 : mostA 5 = 0 := rfl
      have m2 : mostB 5 = 2047 := rfl
      have M1 := Lib.hid m1
      have M2 := Lib.hid m2
      clear m1 m2
      go_enter Tryd.func120, Tryd.ntmps120
      go_wp2
      all_goals
        go_ret
        first
          | exact fin3.out (by rw [pickC, if_neg (by omega), if_pos (by rw [M1.out, M2.out]; omega)])
          | exact fin5.out (by rw [pickC, if_neg (by omega), if_neg (by rw [M1.out, M2.out]; omega), if_pos (by omega)])
          | exact fin0.out (by rw [pickC, if_neg (by omega), if_neg (by rw [M1.out, M2.out]; omega), if_neg (by omega)])
          | (exfalso; omega)
    · have t3 : (K == 3) = false := by simpa using k3
      have t5 : (K == 5) = false := by simpa using k5
      have m1 : mostA K = 0 := by simp [mostA, k3]
      have m2 : mostB K = 0 := by simp [mostB, k3, k5]
      have M1 := Lib.hid m1
      have M2 := Lib.hid m2
      clear m1 m2
      go_enter Tryd.func120, Tryd.ntmps120
      go_wp2
      all_goals
        go_ret
        first
          | exact fin2.out (by rw [pickC, if_pos (by omega)])
          | exact fin3.out (by rw [pickC, if_neg (by omega), if_pos (by rw [M1.out, M2.out]; omega)])
          | exact fin5.out (by rw [pickC, if_neg (by omega), if_neg (by rw [M1.out, M2.out]; omega), if_pos (by omega)])
          | exact fin0.out (by rw [pickC, if_neg (by omega), if_neg (by rw [M1.out, M2.out]; omega), if_neg (by omega)])
          | (exfalso; omega)

end Go.Proofs.YtjcklfbpdjfibaaDoor

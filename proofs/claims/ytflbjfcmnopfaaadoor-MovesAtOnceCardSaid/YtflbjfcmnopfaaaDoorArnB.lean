/-
  The arena's methods, each by a contract: a pointer to a block whose first cell is a slice over a whole block of int64.
-/
import Derived.Test.YtflbjfcmnopfaaaDoorProg
import Derived.Test.YtflbjfcmnopfaaaDoorMem
import Derived.Laws.CopyOwn
namespace Go.Proofs.YtflbjfcmnopfaaaDoor
open Go.RowKit

/-- An arena: its box b, its words' block g. -/
structure An (B b g n : Nat) (zs : List Int) (w : World) : Prop where
  len : zs.length = n
  small : n ≤ 65536
  box : w.cell? ⟨b, 0, none⟩ = some (.slice (some ⟨g, 0, none⟩) n n)
  row : w.heap[g]? = some (.cells (zs.map (Value.int .i64)).toArray 2 (0, 0))
  ne : b ≠ g
  lo : B ≤ g

theorem An.cell {B b g n : Nat} {zs : List Int} {w : World} (h : An B b g n zs w) (j : Nat) (hj : j < n) : w.cell? ⟨g, j, none⟩ = some (.int .i64 (zs.getD j 0)) := by
  have hl := h.len
  rw [cell_of_row w g j _ 2 (0, 0) h.row]
  simp [List.getD, List.getElem?_eq_getElem (show j < zs.length by omega)]

theorem An.frozen {B b g n : Nat} {zs : List Int} {w : World} (h : An B b g n zs w) (j : Nat) : w.frozen? ⟨g, j, none⟩ = false := frozen_of_row w g j _ 2 h.row

/-- Another block's turn leaves it. -/
theorem An.kept {B b g n : Nat} {zs : List Int} {w w' : World} (h : An B b g n zs w) (hg : w'.heap[g]? = w.heap[g]?) (hb : w'.heap[b]? = w.heap[b]?) : An B b g n zs w' :=
  ⟨h.len, h.small, (World.cell?_of_block (a := ⟨b, 0, none⟩) hb).trans h.box, hg.trans h.row, h.ne, h.lo⟩

theorem An.stored {B b g n : Nat} {zs : List Int} {w : World} (h : An B b g n zs w) (j : Nat) (v : Int) : An B b g n (zs.set j v) (w.setCell ⟨g, j, none⟩ (.int .i64 v)) := by
  refine ⟨by simpa using h.len, h.small, ?_, ?_, h.ne, h.lo⟩
  · rw [World.cell?_of_block (w := w) (Below.heap_setCell w ⟨g, j, none⟩ _ b h.ne)]; exact h.box
  · rw [heap_setCell_same w g j _ 2 _ h.row]; simp [List.map_set]

theorem grown_store (w : World) (g j : Nat) (v : Value) : w.grownBy (w.setCell ⟨g, j, none⟩ v) (some g) :=
  ⟨rfl, rfl, rfl, by simp, fun k _ hk => heap_setCell_other w ⟨g, j, none⟩ k v (fun e => hk (by simp [e]))⟩

/-- A test by name. -/
def insideB (i : Int) (n : Nat) : Bool := decide (0 ≤ i ∧ i < n)
theorem inside_of {i : Int} {n : Nat} (h0 : 0 ≤ i) (h1 : i < n) : insideB i n = true := by simp [insideB, h0, h1]
theorem outside_of {i : Int} {n : Nat} (h : ¬ (0 ≤ i ∧ i < n)) : insideB i n = false := by simpa [insideB] using h

theorem has_any {B b g n : Nat} {zs : List Int} (i : Int) (w : World) (h : An B b g n zs w) :
    Calls Tryd.prog 165 #[.pointer (some ⟨b, 0, none⟩), .int .i64 i] w fun e w' => e = .returned (.bool (insideB i n)) ∧ w = w' := by
  have hb := h.box
  have hs := h.small
  clear h
  by_cases h0 : 0 ≤ i
  · by_cases h1 : i < n
    · rw [inside_of h0 h1]
      go_enter Tryd.func165, Tryd.ntmps165
      go_wp2
      go_ret
      exact ⟨rfl, rfl⟩
    · rw [outside_of (by omega)]
      go_enter Tryd.func165, Tryd.ntmps165
      go_wp2
      go_ret
      exact ⟨rfl, rfl⟩
  · rw [outside_of (by omega)]
    go_enter Tryd.func165, Tryd.ntmps165
    go_wp2
    go_ret
    exact ⟨rfl, rfl⟩

theorem has_yes {B b g n : Nat} {zs : List Int} (i : Int) (w : World) (h : An B b g n zs w) (h0 : 0 ≤ i) (h1 : i < n) :
    Calls Tryd.prog 165 #[.pointer (some ⟨b, 0, none⟩), .int .i64 i] w fun e w' => e = .returned (.bool true) ∧ w = w' := by
  rw [← inside_of h0 h1]
  exact has_any i w h

theorem has_no {B b g n : Nat} {zs : List Int} (i : Int) (w : World) (h : An B b g n zs w) (h0 : ¬ (0 ≤ i ∧ i < n)) :
    Calls Tryd.prog 165 #[.pointer (some ⟨b, 0, none⟩), .int .i64 i] w fun e w' => e = .returned (.bool false) ∧ w = w' := by
  rw [← outside_of h0]
  exact has_any i w h

theorem load_yes {B b g n : Nat} {zs : List Int} (i : Nat) (w : World) (h : An B b g n zs w) (h1 : i < n) :
    Calls Tryd.prog 113 #[.pointer (some ⟨b, 0, none⟩), .int .i64 i] w fun e w' => e = .returned (.tuple #[.int .i64 (zs.getD i 0), .bool true]) ∧ w = w' := by
  have hb := h.box
  have hs := h.small
  have hc := h.cell i h1
  have H := Lib.hid h
  clear h
  go_enter Tryd.func113, Tryd.ntmps113
  go_wp2_with (go_at_call 165; refine (has_yes _ _ H.out (by omega) (by omega)).mono ?_; rintro e w' ⟨rfl, rfl⟩)
  go_ret2
  exact ⟨rfl, rfl⟩

theorem load_no {B b g n : Nat} {zs : List Int} (i : Int) (w : World) (h : An B b g n zs w) (h1 : ¬ (0 ≤ i ∧ i < n)) :
    Calls Tryd.prog 113 #[.pointer (some ⟨b, 0, none⟩), .int .i64 i] w fun e w' => e = .returned (.tuple #[.int .i64 0, .bool false]) ∧ w = w' := by
  have H := Lib.hid h
  have H1 := Lib.hid h1
  clear h h1
  go_enter Tryd.func113, Tryd.ntmps113
  go_wp2_with (go_at_call 165; refine (has_no _ _ H.out H1.out).mono ?_; rintro e w' ⟨rfl, rfl⟩)
  go_ret2
  exact ⟨rfl, rfl⟩

def StorePost (B b g n : Nat) (zs : List Int) (w : World) (e : Ending) (w' : World) : Prop := e = .returned (.bool true) ∧ An B b g n zs w' ∧ w.grownBy w' (some g)

theorem store_yes {B b g n : Nat} {zs : List Int} (i : Nat) (v : Int) (w : World) (h : An B b g n zs w) (h1 : i < n) :
    Calls Tryd.prog 142 #[.pointer (some ⟨b, 0, none⟩), .int .i64 i, .int .i64 v] w (StorePost B b g n (zs.set i v) w) := by
  have hb := h.box
  have hs := h.small
  have hc := h.cell i h1
  have hf := h.frozen i
  have H := Lib.hid h
  clear h
  go_enter Tryd.func142, Tryd.ntmps142
  go_wp2_with (go_at_call 165; refine (has_yes _ _ H.out (by omega) (by omega)).mono ?_; rintro e w' ⟨rfl, rfl⟩)
  go_ret
  exact ⟨rfl, H.out.stored i v, grown_store _ _ _ _⟩

theorem store_no {B b g n : Nat} {zs : List Int} (i v : Int) (w : World) (h : An B b g n zs w) (h1 : ¬ (0 ≤ i ∧ i < n)) :
    Calls Tryd.prog 142 #[.pointer (some ⟨b, 0, none⟩), .int .i64 i, .int .i64 v] w fun e w' => e = .returned (.bool false) ∧ w = w' := by
  have H := Lib.hid h
  have H1 := Lib.hid h1
  clear h h1
  go_enter Tryd.func142, Tryd.ntmps142
  go_wp2_with (go_at_call 165; refine (has_no _ _ H.out H1.out).mono ?_; rintro e w' ⟨rfl, rfl⟩)
  go_ret
  exact ⟨rfl, rfl⟩

end Go.Proofs.YtflbjfcmnopfaaaDoor

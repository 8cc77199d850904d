/-
  The space's methods, each by a contract.
-/
import Derived.Test.YtpfpieakemnadaaDoorArn2
namespace Go.Proofs.YtpfpieakemnadaaDoor
open Go.RowKit

/-- A space: its block holds From, To, Top. -/
structure Sp (B s : Nat) (f t p : Int) (w : World) : Prop where
  row : w.heap[s]? = some (.cells #[.int .i64 f, .int .i64 t, .int .i64 p] 129 (0, 0))
  lo : B ≤ s

theorem Sp.cells {B s : Nat} {f t p : Int} {w : World} (h : Sp B s f t p w) : w.cell? ⟨s, 0, none⟩ = some (.int .i64 f) ∧ w.cell? ⟨s, 1, none⟩ = some (.int .i64 t) ∧ w.cell? ⟨s, 2, none⟩ = some (.int .i64 p) := by
  refine ⟨?_, ?_, ?_⟩ <;> (rw [cell_of_row w s _ _ 129 (0, 0) h.row]; rfl)

theorem Sp.frozen {B s : Nat} {f t p : Int} {w : World} (h : Sp B s f t p w) (j : Nat) : w.frozen? ⟨s, j, none⟩ = false := frozen_of_row w s j _ 129 h.row

theorem Sp.kept {B s : Nat} {f t p : Int} {w w' : World} (h : Sp B s f t p w) (hg : w'.heap[s]? = w.heap[s]?) : Sp B s f t p w' := ⟨hg.trans h.row, h.lo⟩

theorem Sp.top {B s : Nat} {f t p : Int} {w : World} (h : Sp B s f t p w) (q : Int) : Sp B s f t q (w.setCell ⟨s, 2, none⟩ (.int .i64 q)) :=
  ⟨by rw [heap_setCell_same w s 2 _ 129 _ h.row]; rfl, h.lo⟩

def RoomPost (r : Int) (w : World) (e : Ending) (w' : World) : Prop := e = .returned (.int .i64 r) ∧ ∃ n, w' = w.drewN n

theorem room_any {B s : Nat} {f t p : Int} (w : World) (h : Sp B s f t p w) (h0 : 0 ≤ p) (h1 : p ≤ t) (h2 : t ≤ 4096) :
    Calls Tryd.prog 106 #[.pointer (some ⟨s, 0, none⟩)] w (RoomPost (t - p) w) := by
  obtain ⟨c0, c1, c2⟩ := h.cells
  clear h c0
  have a1 : IntKind.i64.wrap (t - p) = t - p := IntWalk.i64_in _ (by omega)
  go_enter Tryd.func106, Tryd.ntmps106
  go_wp2
  go_quiet (fail)
  all_goals go_wp2
  all_goals
    go_ret
    exact ⟨rfl, _, rfl⟩

def TakePost (B s : Nat) (f t q : Int) (r : Int) (is : Bool) (w : World) (e : Ending) (w' : World) : Prop :=
  e = .returned (.tuple #[.int .i64 r, .bool is]) ∧ Sp B s f t q w' ∧ w.grownBy w' (some s)

theorem take_yes {B s : Nat} {f t p : Int} (m : Int) (w : World) (h : Sp B s f t p w) (h0 : 0 ≤ p) (h1 : p ≤ t) (h2 : t ≤ 4096) (h3 : 1 ≤ m) (h4 : m ≤ t - p) :
    Calls Tryd.prog 80 #[.pointer (some ⟨s, 0, none⟩), .int .i64 m] w (TakePost B s f t (p + m) p true w) := by
  obtain ⟨c0, c1, c2⟩ := h.cells
  have cf := h.frozen 2
  have H := Lib.hid h
  clear h c0 c1
  have d1 : decide (m < 1) = false := by simp; omega
  have d2 : decide (t - p < m) = false := by simp; omega
  go_enter Tryd.func80, Tryd.ntmps80
  go_wp2_with (go_at_call 106; refine (room_any _ H.out h0 h1 h2).mono ?_; rintro e w' ⟨rfl, nq, rfl⟩)
  go_ret2
  exact ⟨rfl, Sp.top (w := World.drewN _ _) (Sp.kept H.out rfl) _, ⟨rfl, rfl, rfl, by simp, fun k _ hk => heap_setCell_other (World.drewN _ _) ⟨s, 2, none⟩ k _ (fun e => hk (by simp [e]))⟩⟩

theorem take_no {B s : Nat} {f t p : Int} (m : Int) (w : World) (h : Sp B s f t p w) (h0 : 0 ≤ p) (h1 : p ≤ t) (h2 : t ≤ 4096) (h3 : m < 1 ∨ t - p < m) :
    Calls Tryd.prog 80 #[.pointer (some ⟨s, 0, none⟩), .int .i64 m] w (TakePost B s f t p 0 false w) := by
  have H := Lib.hid h
  clear h
  by_cases h5 : m < 1
  · clear h3
    have d1 : decide (m < 1) = true := by simp; omega
    go_enter Tryd.func80, Tryd.ntmps80
    go_wp2_with (go_at_call 106; refine (room_any _ H.out h0 h1 h2).mono ?_; rintro e w' ⟨rfl, nq, rfl⟩)
    go_ret2
    exact ⟨rfl, H.out, World.grownBy.refl _ _⟩
  · have d1 : decide (m < 1) = false := by simp; omega
    have h6 : t - p < m := by omega
    clear h3
    have d2 : decide (t - p < m) = true := by simp; omega
    go_enter Tryd.func80, Tryd.ntmps80
    go_wp2_with (go_at_call 106; refine (room_any _ H.out h0 h1 h2).mono ?_; rintro e w' ⟨rfl, nq, rfl⟩)
    go_ret2
    exact ⟨rfl, Sp.kept H.out rfl, ⟨rfl, rfl, rfl, Nat.le_refl _, fun k _ hk => rfl⟩⟩

end Go.Proofs.YtpfpieakemnadaaDoor

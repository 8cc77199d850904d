/-
  Package scan: a reader over bytes that are a script's, whole or cut off.
-/
import Derived.Test.YtjcklfbpdjfibaaDoorScnM
import Derived.Test.YtjcklfbpdjfibaaDoorSee3
import Derived.IntWalk
namespace Go.Proofs.YtjcklfbpdjfibaaDoor
open Go.RowKit

/-- A reader's box: its bytes, its place, its error. -/
def RBx (r : Nat) (ba : Option Addr) (bl bc p : Nat) (err : Value) (w : World) : Prop := w.heap[r]? = some (.cells #[.slice ba bl bc, .int .i64 p, err] 184 (0, 0))
theorem RBx.cells {r : Nat} {ba : Option Addr} {bl bc p : Nat} {err : Value} {w : World} (h : RBx r ba bl bc p err w) : w.cell? ⟨r, 0, none⟩ = some (.slice ba bl bc) ∧ w.cell? ⟨r, 1, none⟩ = some (.int .i64 p) ∧ w.cell? ⟨r, 2, none⟩ = some err ∧ w.frozen? ⟨r, 1, none⟩ = false ∧ w.frozen? ⟨r, 2, none⟩ = false := by
  refine ⟨?_, ?_, ?_, ?_, ?_⟩
  · rw [cell_of_row w r 0 _ _ (0, 0) h]; rfl
  · rw [cell_of_row w r 1 _ _ (0, 0) h]; rfl
  · rw [cell_of_row w r 2 _ _ (0, 0) h]; rfl
  · exact frozen_of_row w r 1 _ _ h
  · exact frozen_of_row w r 2 _ _ h
theorem RBx.stays {r : Nat} {ba : Option Addr} {bl bc p : Nat} {err : Value} {w w' : World} (h : RBx r ba bl bc p err w) (hb : Below w.heap.size w w') : RBx r ba bl bc p err w' := (hb.block r (Array.getElem?_eq_some_iff.1 h).1).trans h

def atErr (b : Nat) : Value := .iface 164 (.pointer (some ⟨b, 0, none⟩))

theorem more_ok (r : Nat) (ba : Option Addr) (bl bc p : Nat) (w : World) (h : RBx r ba bl bc p .nilIface w) :
    Calls Tryd.prog 117 #[.pointer (some ⟨r, 0, none⟩)] w fun e w' => e = .returned (.bool (decide (p < bl))) ∧ ∃ n, w' = w.drewN n := by
  obtain ⟨c0, c1, c2, f1, f2⟩ := h.cells
  clear h
  go_enter Tryd.func117, Tryd.ntmps117
  go_wp2_with fail
  go_quiet (fail)
  all_goals go_wp2_with fail
  all_goals go_ret
  all_goals exact ⟨rfl, _, rfl⟩

theorem more_err (r : Nat) (ba : Option Addr) (bl bc p b : Nat) (w : World) (h : RBx r ba bl bc p (atErr b) w) :
    Calls Tryd.prog 117 #[.pointer (some ⟨r, 0, none⟩)] w fun e w' => e = .returned (.bool false) ∧ ∃ n, w' = w.drewN n := by
  obtain ⟨c0, c1, c2, f1, f2⟩ := h.cells
  unfold atErr at c2
  clear h
  go_enter Tryd.func117, Tryd.ntmps117
  go_wp2_with fail
  go_quiet (fail)
  all_goals go_wp2_with fail
  all_goals go_ret
  all_goals exact ⟨rfl, _, rfl⟩

theorem err_ok (r : Nat) (ba : Option Addr) (bl bc p : Nat) (w : World) (h : RBx r ba bl bc p .nilIface w) :
    Calls Tryd.prog 118 #[.pointer (some ⟨r, 0, none⟩)] w fun e w' => e = .returned .nilIface ∧ w = w' := by
  obtain ⟨c0, c1, c2, f1, f2⟩ := h.cells
  clear h
  go_enter Tryd.func118, Tryd.ntmps118
  go_wp2_with fail
  go_ret
  exact ⟨rfl, rfl⟩
theorem err_err (r : Nat) (ba : Option Addr) (bl bc p b : Nat) (w : World) (h : RBx r ba bl bc p (atErr b) w) :
    Calls Tryd.prog 118 #[.pointer (some ⟨r, 0, none⟩)] w fun e w' => e = .returned (.iface 164 (.pointer (some ⟨b, 0, none⟩))) ∧ w = w' := by
  obtain ⟨c0, c1, c2, f1, f2⟩ := h.cells
  unfold atErr at c2
  clear h
  go_enter Tryd.func118, Tryd.ntmps118
  go_wp2_with fail
  go_ret
  exact ⟨rfl, rfl⟩

/-- What fail lays: an At around a listed error. -/
def FailP (a : Nat → Addr) (r : Nat) (ba : Option Addr) (bl bc p m : Nat) (pos : Int) (w w' : World) : Prop :=
  ∃ b, RBx r ba bl bc p (atErr b) w' ∧ AtBox a b m pos w' ∧ w.heap.size ≤ b ∧ w.grownBy w' (some r)

theorem fail_new (a : Nat → Addr) (r : Nat) (ba : Option Addr) (bl bc p m : Nat) (pos : Int) (x : Addr) (hx : a m = x) (w : World) (h : RBx r ba bl bc p .nilIface w) :
    Calls Tryd.prog 140 #[.pointer (some ⟨r, 0, none⟩), .int .i64 pos, .iface 211 (.pointer (some x))] w fun e w' => e = .returned (.tuple #[]) ∧ FailP a r ba bl bc p m pos w w' := by
  obtain ⟨c0, c1, c2, f1, f2⟩ := h.cells
  have hbl : Below w.heap.size w (w.alloc (.cells #[.int .i64 pos, .iface 211 (.pointer (some x))] 166)) := (Below.refl _ _).alloc (Nat.le_refl _) _
  have hrl : r < w.heap.size := (Array.getElem?_eq_some_iff.1 h).1
  have h2 := h.stays hbl
  obtain ⟨d0, d1, d2, g1, g2⟩ := h2.cells
  have FIN : Hid (FailP a r ba bl bc p m pos w ((w.alloc (.cells #[.int .i64 pos, .iface 211 (.pointer (some x))] 166)).setCell ⟨r, 2, none⟩ (.iface 164 (.pointer (some ⟨w.heap.size, 0, none⟩))))) := Lib.hid (by
    refine ⟨w.heap.size, (heap_setCell_same _ r 2 _ _ _ h2).trans rfl, ?_, Nat.le_refl _, ?_⟩
    · unfold AtBox
      rw [hx]
      exact (heap_setCell_other _ ⟨r, 2, none⟩ w.heap.size _ (by show w.heap.size ≠ r; omega)).trans (heap_alloc_new w _)
    · refine ⟨rfl, rfl, rfl, by simp, fun k hk hne => ?_⟩
      exact (heap_setCell_other _ ⟨r, 2, none⟩ k _ (fun e => hne (by rw [e]))).trans (hbl.block k hk))
  clear h hx h2 hbl hrl d0 d1
  go_enter Tryd.func140, Tryd.ntmps140
  go_wp2_with fail
  exact bodyPost_end (v := .tuple #[]) (by simp [results, Tryd.results140, go_sem]) rfl ⟨rfl, FIN.out⟩

/-- What cut answers where all the bytes that are left go on, and are few. -/
theorem cut_yes (r b off bl bc p : Nat) (bs : List Nat) (w : World) (h : RBx r (some ⟨b, off, none⟩) bl bc p .nilIface w) (hlen : bs.length = bl) (hp : p ≤ bl) (hbc : bl ≤ bc) (hm : bc ≤ maxLen) (hc : CutAt bs p) (hcell : ∀ j, j < bl → w.cell? ⟨b, off + j, none⟩ = some (.int .u8 (bs.getD j 0 : Nat))) :
    Calls Tryd.prog 152 #[.pointer (some ⟨r, 0, none⟩)] w fun e w' => e = .returned (.bool true) ∧ ∃ n, w' = w.drewN n := by
  obtain ⟨c0, c1, c2, f1, f2⟩ := h.cells
  have hfew := hc.few
  rw [hlen] at hfew
  unfold maxLen at hm
  have HH : Hid (∀ j, p + j < bl → ∃ g : Nat, w.cell? ⟨b, off + p + j, none⟩ = some (.int .u8 (g : Int)) ∧ 128 ≤ g) := Lib.hid fun j hj => by
    refine ⟨bs.getD (p + j) 0, ?_, ?_⟩
    · rw [Nat.add_assoc]; exact hcell (p + j) hj
    · refine hc.high _ ?_
      have e : bs.getD (p + j) 0 = (bs.drop p)[j]'(by rw [List.length_drop]; omega) := by
        rw [List.getD_eq_getElem?_getD, List.getElem?_eq_getElem (by omega), List.getElem_drop]; rfl
      rw [e]
      exact List.getElem_mem _
  clear h hc hcell hlen
  by_cases hpb : p = bc
  · have hz : bl = p := by omega
    subst hz
    subst hpb
    go_enter Tryd.func152, Tryd.ntmps152
    go_wp2_with fail
    go_quiet (fail)
    all_goals go_wp2_with fail
    all_goals
      go_loop [17] (fun si => si = .int .i64 0) (fun _ => 0)
      case atStart => rfl
      case round =>
        obtain rfl := hrel
        go_wp2_with fail
        go_ret
        exact ⟨rfl, _, rfl⟩
  · have t1 : (bc == p) = false := by simp; omega
    have t2 : ¬ bc = p := by omega
    have t3 : ¬ p = bc := hpb
    obtain ⟨m, hm2⟩ : ∃ m, bl - p = m := ⟨_, rfl⟩
    go_enter Tryd.func152, Tryd.ntmps152
    go_wp2_with fail
    go_quiet (fail)
    all_goals go_wp2_with fail
    all_goals
      go_loop [17] (fun si => ∃ j : Nat, j ≤ m ∧ si = .int .i64 j) (fun si => m - (intOf si).toNat)
      case atStart => exact ⟨0, Nat.zero_le _, rfl⟩
      case round =>
        obtain ⟨j, hj, rfl⟩ := hrel
        by_cases hjm : j < m
        · have t4 : decide (j < m) = true := by simpa using hjm
          obtain ⟨g, hg, hg8⟩ := HH.out j (by omega)
          have t5 : decide ((g : Int) < 128) = false := by simp; omega
          go_wp2_with fail
          go_round
          case rel => exact ⟨j + 1, by omega, by go_num⟩
          case measure => simp [intOf]; omega
        · obtain rfl : j = m := by omega
          have t4 : decide (j < j) = false := by simp
          have t5 : decide ((j : Int) < 10) = true := by simp; omega
          go_wp2_with fail
          go_ret
          exact ⟨rfl, _, rfl⟩

end Go.Proofs.YtjcklfbpdjfibaaDoor

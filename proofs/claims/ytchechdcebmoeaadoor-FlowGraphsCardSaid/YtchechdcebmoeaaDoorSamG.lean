/-
  Two lists of bools, two lists of lists, that are the same.
-/
import Derived.Test.YtchechdcebmoeaaDoorFwD
import Derived.Test.YtchechdcebmoeaaDoorSameI
import Derived.Deep.RegionHeld3
namespace Go.Proofs.YtchechdcebmoeaaDoor
open Go.RowKit

def SamBRel (n : Nat) (w : World) (s5 : Value) (wr : World) : Prop := ∃ i : Nat, i ≤ n ∧ s5 = .int .i64 i ∧ Below w.heap.size w wr

set_option maxHeartbeats 2000000 in
set_option maxRecDepth 100000 in
theorem same_bools (ab bb n ca cb : Nat) (F G : Nat → Bool) (w : World) (hn : n ≤ 140737488351232) (ha : ∀ j, j < n → w.cell? ⟨ab, j, none⟩ = some (.bool (F j))) (hb : ∀ j, j < n → w.cell? ⟨bb, j, none⟩ = some (.bool (G j))) (he : ∀ j, j < n → F j = G j) :
    Calls Tryd.prog 49 #[.slice (some ⟨ab, 0, none⟩) n ca, .slice (some ⟨bb, 0, none⟩) n cb] w (TruePost w) := by
  have HA := Lib.hid ha
  have HB := Lib.hid hb
  have HE := Lib.hid he
  have R0 : Hid (SamBRel n w (.int .i64 0) w) := Lib.hid ⟨0, Nat.zero_le _, rfl, Below.refl _ _⟩
  clear ha hb he
  go_enter Tryd.func49, Tryd.ntmps49
  go_wp2_with fail
  go_loopw [5] (fun s5 wr => SamBRel n w s5 wr) (fun s5 _ => n - (intOf s5).toNat)
  case atStart => exact R0.out
  case round =>
    clear R0
    obtain ⟨i, hi, rfl, hW⟩ := hrel
    by_cases hlt : i < n
    · have t1 : decide ((i : Int) < n) = true := by simp; omega
      have t1' : decide (i < n) = true := by simpa using hlt
      have c1 := (hW.cell (World.block_lt_of_cell? w _ (HA.out i hlt))).trans (HA.out i hlt)
      have c2 := (hW.cell (World.block_lt_of_cell? w _ (HB.out i hlt))).trans (HB.out i hlt)
      rw [HE.out i hlt] at c1
      generalize G i = b at *
      have tb : (b == b) = true := by simp
      have HDR : Hid (∀ n, Below w.heap.size w (wr.drewN n)) := Lib.hid fun n => below_drewN hW n
      clear hW
      go_wp2_with fail
      go_quiet (fail)
      go_wp2_with fail
      go_roundw
      case rel => exact ⟨i + 1, by omega, by go_num, HDR.out _⟩
      case measure => simp [intOf]; omega
    · obtain rfl : n = i := by omega
      have t1 : decide ((n : Int) < n) = false := by simp
      have t1' : decide (n < n) = false := by simp
      have FIN := Lib.hid hW
      clear hW
      go_wp2_with fail
      go_ret
      exact ⟨rfl, FIN.out⟩

set_option maxHeartbeats 2000000 in
set_option maxRecDepth 100000 in
theorem same_lists (a b : Option Addr) (n ca cb : Nat) (g : List (List Int)) (w : World) (ha : Grf w a n ca g) (hb : Grf w b n cb g) (hd : ∀ v, degW g v ≤ 1000000) (hn : n ≤ 1000000) :
    Calls Tryd.prog 52 #[.slice a n ca, .slice b n cb] w (TruePost w) := by
  have HA := Lib.hid ha
  have HB := Lib.hid hb
  have HD := Lib.hid hd
  have R0 : Hid (SamBRel n w (.int .i64 0) w) := Lib.hid ⟨0, Nat.zero_le _, rfl, Below.refl _ _⟩
  clear ha hb hd
  go_enter Tryd.func52, Tryd.ntmps52
  go_wp2_with fail
  go_loopw [5] (fun s5 wr => SamBRel n w s5 wr) (fun s5 _ => n - (intOf s5).toNat)
  case atStart => exact R0.out
  case round =>
    clear R0
    obtain ⟨i, hi, rfl, hW⟩ := hrel
    by_cases hlt : i < n
    · have t1 : decide ((i : Int) < n) = true := by simp; omega
      have t1' : decide (i < n) = true := by simpa using hlt
      obtain ⟨b1, o1, rfl, hb1, hc1⟩ := HA.out.at_ (by omega)
      obtain ⟨b2, o2, rfl, hb2, hc2⟩ := HB.out.at_ (by omega)
      obtain ⟨ra1, rc1, c10, hr1⟩ := hc1 i hlt
      obtain ⟨ra2, rc2, c20, hr2⟩ := hc2 i hlt
      have c1 := (hW.cell (p := ⟨b1, o1 + i, none⟩) hb1).trans c10
      have c2 := (hW.cell (p := ⟨b2, o2 + i, none⟩) hb2).trans c20
      have hdi := HD.out i
      have KI : Hid (∀ w', Below wr.heap.size wr w' → Calls Tryd.prog 28 #[.slice ra1 (degW g i) rc1, .slice ra2 (degW g i) rc2] w' (fun e w'' => e = .returned (.bool true) ∧ Below wr.heap.size wr w'')) := Lib.hid fun w' hb' => by
        have hbw : Below w.heap.size w w' := hW.trans (hb'.mono hW.size)
        refine (same_ints ra1 ra2 _ rc1 _ rc2 _ _ w' (Row_cells hr1 hbw) (Row_cells hr2 hbw) (by omega)).mono ?_
        rintro e w'' ⟨rfl, n, rfl⟩
        exact ⟨by simp, below_drewN hb' n⟩
      have HM1 : Hid (Below wr.heap.size wr wr.drew) := Lib.hid (below_drew (Below.refl _ _))
      have KEEP : Hid (∀ w', Below wr.heap.size wr w' → w'.cell? ⟨b1, o1 + i, none⟩ = some (.slice ra1 (degW g i) rc1) ∧ w'.cell? ⟨b2, o2 + i, none⟩ = some (.slice ra2 (degW g i) rc2)) := Lib.hid fun w' hb' => ⟨(hb'.cell (World.block_lt_of_cell? wr _ c1)).trans c1, (hb'.cell (World.block_lt_of_cell? wr _ c2)).trans c2⟩
      have HW := Lib.hid hW
      clear hW hc1 hc2 c10 c20 hr1 hr2 hb1 hb2
      generalize degW g i = d at *
      go_wp2_with fail
      go_region_held3 (fun w' => w'.cell? ⟨b1, o1 + i, none⟩ = some (.slice ra1 d rc1) ∧ w'.cell? ⟨b2, o2 + i, none⟩ = some (.slice ra2 d rc2)) (first | exact KEEP.out _ HM1.out | (exact KEEP.out _ (by assumption)) | fail)
        ((first
          | (go_at_call 28; (with_reducible refine (KI.out _ (by first | exact HM1.out | assumption)).mono ?_); rintro e wx ⟨rfl, hx⟩)
          | fail))
      all_goals
        have FIN := Lib.hid (HW.out.trans (hx.mono HW.out.size))
        clear hx KI KEEP c1 c2
        go_wp2_with fail
        go_roundw
        case rel => exact ⟨i + 1, by omega, by go_num, FIN.out⟩
        case measure => simp [intOf]; omega
    · obtain rfl : n = i := by omega
      have t1 : decide ((n : Int) < n) = false := by simp
      have t1' : decide (n < n) = false := by simp
      have FIN := Lib.hid hW
      clear hW
      go_wp2_with fail
      go_ret
      exact ⟨rfl, FIN.out⟩

end Go.Proofs.YtchechdcebmoeaaDoor

/-
  What  stand on.
-/
import Derived.Test.YtchechdcebmoeaaDoorProg
import Derived.Test.YtchechdcebmoeaaDoorRows
import Derived.Test.YtchechdcebmoeaaDoorKit
import Derived.Test.YtchechdcebmoeaaDoorMem
import Derived.Test.YtchechdcebmoeaaDoorSetB
import Derived.BigQuiet
import Derived.Deep.RegionLaw
import Derived.IntWalk
import Derived.Laws.BitsAllLaws
import Derived.Laws.CopyOwn
import Derived.Lib.Hide
import Derived.Lib.LaidTab
import Derived.Lib.TrailingZeros
import Derived.LoopIn
import Derived.LoopNIn
import Derived.MakeChecks
import Derived.Maps.AppendAt
import Derived.OwnWalkIn
import Derived.RangeFuncBound
import Derived.RangeFuncBox
import Derived.RangeFuncCalls
import Derived.RangeFuncLeaves
import Derived.RangeFuncNested
import Derived.Shelf.Abstract
import Derived.Shelf.RegionOpen
import Derived.TacticsInMore
import Derived.WalkKit
namespace Go.Proofs.YtchechdcebmoeaaDoor
open Go Go.RowKit Go.Shelf

attribute [local go_sem] Oper.semAt_some

theorem tab_row : Rows.laid_math_bits_deBruijn64tab (H := Unit) = Lib.tabData .u8 (Lib.deBruijn64tab.map fun x : Nat => (x : Int)) := rfl

theorem tab_of_laid {w : World} (h : laidMetH Tryd.prog [("math/bits.deBruijn64tab", Rows.laid_math_bits_deBruijn64tab)] w) : TabOk w := by
  rw [tab_row] at h
  rw [MakeChecks.laidMetH_plain _ _ _ rfl] at h
  have hg : Tryd.prog.globalNamed "math/bits.deBruijn64tab" = some 4 := by kernel_rfl
  have ht := Lib.tabIs_of_head (t := 206) (e := 5) (n := 64) hg (by kernel_rfl) Tryd.underlying206 Tryd.underlying5 (by kernel_rfl) (by kernel_rfl) h
  intro j hj
  have hc := ht.cell hg j (by simpa [Lib.deBruijn64tab] using hj)
  rw [hc]
  have hl : j < Lib.deBruijn64tab.length := hj
  simp [List.getD, hl]

end Go.Proofs.YtchechdcebmoeaaDoor

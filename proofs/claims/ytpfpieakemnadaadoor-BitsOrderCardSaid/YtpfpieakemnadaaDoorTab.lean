/-
  The listed table: what the premise on it gives.
-/
import Derived.Test.YtpfpieakemnadaaDoorTell
import Derived.Test.YtpfpieakemnadaaDoorRows
import Derived.Lib.LaidTab
import Derived.MakeChecks
namespace Go.Proofs.YtpfpieakemnadaaDoor
open Go.RowKit

theorem tab_row : Rows.laid_math_bits_deBruijn64tab (H := Unit) = Lib.tabData .u8 (Lib.deBruijn64tab.map fun x : Nat => (x : Int)) := rfl

theorem tab_of_laid {w : World} (h : laidMetH Tryd.prog [("math/bits.deBruijn64tab", Rows.laid_math_bits_deBruijn64tab)] w) : TabOk w := by
  rw [tab_row] at h
  rw [MakeChecks.laidMetH_plain _ _ _ rfl] at h
  have hg : Tryd.prog.globalNamed "math/bits.deBruijn64tab" = some 2 := by kernel_rfl
  have ht := Lib.tabIs_of_head (t := 147) (e := 5) (n := 64) hg (by kernel_rfl) Tryd.underlying147 Tryd.underlying5 (by kernel_rfl) (by kernel_rfl) h
  intro j hj
  have hc := ht.cell hg j (by simpa [Lib.deBruijn64tab] using hj)
  rw [hc]
  have hl : j < Lib.deBruijn64tab.length := hj
  simp [List.getD, hl]

end Go.Proofs.YtpfpieakemnadaaDoor

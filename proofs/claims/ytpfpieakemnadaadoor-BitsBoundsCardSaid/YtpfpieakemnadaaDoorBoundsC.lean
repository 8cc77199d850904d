/-
  The law on bounds, from the listed table.
-/
import Derived.Test.YtpfpieakemnadaaDoorBounds
import Derived.Test.YtpfpieakemnadaaDoorTab
namespace Go.Proofs.YtpfpieakemnadaaDoor
open Go.RowKit

theorem bounds_main (z : Int) (w : World) (hz : (Lit.int .i64 z).wf = true) (hL : laidMetH Tryd.prog Rows.bitsBoundsRow.laid w) :
    Calls Tryd.prog 5 #[.int .i64 z] w (TruePost w) := bounds_law z w hz (tab_of_laid hL)

end Go.Proofs.YtpfpieakemnadaaDoor

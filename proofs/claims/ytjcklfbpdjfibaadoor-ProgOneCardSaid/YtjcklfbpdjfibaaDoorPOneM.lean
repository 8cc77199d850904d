/-
  The law on any one instruction: true, whatever comes.
-/
import Derived.Test.YtjcklfbpdjfibaaDoorPOne
import Derived.Test.YtjcklfbpdjfibaaDoorPOneA
import Derived.Test.YtjcklfbpdjfibaaDoorPOneB
import Derived.Test.YtjcklfbpdjfibaaDoorPOneC
import Derived.Test.YtjcklfbpdjfibaaDoorPOneN
namespace Go.Proofs.YtjcklfbpdjfibaaDoor
open Go.RowKit

theorem pone_main (op A B N : Int) (w : World) (_h1 : (Lit.int .i64 op).wf = true) (_h2 : (Lit.int .i64 A).wf = true) (_h3 : (Lit.int .i64 B).wf = true) (_h4 : (Lit.int .i64 N).wf = true) (hL : laidMetH Tryd.prog Rows.progOneRow.laid w) :
    Calls Tryd.prog 6 #[.int .i64 op, .int .i64 A, .int .i64 B, .int .i64 N] w (TruePost w) := by
  obtain ⟨a, hS⟩ := sents_of_laid (show (sentTexts.map mkSent : List (String × DataW Unit)) = Rows.progOneRow.laid from rfl) (by kernel_rfl) hL
  rcases oneC_cases op A B N with ⟨h, _⟩ | ⟨h, hc⟩ | ⟨h, hc⟩ | ⟨h, hc⟩
  · exact pone_kind a op A B N w hS h
  · exact pone_ok a op A B N w hS h hc
  · exact pone_target a op A B N w hS h hc
  · exact pone_index a op A B N w hS h hc

end Go.Proofs.YtjcklfbpdjfibaaDoor

/-
  ProgEffects: every input.
-/
import Derived.Test.YtjffbojgdemooaaDoorEfF
import Derived.Test.YtjffbojgdemooaaDoorPMyM
namespace Go.Proofs.YtjffbojgdemooaaDoor
open Go.RowKit

theorem effmain (v0 : Value) (a1 a2 a3 a4 a5 : Int) (w : World) (h0 : ProgIn w v0) (_h1 : (Lit.int .i64 a1).wf = true) (_h2 : (Lit.int .i64 a2).wf = true) (_h3 : (Lit.int .i64 a3).wf = true) (_h4 : (Lit.int .i64 a4).wf = true) (_h5 : (Lit.int .i64 a5).wf = true) (hL : laidMetH Tryd.prog Rows.progEffectsRow.laid w) :
    Calls Tryd.prog 5 #[v0, .int .i64 a1, .int .i64 a2, .int .i64 a3, .int .i64 a4, .int .i64 a5] w (TruePost w) := by
  obtain ⟨a, hS⟩ := sents_of_laid (show (sentTexts.map mkSent : List (String × DataW Unit)) = Rows.progEffectsRow.laid from rfl) (by kernel_rfl) hL
  obtain ⟨ca, nc, cc, f, ma, nm, mc, ms, rfl, hp, hw⟩ := h0
  exact effects_walk a ca nc cc f ma nm mc ms a1 a2 a3 a4 a5 w hS hp hw

end Go.Proofs.YtjffbojgdemooaaDoor

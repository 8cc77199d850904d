/-
  ProgMay: every input.
-/
import Derived.Test.YtjffbojgdemooaaDoorPMy1
import Derived.Test.YtjffbojgdemooaaDoorPOp
import Derived.Test.YtjffbojgdemooaaDoorRows
namespace Go.Proofs.YtjffbojgdemooaaDoor
open Go.RowKit

/-- A program by value that comes in. -/
def ProgIn (w : World) (v : Value) : Prop := ∃ (ca : Option Addr) (nc cc : Nat) (f : Nat → ByteArray) (ma : Option Addr) (nm mc : Nat) (ms : Nat → Meth), v = .agg #[.slice ca nc cc, .slice ma nm mc] ∧ Prg w ca nc cc f ma nm mc ms ∧ Wid nc f nm ms

theorem maymain (v0 v1 : Value) (w : World) (h0 : ProgIn w v0) (h1 : ProgIn w v1) (hL : laidMetH Tryd.prog Rows.progMayRow.laid w) :
    Calls Tryd.prog 4 #[v0, v1] w (TruePost w) := by
  obtain ⟨a, hS⟩ := sents_of_laid (show (sentTexts.map mkSent : List (String × DataW Unit)) = Rows.progMayRow.laid from rfl) (by kernel_rfl) hL
  obtain ⟨ca, nc, cc, f, ma, nm, mc, ms, rfl, hp, hw⟩ := h0
  obtain ⟨cb, nd, cd, g, mb, nn, nc', ns, rfl, hp2, hw2⟩ := h1
  exact may_walk a ca nc cc f ma nm mc ms cb nd cd g mb nn nc' ns w hS hp hp2 hw hw2

end Go.Proofs.YtjffbojgdemooaaDoor

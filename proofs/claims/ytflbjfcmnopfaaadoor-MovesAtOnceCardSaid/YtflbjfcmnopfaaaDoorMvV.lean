/-
  MovesAtOnce: whatever is handed in.
-/
import Derived.Test.YtflbjfcmnopfaaaDoorMvI
namespace Go.Proofs.YtflbjfcmnopfaaaDoor
open Go.RowKit

/-- The statement's walk: whatever is handed in. -/
theorem once_all (a : Option Addr) (len cap : Nat) (gv : Nat → Nat → Int) (spare : Int) (ka : Option Addr) (kn kc : Nat) (zs : List Int) (w : World) (h : Movs w a len cap gv) (_hs : (Lit.int .i64 spare).wf = true) (hk : Row .i64 w ka kn kc zs) (hL : laidMetH Tryd.prog Rows.movesAtOnceRow.laid w) :
    Calls Tryd.prog 13 #[.slice a len cap, .int .i64 spare, .slice ka kn kc] w (TruePost w) := by
  obtain ⟨sa, S⟩ := sents_of_laid (show (sentTexts.map mkSent : List (String × DataW Unit)) = Rows.movesAtOnceRow.laid from rfl) (by kernel_rfl) hL
  have h1 := h.le
  have h2 := h.max
  have h3 := hk.le
  have h4 := hk.max
  by_cases g : (60 < len ∧ len ≤ 500) ∨ 600 < len ∨ 40 < kn
  · unfold maxLen at h2 h4
    exact once_off a len cap spare ka kn kc w (by omega) (by omega) g
  · by_cases g2 : 500 < len
    · exact once_many sa a len cap spare ka kn kc w S h1 h2 (by omega) (by omega)
    · exact once_main sa a len cap _ spare ka kn kc zs w S (movs_any h) (by omega) hk (by omega)

end Go.Proofs.YtflbjfcmnopfaaaDoor

/-
  The law on counts, whole.
-/
import Derived.Test.YtjcklfbpdjfibaaDoorCntK0
import Derived.Test.YtjcklfbpdjfibaaDoorCntK1
import Derived.Test.YtjcklfbpdjfibaaDoorCntK2
import Derived.Test.YtjcklfbpdjfibaaDoorCntK3
import Derived.Test.YtjcklfbpdjfibaaDoorCntK4
namespace Go.Proofs.YtjcklfbpdjfibaaDoor
open Go.RowKit

theorem tmod_5 (x : Int) : -4 ≤ x.tmod 5 ∧ x.tmod 5 ≤ 4 := by
  have h1 := Int.tmod_lt_of_pos x (show (0 : Int) < 5 by decide)
  have h2 : -5 < x.tmod 5 := by
    rcases Int.le_total 0 x with h | h
    · have := Int.tmod_nonneg 5 h; omega
    · have e : (-x).tmod 5 = -(x.tmod 5) := Int.neg_tmod x 5
      have h3 := Int.tmod_lt_of_pos (-x) (show (0 : Int) < 5 by decide)
      omega
  omega

theorem counts_main (what n : Int) (w : World) (_h1 : (Lit.int .i64 what).wf = true) (_h2 : (Lit.int .i64 n).wf = true) (hL : laidMetH Tryd.prog Rows.progCountsRow.laid w) :
    Calls Tryd.prog 7 #[.int .i64 what, .int .i64 n] w (TruePost w) := by
  obtain ⟨a, hS⟩ := sents_of_laid (show (sentTexts.map mkSent : List (String × DataW Unit)) = Rows.progCountsRow.laid from rfl) (by kernel_rfl) hL
  have hb := tmod_5 what
  have h : (what.tmod 5 + 5).tmod 5 = 0 ∨ (what.tmod 5 + 5).tmod 5 = 1 ∨ (what.tmod 5 + 5).tmod 5 = 2 ∨ (what.tmod 5 + 5).tmod 5 = 3 ∨ (what.tmod 5 + 5).tmod 5 = 4 := by
    generalize what.tmod 5 = r at *
    rw [Int.tmod_eq_emod_of_nonneg (show 0 ≤ r + 5 by omega)]
    omega
  rcases h with h | h | h | h | h
  · exact counts_0 a what n w hS h hb
  · exact counts_1 a what n w hS h hb
  · exact counts_2 a what n w hS h hb
  · exact counts_3 a what n w hS h hb
  · exact counts_4 a what n w hS h hb

end Go.Proofs.YtjcklfbpdjfibaaDoor

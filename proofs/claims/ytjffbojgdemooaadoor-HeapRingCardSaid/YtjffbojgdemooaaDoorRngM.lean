/-
  HeapRing: every input.
-/
import Derived.Test.YtjffbojgdemooaaDoorRng3
namespace Go.Proofs.YtjffbojgdemooaaDoor
open Go.RowKit

theorem tmodR (x m : Int) (hm : 0 < m) : -m < x.tmod m ∧ x.tmod m < m := by
  have h1 := Int.tmod_lt_of_pos x hm
  refine ⟨?_, h1⟩
  by_cases h : 0 ≤ x
  · have := Int.tmod_nonneg m h; omega
  · have e : (-x).tmod m = -(x.tmod m) := Int.neg_tmod x m
    have h3 := Int.tmod_lt_of_pos (-x) hm
    omega

theorem ring_main (x0 x1 v : Int) (w : World) (_h0 : (Lit.int .i64 x0).wf = true) (_h1 : (Lit.int .i64 x1).wf = true) (_hv : (Lit.int .i64 v).wf = true) :
    Calls Tryd.prog 11 #[.int .i64 x0, .int .i64 x1, .int .i64 v] w (TruePost w) := by
  have h1 := tmodR x0 40 (by decide)
  have h2 := tmodR (x0.tmod 40 + 40) 40 (by decide)
  have h3 := Int.tmod_nonneg 40 (show 0 ≤ x0.tmod 40 + 40 by omega)
  obtain ⟨n, hn⟩ : ∃ n : Nat, (x0.tmod 40 + 40).tmod 40 + 1 = n := ⟨((x0.tmod 40 + 40).tmod 40 + 1).toNat, by omega⟩
  have g1 := tmodR x1 n (by omega)
  have g2 := tmodR (x1.tmod n + n) n (by omega)
  have g3 := Int.tmod_nonneg n (show 0 ≤ x1.tmod n + n by omega)
  obtain ⟨s, hs⟩ : ∃ s : Nat, (x1.tmod n + n).tmod n = s := ⟨((x1.tmod n + n).tmod n).toNat, by omega⟩
  exact ring_walk x0 x1 v w n s (by omega) (by omega) (by omega) hn h1 hs g1

end Go.Proofs.YtjffbojgdemooaaDoor

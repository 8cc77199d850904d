/-
  The chapter's examples on sets (the law's own 'first'): true.
-/
import Derived.Test.YtpfpieakemnadaaDoorSetF
import Derived.Test.YtpfpieakemnadaaDoorSameI
namespace Go.Proofs.YtpfpieakemnadaaDoor
open Go.RowKit

def ex1 (j : Nat) : Bool := decide (j = 3)
def ex2 (j : Nat) : Bool := decide (j = 3) || decide (j = 69)

theorem row_two_i64 (w : World) (x y : Nat) (hx : x < 256) (hy : y < 256) : Row .i64 (w.alloc (.cells #[.int .i64 (x : Int), .int .i64 (y : Int)] 3)) (some ⟨w.heap.size, 0, none⟩) 2 2 [(x : Int), (y : Int)] := by
  refine ⟨rfl, Nat.le_refl _, (by unfold maxLen; omega), fun h => (by cases h), fun ad had j hj => ?_, fun n hn => ?_⟩
  · cases had
    match j, hj with
    | 0, _ => simp [Addr.add, World.cell?_alloc_at]
    | 1, _ => simp [Addr.add, World.cell?_alloc_at]
  · have h : n = x ∨ n = y := by simpa using hn
    rcases h with rfl | rfl <;> simp [Lit.wf, IntKind.min, IntKind.max, IntKind.signed, IntKind.bits] <;> omega

set_option maxRecDepth 100000 in
theorem bfirst (w : World) (hT : TabOk w) : Calls Tryd.prog 15 #[] w (TruePost w) := by
  have HT := Lib.hid hT
  clear hT
  go_enter Tryd.func15, Tryd.ntmps15
  go_wp2_with fail
  refine (newF 70 _ (by decide)).mono ?_
  rintro e w1 ⟨s, r, rfl, hs1, hb1⟩
  have H1 := Lib.hid hs1
  have B1 := Lib.hid hb1
  clear hs1 hb1
  go_wp2_with fail
  refine (addF 3 _ H1.out).mono ?_
  rintro e w2 ⟨he, hs2, hg2⟩
  obtain rfl : e = .returned (.bool true) := he
  have H2 : Hid (SetF w.heap.size s r 70 ex1 w2) := Lib.hid (hs2.congr fun j => by simp [inB, ex1])
  have B2 : Hid (Below w.heap.size w w2) := Lib.hid (below_own B1.out hg2 hs2.lo.2)
  clear hs2 hg2 H1 B1
  go_wp2_with fail
  refine (addF 3 _ H2.out).mono ?_
  rintro e w3 ⟨he, hs3, hg3⟩
  obtain rfl : e = .returned (.bool false) := he
  have H3 : Hid (SetF w.heap.size s r 70 ex1 w3) := Lib.hid (hs3.congr fun j => by simp [inB, ex1])
  have B3 : Hid (Below w.heap.size w w3) := Lib.hid (below_own B2.out hg3 hs3.lo.2)
  clear hs3 hg3 H2 B2
  go_wp2_with fail
  refine (addF 69 _ H3.out).mono ?_
  rintro e w4 ⟨he, hs4, hg4⟩
  obtain rfl : e = .returned (.bool true) := he
  have H4 : Hid (SetF w.heap.size s r 70 ex2 w4) := Lib.hid (hs4.congr fun j => by simp [inB, ex1, ex2])
  have B4 : Hid (Below w.heap.size w w4) := Lib.hid (below_own B3.out hg4 hs4.lo.2)
  clear hs4 hg4 H3 B3
  go_wp2_with fail
  refine (addF 70 _ H4.out).mono ?_
  rintro e w5 ⟨he, hs5, hg5⟩
  obtain rfl : e = .returned (.bool false) := he
  have H5 : Hid (SetF w.heap.size s r 70 ex2 w5) := Lib.hid (hs5.congr fun j => by simp [inB])
  have B5 : Hid (Below w.heap.size w w5) := Lib.hid (below_own B4.out hg5 hs5.lo.2)
  clear hs5 hg5 H4 B4
  go_wp2_with fail
  refine (listF _ H5.out (HT.out.below B5.out (Nat.le_refl _))).mono ?_
  rintro e w6 ⟨v, rfl, hown, _, hb6⟩
  have em : members ex2 70 = [3, 69] := by decide
  rw [em] at hown
  obtain ⟨a, cap, rfl, hrow⟩ := told_row hown (by simp)
  have HR := Lib.hid (Row_alloc hrow (.cells #[.int .i64 (3 : Nat), .int .i64 (69 : Nat)] 3))
  have HR2 := Lib.hid (row_two_i64 w6 3 69 (by decide) (by decide))
  have H6 : Hid (SetF w.heap.size s r 70 ex2 w6) := Lib.hid (H5.out.below hb6 H5.out.lt.1 H5.out.lt.2)
  have B6 : Hid (Below w.heap.size w w6) := Lib.hid (B5.out.trans (hb6.mono B5.out.size))
  clear H5 B5 hown hrow hb6
  go_wp2_with fail
  refine (same_ints a _ 2 cap 2 2 _ _ _ HR.out HR2.out (by decide)).mono ?_
  rintro e w7 ⟨he, nq, rfl⟩
  obtain rfl : e = .returned (.bool true) := he
  have H7 : Hid (SetF w.heap.size s r 70 ex2 ((w6.alloc (.cells #[.int .i64 (3 : Nat), .int .i64 (69 : Nat)] 3)).drewN nq)) := Lib.hid (SetF.kept (H6.out.kept (Below.heap_alloc _ _ _ H6.out.lt.1) (Below.heap_alloc _ _ _ H6.out.lt.2)) rfl rfl)
  clear HR HR2
  go_wp2_with fail
  refine (lenF _ H7.out).mono ?_
  rintro e w' ⟨he, rfl⟩
  obtain rfl : e = .returned (.int .i64 2) := he
  go_wp2_with fail
  go_ret
  exact ⟨rfl, below_drewN (B6.out.alloc B6.out.size _) nq⟩

end Go.Proofs.YtpfpieakemnadaaDoor

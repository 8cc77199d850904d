/-
  The law on sets that go their own way: true, whatever comes.
-/
import Derived.Test.YtpfpieakemnadaaDoorSetG
import Derived.Test.YtpfpieakemnadaaDoorTab
namespace Go.Proofs.YtpfpieakemnadaaDoor
open Go.RowKit

/-- A list of the call's own, of which only the length matters. -/
structure OwnR (base : Nat) (w : World) (a : Option Addr) (len : Nat) : Prop where
  nil : a = none → len = 0
  row : ∀ ad, a = some ad → ∃ g cur, ad = ⟨g, 0, none⟩ ∧ base ≤ g ∧ w.heap[g]? = some (.cells cur 3 (0, 0)) ∧ len ≤ cur.size

theorem own_of {base : Nat} {w : World} {v : Value} {len : Nat} {xs : List Value} (h : w.ownsRow base 3 1 v len xs) : ∃ a cap, v = .slice a len cap ∧ OwnR base w a len := by
  rcases h.2 with ⟨rfl, h0⟩ | ⟨g, cap, cur, rfl, hb, hg, hnc, hcm, hcs, ht⟩
  · subst h0
    exact ⟨none, 0, rfl, ⟨fun _ => rfl, fun ad h => (by cases h)⟩⟩
  · exact ⟨_, cap, rfl, ⟨fun h => (by cases h), fun ad had => (by cases had; exact ⟨g, _, rfl, hb, hg, by simp at hcs; omega⟩)⟩⟩

def WipeRel (base : Nat) (w0 : World) (a : Option Addr) (len : Nat) (si : Value) (wr : World) : Prop :=
  ∃ i : Nat, i ≤ len ∧ si = .int .i64 i ∧ OwnR base wr a len ∧ Below base w0 wr

theorem low7 (a : Int) : bits BinOp.and IntKind.i64 a 127 = a % 128 := low7_i64 a

set_option maxHeartbeats 2000000 in
set_option maxRecDepth 100000 in
theorem apart_law (a b : Option Addr) (la ca lb cb : Nat) (xs ys : List Int) (z : Int) (w : World) (ha : Row .i64 w a la ca xs) (hb : Row .i64 w b lb cb ys) (hT : TabOk w) :
    Calls Tryd.prog 7 #[.slice a la ca, .slice b lb cb, .int .i64 z] w (TruePost w) := by
  have e1 := low7_i64 z
  obtain ⟨k, hk⟩ : ∃ k : Nat, z % 128 = (k : Int) := ⟨(z % 128).toNat, by omega⟩
  have hk1 : k < 128 := by omega
  rw [hk] at e1
  have h1 := ha.max
  have h2 := ha.le
  have h3 := hb.max
  have h4 := hb.le
  unfold maxLen at h1 h3
  have HX := Lib.hid ha
  have HY := Lib.hid hb
  have HT := Lib.hid hT
  clear ha hb hT hk
  by_cases c1 : la ≤ 40
  · have d1 : decide ((40 : Int) < (la : Int)) = false := by simp; omega
    by_cases c2 : lb ≤ 40
    · have d2 : decide ((40 : Int) < (lb : Int)) = false := by simp; omega
      go_enter Tryd.func7, Tryd.ntmps7
      go_wp2_with fail
      refine (bfirst _ HT.out).mono ?_
      rintro e w1 ⟨rfl, hB1⟩
      have B1 := Lib.hid hB1
      have X1 := Lib.hid (Row_cells HX.out hB1)
      have Y1 := Lib.hid (Row_cells HY.out hB1)
      clear hB1
      go_wp2_with fail
      refine (set_of 200 a la ca xs _ (by decide) X1.out).mono ?_
      rintro e w2 ⟨sx, rx, rfl, hs2, hb2⟩
      have S2 := Lib.hid hs2
      have B2 : Hid (Below w.heap.size w w2) := Lib.hid (B1.out.trans (hb2.mono B1.out.size))
      have X2 := Lib.hid (Row_cells X1.out hb2)
      have Y2 := Lib.hid (Row_cells Y1.out hb2)
      clear hs2 hb2 X1 Y1
      go_wp2_with fail
      refine (set_of 200 b lb cb ys _ (by decide) Y2.out).mono ?_
      rintro e w3 ⟨sy, ry, rfl, hs3, hb3⟩
      have S3 := Lib.hid (S2.out.stays hb3)
      have T3 := Lib.hid hs3
      have B3 : Hid (Below w.heap.size w w3) := Lib.hid (B2.out.trans (hb3.mono B2.out.size))
      have X3 := Lib.hid (Row_cells X2.out hb3)
      clear hs3 hb3 S2 X2 Y2
      go_wp2_with fail
      refine (listF _ T3.out (HT.out.below B3.out (Nat.le_refl _))).mono ?_
      rintro e w4 ⟨v, rfl, hown, _, hb4⟩
      obtain ⟨wa, wc, rfl, hrow⟩ := told_row hown (members_lt T3.out.le)
      have S4 := Lib.hid (S3.out.stays hb4)
      have T4 := Lib.hid (T3.out.stays hb4)
      have B4 : Hid (Below w.heap.size w w4) := Lib.hid (B3.out.trans (hb4.mono B3.out.size))
      have X4 := Lib.hid (Row_cells X3.out hb4)
      have R4 := Lib.hid hrow
      clear hown hb4 hrow S3 T3 X3
      go_wp2_with fail
      refine (cloneF _ S4.out).mono ?_
      rintro e w5 ⟨sc, rc, rfl, hs5, hb5⟩
      have C5 := Lib.hid hs5
      have B5 := Lib.hid hb5
      clear hs5 hb5
      go_wp2_with fail
      refine (joinF _ C5.out (T4.out.stays B5.out) (by have := C5.out.lo.2; have := T4.out.lt.1; omega) (by have := C5.out.lo.2; have := T4.out.lt.2; omega)).mono ?_
      rintro e w6 ⟨fr, rfl, hs6, _, hg6⟩
      have C6 := Lib.hid hs6
      have B6 : Hid (Below w4.heap.size w4 w6) := Lib.hid (below_own B5.out hg6 hs6.lo.2)
      clear hs6 hg6 C5 B5
      go_wp2_with fail
      refine (addF (k : Int) _ C6.out).mono ?_
      rintro e w7 ⟨rfl, hs7, hg7⟩
      have C7 := Lib.hid hs7
      have B7 : Hid (Below w4.heap.size w4 w7) := Lib.hid (below_own B6.out hg7 hs7.lo.2)
      clear hs7 hg7 C6 B6
      go_wp2_with fail
      refine (cloneF _ (S4.out.stays B7.out)).mono ?_
      rintro e w8 ⟨sd, rd, rfl, hs8, hb8⟩
      have D8 := Lib.hid hs8
      have B8 := Lib.hid hb8
      clear hs8 hb8
      have hsz7 := B7.out.size
      go_wp2_with fail
      refine (lessF _ D8.out (T4.out.stays (B7.out.trans (B8.out.mono hsz7))) (by have := D8.out.lo.2; have := T4.out.lt.1; omega) (by have := D8.out.lo.2; have := T4.out.lt.2; omega)).mono ?_
      rintro e w9 ⟨rfl, hs9, hg9⟩
      have B9 : Hid (Below w7.heap.size w7 w9) := Lib.hid (below_own B8.out hg9 hs9.lo.2)
      clear hs9 hg9 D8 B8
      have hb49 := B7.out.trans (B9.out.mono hsz7)
      have B49 := Lib.hid hb49
      clear hb49
      go_wp2_with fail
      refine (listF _ (S4.out.stays B49.out) (HT.out.below (B4.out.trans (B49.out.mono B4.out.size)) (Nat.le_refl _))).mono ?_
      rintro e w10 ⟨v, rfl, hown, _, hb10⟩
      obtain ⟨ma, mc, rfl, hm⟩ := own_of hown
      have hsz9 := B9.out.size
      have R0 : Hid (WipeRel w9.heap.size w9 ma (members (inL xs 200) 200).length (.int .i64 ((0 : Nat) : Int)) w10) := Lib.hid ⟨0, Nat.zero_le _, rfl, hm, hb10⟩
      have hq : (members (inL xs 200) 200).length ≤ 200 := Nat.le_trans (List.length_filter_le _ _) (by simp)
      clear hown hb10 hm
      generalize (members (inL xs 200) 200).length = q at *
      go_wp2_with fail
      go_loopw [14] (fun si wr => WipeRel w9.heap.size w9 ma q si wr) (fun si _ => q - (intOf si).toNat)
      case atStart => exact R0.out
      case round =>
        obtain ⟨i, hi, rfl, hm, hb⟩ := hrel
        clear R0
        have HM := Lib.hid hm
        have HB := Lib.hid hb
        clear hm hb
        by_cases hlt : i < q
        · have t1 : decide (i < q) = true := by simpa using hlt
          cases ma with
          | none => have := HM.out.nil rfl; omega
          | some ad =>
            obtain ⟨g, cur, rfl, hbg, hg, hc⟩ := HM.out.row ad rfl
            have hgl := (Array.getElem?_eq_some_iff.1 hg).1
            have cf : wr.frozen? ⟨g, i, none⟩ = false := by
              exact frozen_of_row wr g i cur 3 hg
            have cg : ∃ x, wr.cell? ⟨g, i, none⟩ = some x := by
              have hil : i < cur.size := by omega
              exact ⟨cur[i], by rw [cell_of_row wr g i cur 3 (0, 0) hg]; simp [hil]⟩
            obtain ⟨x0, cg⟩ := cg
            have HSTEP : Hid (WipeRel w9.heap.size w9 (some ⟨g, 0, none⟩) q (.int .i64 ((i : Int) + 1)) (wr.setCell ⟨g, i, none⟩ (.int .i64 (-1)))) := Lib.hid (by
              have hgs : w9.heap.size ≤ g := hbg
              refine ⟨i + 1, by omega, by simp, ⟨fun h => (by cases h), fun ad had => ?_⟩, HB.out.setCell hgs _⟩
              cases had
              refine ⟨g, _, rfl, hgs, heap_setCell_same wr g i cur 3 _ hg, by simpa using hc⟩)
            clear hg hbg hc hgl
            go_wp2_with fail
            go_roundw
            case rel => exact HSTEP.out
            case measure => simp [intOf]; omega
        · obtain rfl : i = q := by omega
          have t1 : decide (i < i) = false := by simp
          have hb4 : Below w4.heap.size w4 wr := B49.out.trans (HB.out.mono (Nat.le_trans hsz7 hsz9))
          have hb7 : Below w7.heap.size w7 wr := B9.out.trans (HB.out.mono hsz9)
          have B4r := Lib.hid hb4
          have B7r := Lib.hid hb7
          clear hb4 hb7 HB
          go_wp2_with fail
          refine (set_of 200 a la ca xs _ (by decide) (Row_cells X4.out B4r.out)).mono ?_
          rintro e w11 ⟨sz, rz, rfl, hs11, hb11⟩
          have hb4 : Below w4.heap.size w4 w11 := B4r.out.trans (hb11.mono B4r.out.size)
          have hb7 : Below w7.heap.size w7 w11 := B7r.out.trans (hb11.mono B7r.out.size)
          have B4s := Lib.hid hb4
          have B7s := Lib.hid hb7
          have Z11 := Lib.hid hs11
          clear hb4 hb7 hb11 hs11 B4r B7r
          go_wp2_with fail
          refine (sameF _ (S4.out.stays B4s.out) Z11.out).mono ?_
          rintro e w' ⟨bb, rfl, hbb, nq, rfl⟩
          obtain rfl : bb = true := hbb.2 fun _ => rfl
          clear hbb
          have B4t : Hid (Below w4.heap.size w4 (w11.drewN nq)) := Lib.hid (below_drewN B4s.out nq)
          have B7t : Hid (Below w7.heap.size w7 (w11.drewN nq)) := Lib.hid (below_drewN B7s.out nq)
          clear B4s B7s Z11
          go_wp2_with fail
          refine (listF _ (T4.out.stays B4t.out) (HT.out.below (B4.out.trans (B4t.out.mono B4.out.size)) (Nat.le_refl _))).mono ?_
          rintro e w12 ⟨v, rfl, hown, _, hb12⟩
          obtain ⟨va, vc, rfl, hrow⟩ := told_row hown (members_lt T4.out.le)
          have V12 := Lib.hid hrow
          have hb4 : Below w4.heap.size w4 w12 := B4t.out.trans (hb12.mono B4t.out.size)
          have hb7 : Below w7.heap.size w7 w12 := B7t.out.trans (hb12.mono B7t.out.size)
          have R12 := Lib.hid (Row_cells R4.out hb4)
          have B4u := Lib.hid hb4
          have B7u := Lib.hid hb7
          clear hb4 hb7 hb12 hrow hown B4t B7t
          go_wp2_with fail
          refine (same_ints va wa _ vc _ wc _ _ _ V12.out R12.out (by have := Nat.le_trans (List.length_filter_le (inL ys 200) (List.range 200)) (by simp : (List.range 200).length ≤ 200); unfold members; omega)).mono ?_
          rintro e w13 ⟨he, mq, rfl⟩
          obtain rfl : e = .returned (.bool true) := by rw [he]; simp
          clear he
          go_wp2_with fail
          refine (hasF (k : Int) _ ((C7.out.stays B7u.out).drewN mq)).mono ?_
          rintro e w' ⟨he, rfl⟩
          obtain rfl : e = .returned (.bool true) := by
            rw [he, inB_of ⟨by omega, by omega⟩]
            simp
          clear he
          go_wp2_with fail
          go_ret
          exact ⟨rfl, below_drewN (B4.out.trans (B4u.out.mono B4.out.size)) mq⟩
    · have d2 : decide ((40 : Int) < (lb : Int)) = true := by simp; omega
      go_enter Tryd.func7, Tryd.ntmps7
      go_wp2_with fail
      refine (bfirst _ HT.out).mono ?_
      rintro e w1 ⟨rfl, hB1⟩
      have B1 := Lib.hid hB1
      clear hB1
      go_wp2_with fail
      go_ret
      exact ⟨rfl, B1.out⟩
  · have d1 : decide ((40 : Int) < (la : Int)) = true := by simp; omega
    go_enter Tryd.func7, Tryd.ntmps7
    go_wp2_with fail
    refine (bfirst _ HT.out).mono ?_
    rintro e w1 ⟨rfl, hB1⟩
    have B1 := Lib.hid hB1
    clear hB1
    go_wp2_with fail
    go_ret
    exact ⟨rfl, B1.out⟩

theorem apart_main (a : Option Addr) (la ca : Nat) (xs : List Int) (b : Option Addr) (lb cb : Nat) (ys : List Int) (z : Int) (w : World) (ha : Row .i64 w a la ca xs) (hb : Row .i64 w b lb cb ys) (hz : (Lit.int .i64 z).wf = true) (hL : laidMetH Tryd.prog Rows.bitsApartRow.laid w) :
    Calls Tryd.prog 7 #[.slice a la ca, .slice b lb cb, .int .i64 z] w (TruePost w) := apart_law a b la ca lb cb xs ys z w ha hb (tab_of_laid hL)

end Go.Proofs.YtpfpieakemnadaaDoor

/-
  The law on sets joined and taken away: true, whatever comes.
-/
import Derived.Test.YtpfpieakemnadaaDoorSetG
import Derived.Test.YtpfpieakemnadaaDoorTab
namespace Go.Proofs.YtpfpieakemnadaaDoor
open Go.RowKit

theorem many_or (f g F : Nat → Bool) (n : Nat) (h : ∀ j, F j = true → f j = true ∨ g j = true) : many F n ≤ many f n + many g n := by
  unfold many members
  induction List.range n with
  | nil => simp
  | cons a l ih =>
    simp only [List.filter_cons]
    have ha := h a
    cases hF : F a <;> cases hf : f a <;> cases hg : g a <;> simp_all <;> omega

theorem many_mono (f F : Nat → Bool) (n : Nat) (h : ∀ j, f j = true → F j = true) : many f n ≤ many F n := by
  unfold many members
  induction List.range n with
  | nil => simp
  | cons a l ih =>
    simp only [List.filter_cons]
    have ha := h a
    cases hF : F a <;> cases hf : f a <;> simp_all
    omega

theorem many_le (F : Nat → Bool) (n : Nat) : many F n ≤ n := by
  unfold many members
  exact Nat.le_trans (List.length_filter_le _ _) (by simp)

theorem inL_lt {zs : List Int} {n j : Nat} (h : inL zs n j = true) : j < n := by
  simp [inL] at h
  exact h.1

/-- What joins: everything in either, below the bound. -/
def joinB (f g : Nat → Bool) (n j : Nat) : Bool := f j || (g j && decide (j < n))
def lessB (f g : Nat → Bool) (j : Nat) : Bool := f j && !g j

set_option maxHeartbeats 4000000 in
set_option maxRecDepth 100000 in
theorem algebra_law (a : Option Addr) (la ca : Nat) (xs : List Int) (b : Option Addr) (lb cb : Nat) (ys : List Int) (c : Option Addr) (lc cc : Nat) (zs : List Int) (w : World)
    (ha : Row .i64 w a la ca xs) (hb : Row .i64 w b lb cb ys) (hc : Row .i64 w c lc cc zs) (hT : TabOk w) (c1 : la ≤ 60) (c2 : lb ≤ 60) (c3 : lc ≤ 60) :
    Calls Tryd.prog 4 #[.slice a la ca, .slice b lb cb, .slice c lc cc] w (TruePost w) := by
  have HX := Lib.hid ha
  have HY := Lib.hid hb
  have HZ := Lib.hid hc
  have HT := Lib.hid hT
  clear ha hb hc hT
  have d1 : decide ((60 : Int) < (la : Int)) = false := by simp; omega
  have d2 : decide ((60 : Int) < (lb : Int)) = false := by simp; omega
  have d3 : decide ((60 : Int) < (lc : Int)) = false := by simp; omega
  go_enter Tryd.func4, Tryd.ntmps4
  go_wp2_with fail
  refine (bfirst _ HT.out).mono ?_
  rintro e w1 ⟨rfl, hB1⟩
  have B1 := Lib.hid hB1
  have X1 := Lib.hid (Row_cells HX.out hB1)
  have Y1 := Lib.hid (Row_cells HY.out hB1)
  have Z1 := Lib.hid (Row_cells HZ.out hB1)
  clear hB1 HX HY HZ
  go_wp2_with fail
  refine (set_of 200 a la ca xs _ (by decide) X1.out).mono ?_
  rintro e w2 ⟨sx, rx, rfl, hs2, hb2⟩
  have S2 := Lib.hid hs2
  have B2 : Hid (Below w.heap.size w w2) := Lib.hid (B1.out.trans (hb2.mono B1.out.size))
  have Y2 := Lib.hid (Row_cells Y1.out hb2)
  have Z2 := Lib.hid (Row_cells Z1.out hb2)
  clear hs2 hb2 X1 Y1 Z1
  go_wp2_with fail
  refine (set_of 200 b lb cb ys _ (by decide) Y2.out).mono ?_
  rintro e w3 ⟨sy, ry, rfl, hs3, hb3⟩
  have S3 := Lib.hid (S2.out.stays hb3)
  have T3 := Lib.hid hs3
  have B3 : Hid (Below w.heap.size w w3) := Lib.hid (B2.out.trans (hb3.mono B2.out.size))
  have Z3 := Lib.hid (Row_cells Z2.out hb3)
  clear hs3 hb3 S2 Y2 Z2
  go_wp2_with fail
  refine (set_of 200 c lc cc zs _ (by decide) Z3.out).mono ?_
  rintro e w4 ⟨sz, rz, rfl, hs4, hb4⟩
  have S4 := Lib.hid (S3.out.stays hb4)
  have T4 := Lib.hid (T3.out.stays hb4)
  have U4 := Lib.hid hs4
  have B4 : Hid (Below w.heap.size w w4) := Lib.hid (B3.out.trans (hb4.mono B3.out.size))
  clear hs4 hb4 S3 T3 Z3 B1 B2 B3
  have hfl : ∀ j, inL xs 200 j = true → j < 200 := fun j => inL_lt
  have hgl : ∀ j, inL ys 200 j = true → j < 200 := fun j => inL_lt
  have hhl : ∀ j, inL zs 200 j = true → j < 200 := fun j => inL_lt
  generalize inL xs 200 = f at *
  generalize inL ys 200 = g at *
  generalize inL zs 200 = h at *
  have HFL := Lib.hid hfl
  have HGL := Lib.hid hgl
  have HHL := Lib.hid hhl
  obtain ⟨l1, l2⟩ := S4.out.lt
  obtain ⟨l3, l4⟩ := T4.out.lt
  obtain ⟨l5, l6⟩ := U4.out.lt
  clear hfl hgl hhl
  go_wp2_with fail
  refine (cloneF _ S4.out).mono ?_
  rintro e w5 ⟨sp, rp, rfl, hs5, hb5⟩
  have P5 := Lib.hid hs5
  obtain ⟨p1, p2⟩ := hs5.lo
  obtain ⟨p3, p4⟩ := hs5.lt
  have B5 := Lib.hid hb5
  clear hs5 hb5
  go_wp2_with fail
  refine (cloneF _ (T4.out.stays B5.out)).mono ?_
  rintro e w6 ⟨sq, rq, rfl, hs6, hb6⟩
  have Q6 := Lib.hid hs6
  obtain ⟨q1, q2⟩ := hs6.lo
  obtain ⟨q3, q4⟩ := hs6.lt
  have P6 := Lib.hid (P5.out.stays hb6)
  have B6 : Hid (Below w4.heap.size w4 w6) := Lib.hid (B5.out.trans (hb6.mono B5.out.size))
  clear hs6 hb6 P5 B5
  go_wp2_with fail
  refine (joinF _ P6.out (T4.out.stays B6.out) (by omega) (by omega)).mono ?_
  rintro e w7 ⟨fr, rfl, hs7, _, hg7⟩
  have P7 : Hid (SetF w4.heap.size sp rp 200 (joinB f g 200) w7) := Lib.hid hs7
  have Q7 := Lib.hid (Q6.out.grown hg7 (by omega) (by omega))
  have B7 : Hid (Below w4.heap.size w4 w7) := Lib.hid (below_own B6.out hg7 p2)
  clear hs7 hg7 P6 Q6 B6
  go_wp2_with fail
  refine (joinF _ Q7.out (S4.out.stays B7.out) (by omega) (by omega)).mono ?_
  rintro e w8 ⟨fr2, rfl, hs8, _, hg8⟩
  have Q8 : Hid (SetF w5.heap.size sq rq 200 (joinB g f 200) w8) := Lib.hid hs8
  have P8 := Lib.hid (P7.out.grown hg8 (by omega) (by omega))
  have B8 : Hid (Below w4.heap.size w4 w8) := Lib.hid (below_own B7.out hg8 (by omega))
  clear hs8 hg8 P7 Q7 B7
  go_wp2_with fail
  refine (joinF _ P8.out (T4.out.stays B8.out) (by omega) (by omega)).mono ?_
  rintro e w9 ⟨fr3, rfl, hs9, hfr, hg9⟩
  obtain rfl : fr3 = false := by
    cases fr3 with
    | false => rfl
    | true =>
      obtain ⟨j, j1, j2, j3⟩ := hfr.1 rfl
      simp [joinB, j1, j2] at j3
  have P9 : Hid (SetF w4.heap.size sp rp 200 (joinB f g 200) w9) := Lib.hid (hs9.congr fun j => by simp only [joinB]; cases f j <;> cases g j <;> simp)
  have Q9 := Lib.hid (Q8.out.grown hg9 (by omega) (by omega))
  have B9 : Hid (Below w4.heap.size w4 w9) := Lib.hid (below_own B8.out hg9 p2)
  clear hs9 hg9 hfr P8 Q8 B8
  go_wp2_with fail
  refine (sameF _ P9.out Q9.out).mono ?_
  rintro e w' ⟨bb, rfl, hbb, nq, rfl⟩
  obtain rfl : bb = true := hbb.2 fun j => by
    have h1 := HFL.out j
    have h2 := HGL.out j
    simp only [joinB]
    cases hf : f j <;> cases hg : g j <;> simp_all
  clear hbb
  have P9 := Lib.hid (P9.out.drewN nq)
  have Q9 := Lib.hid (Q9.out.drewN nq)
  have B9 : Hid (Below w4.heap.size w4 (w9.drewN nq)) := Lib.hid (below_drewN B9.out nq)
  have m1 := many_or f g (joinB f g 200) 200 (fun j hj => by simp [joinB] at hj; rcases hj with h | h; exact .inl h; exact .inr h.1)
  have m2 := many_mono f (joinB f g 200) 200 (fun j hj => by simp [joinB, hj])
  have m3 := many_mono g (joinB f g 200) 200 (fun j hj => by have := HGL.out j hj; simp [joinB, hj, this])
  have m4 := many_le f 200
  have m5 := many_le g 200
  have KP := Lib.hid (lenF _ P9.out)
  have KX := Lib.hid (lenF _ (S4.out.stays B9.out))
  have KY := Lib.hid (lenF _ (T4.out.stays B9.out))
  generalize many (joinB f g 200) 200 = np at *
  generalize many f 200 = nx at *
  generalize many g 200 = ny at *
  have a1 : IntKind.i64.wrap ((nx : Int) + (ny : Int)) = (nx : Int) + (ny : Int) := IntWalk.i64_in _ (by omega)
  have t1 : decide ((nx : Int) + (ny : Int) < (np : Int)) = false := by simp; omega
  go_wp2_with fail
  refine KP.out.mono ?_
  rintro e w' ⟨rfl, rfl⟩
  go_wp2_with fail
  refine KX.out.mono ?_
  rintro e w' ⟨rfl, rfl⟩
  go_wp2_with fail
  refine KY.out.mono ?_
  rintro e w' ⟨rfl, rfl⟩
  have t2 : decide (np < nx) = false := by simp; omega
  have t3 : decide (np < ny) = false := by simp; omega
  go_wp2_with fail
  refine KP.out.mono ?_
  rintro e w' ⟨rfl, rfl⟩
  go_wp2_with fail
  refine KX.out.mono ?_
  rintro e w' ⟨rfl, rfl⟩
  go_wp2_with fail
  refine KY.out.mono ?_
  rintro e w' ⟨rfl, rfl⟩
  clear KP KX KY m1 m2 m3 m4 m5
  obtain ⟨w10, hw10⟩ : ∃ w10, w9.drewN nq = w10 := ⟨_, rfl⟩
  rw [hw10] at P9 Q9 B9 ⊢
  clear hw10
  rcases Nat.lt_or_ge nx ny with hxy | hxy
  all_goals
    go_wp2_with fail
    clear t1 t2 t3 a1 hxy
    go_wp2_with fail
    refine (joinF _ P9.out (U4.out.stays B9.out) (by omega) (by omega)).mono ?_
    rintro e w11 ⟨fr4, rfl, hs11, _, hg11⟩
    have P11 : Hid (SetF w4.heap.size sp rp 200 (joinB (joinB f g 200) h 200) w11) := Lib.hid hs11
    have Q11 := Lib.hid (Q9.out.grown hg11 (by omega) (by omega))
    have B11 : Hid (Below w4.heap.size w4 w11) := Lib.hid (below_own B9.out hg11 p2)
    clear hs11 hg11 P9 Q9 B9
    go_wp2_with fail
    refine (joinF _ Q11.out (U4.out.stays B11.out) (by omega) (by omega)).mono ?_
    rintro e w12 ⟨fr5, rfl, hs12, _, hg12⟩
    have Q12 : Hid (SetF w5.heap.size sq rq 200 (joinB (joinB g f 200) h 200) w12) := Lib.hid hs12
    have P12 := Lib.hid (P11.out.grown hg12 (by omega) (by omega))
    have B12 : Hid (Below w4.heap.size w4 w12) := Lib.hid (below_own B11.out hg12 (by omega))
    clear hs12 hg12 P11 Q11 B11
    go_wp2_with fail
    refine (lessF _ Q12.out (U4.out.stays B12.out) (by omega) (by omega)).mono ?_
    rintro e w13 ⟨rfl, hs13, hg13⟩
    have Q13 : Hid (SetF w5.heap.size sq rq 200 (lessB (joinB (joinB g f 200) h 200) h) w13) := Lib.hid hs13
    have P13 := Lib.hid (P12.out.grown hg13 (by omega) (by omega))
    have B13 : Hid (Below w4.heap.size w4 w13) := Lib.hid (below_own B12.out hg13 (by omega))
    clear hs13 hg13 P12 Q12 B12
    go_wp2_with fail
    refine (cloneF _ (S4.out.stays B13.out)).mono ?_
    rintro e w14 ⟨sr, rr, rfl, hs14, hb14⟩
    have R14 := Lib.hid hs14
    obtain ⟨r1, r2⟩ := hs14.lo
    have P14 := Lib.hid (P13.out.stays hb14)
    have Q14 := Lib.hid (Q13.out.stays hb14)
    obtain ⟨i1, i2⟩ := P13.out.lt
    obtain ⟨i3, i4⟩ := Q13.out.lt
    have hsz := B13.out.size
    have B14 : Hid (Below w4.heap.size w4 w14) := Lib.hid (B13.out.trans (hb14.mono B13.out.size))
    clear hs14 hb14 P13 Q13 B13
    go_wp2_with fail
    refine (joinF _ R14.out (T4.out.stays B14.out) (by omega) (by omega)).mono ?_
    rintro e w15 ⟨fr6, rfl, hs15, _, hg15⟩
    have R15 : Hid (SetF w13.heap.size sr rr 200 (joinB f g 200) w15) := Lib.hid hs15
    have P15 := Lib.hid (P14.out.grown hg15 (by omega) (by omega))
    have Q15 := Lib.hid (Q14.out.grown hg15 (by omega) (by omega))
    have B15 : Hid (Below w4.heap.size w4 w15) := Lib.hid (below_own B14.out hg15 (by omega))
    clear hs15 hg15 P14 Q14 R14 B14
    go_wp2_with fail
    refine (lessF _ R15.out (U4.out.stays B15.out) (by omega) (by omega)).mono ?_
    rintro e w16 ⟨rfl, hs16, hg16⟩
    have R16 : Hid (SetF w13.heap.size sr rr 200 (lessB (joinB f g 200) h) w16) := Lib.hid hs16
    have P16 := Lib.hid (P15.out.grown hg16 (by omega) (by omega))
    have Q16 := Lib.hid (Q15.out.grown hg16 (by omega) (by omega))
    have B16 : Hid (Below w4.heap.size w4 w16) := Lib.hid (below_own B15.out hg16 (by omega))
    clear hs16 hg16 P15 Q15 R15 B15
    have S16 := Lib.hid (S4.out.stays B16.out)
    have T16 := Lib.hid (T4.out.stays B16.out)
    have U16 := Lib.hid (U4.out.stays B16.out)
    clear S4 T4 U4
    go_wp2_with fail
    go_loop [15] (fun si => ∃ i : Nat, i ≤ 200 ∧ si = .int .i64 i) (fun si => 200 - (intOf si).toNat)
    case atStart => exact ⟨0, by omega, rfl⟩
    case round =>
      obtain ⟨i, hi, rfl⟩ := hrel
      by_cases hlt : i < 200
      · have t1 : decide ((i : Int) < 200) = true := by simp; omega
        have E : ∀ F : Nat → Bool, (inB (i : Int) 200 && F (i : Int).toNat) = F i := fun F => by rw [inB_of ⟨by omega, by omega⟩, Bool.true_and, Int.toNat_natCast]
        have KP := hasF (i : Int) _ P16.out
        have KQ := hasF (i : Int) _ Q16.out
        have KX := hasF (i : Int) _ S16.out
        have KY := hasF (i : Int) _ T16.out
        have KZ := hasF (i : Int) _ U16.out
        rw [E] at KP KQ KX KY KZ
        have ep : joinB (joinB f g 200) h 200 i = (f i || g i || h i) := by simp [joinB, hlt]
        have eq : lessB (joinB (joinB g f 200) h 200) h i = ((g i || f i) && !h i) := by simp [lessB, joinB, hlt]; cases f i <;> cases g i <;> cases h i <;> rfl
        rw [ep] at KP
        rw [eq] at KQ
        clear E ep eq
        generalize f i = fi at KP KQ KX KY KZ
        generalize g i = gi at KP KQ KX KY KZ
        generalize h i = hi2 at KP KQ KX KY KZ
        have KP := Lib.hid KP
        have KQ := Lib.hid KQ
        have KX := Lib.hid KX
        have KY := Lib.hid KY
        have KZ := Lib.hid KZ
        go_wp2_with fail
        refine KP.out.mono ?_
        rintro e w' ⟨rfl, rfl⟩
        go_wp2_with fail
        refine KX.out.mono ?_
        rintro e w' ⟨rfl, rfl⟩
        clear KP KX
        cases fi with
        | true =>
          go_wp2_with fail
          refine KQ.out.mono ?_
          rintro e w' ⟨rfl, rfl⟩
          clear KQ
          cases hi2 with
          | true =>
            rw [Bool.not_true, Bool.and_false]
            go_wp2_with fail
            go_round
            case rel => exact ⟨i + 1, by omega, by go_num⟩
            case measure => simp [intOf]; omega
          | false =>
            rw [Bool.or_true, Bool.not_false, Bool.true_and]
            go_wp2_with fail
            refine KZ.out.mono ?_
            rintro e w' ⟨rfl, rfl⟩
            go_wp2_with fail
            go_round
            case rel => exact ⟨i + 1, by omega, by go_num⟩
            case measure => simp [intOf]; omega
        | false =>
          go_wp2_with fail
          refine KY.out.mono ?_
          rintro e w' ⟨rfl, rfl⟩
          clear KY
          cases gi with
          | true =>
            go_wp2_with fail
            refine KQ.out.mono ?_
            rintro e w' ⟨rfl, rfl⟩
            clear KQ
            cases hi2 with
            | true =>
              rw [Bool.not_true, Bool.and_false]
              go_wp2_with fail
              go_round
              case rel => exact ⟨i + 1, by omega, by go_num⟩
              case measure => simp [intOf]; omega
            | false =>
              rw [Bool.or_false, Bool.not_false, Bool.true_and]
              go_wp2_with fail
              refine KZ.out.mono ?_
              rintro e w' ⟨rfl, rfl⟩
              go_wp2_with fail
              go_round
              case rel => exact ⟨i + 1, by omega, by go_num⟩
              case measure => simp [intOf]; omega
          | false =>
            go_wp2_with fail
            refine KZ.out.mono ?_
            rintro e w' ⟨rfl, rfl⟩
            cases hi2 with
            | true =>
              go_wp2_with fail
              refine KQ.out.mono ?_
              rintro e w' ⟨rfl, rfl⟩
              rw [Bool.not_true, Bool.and_false]
              go_wp2_with fail
              go_round
              case rel => exact ⟨i + 1, by omega, by go_num⟩
              case measure => simp [intOf]; omega
            | false =>
              go_wp2_with fail
              refine KQ.out.mono ?_
              rintro e w' ⟨rfl, rfl⟩
              rw [Bool.or_false, Bool.false_and]
              go_wp2_with fail
              go_round
              case rel => exact ⟨i + 1, by omega, by go_num⟩
              case measure => simp [intOf]; omega
      · obtain rfl : i = 200 := by omega
        go_wp2_with fail
        refine (sameF _ Q16.out R16.out).mono ?_
        rintro e w' ⟨bb, rfl, hbb, nq, rfl⟩
        obtain rfl : bb = true := hbb.2 fun j => by
          have h1 := HFL.out j
          have h2 := HGL.out j
          have h3 := HHL.out j
          simp only [lessB, joinB]
          cases hf : f j <;> cases hg : g j <;> cases hh : h j <;> simp_all
        go_wp2_with fail
        go_ret
        exact ⟨rfl, below_drewN (B4.out.trans (B16.out.mono B4.out.size)) nq⟩

/-- A list that is too long: the law says what first says. -/
theorem algebra_long (a : Option Addr) (la ca : Nat) (b : Option Addr) (lb cb : Nat) (c : Option Addr) (lc cc : Nat) (w : World)
    (ha : ca ≤ maxLen) (hb : cb ≤ maxLen) (hc : cc ≤ maxLen) (ha2 : la ≤ ca) (hb2 : lb ≤ cb) (hc2 : lc ≤ cc) (hT : TabOk w) (h0 : ¬ (la ≤ 60 ∧ lb ≤ 60 ∧ lc ≤ 60)) :
    Calls Tryd.prog 4 #[.slice a la ca, .slice b lb cb, .slice c lc cc] w (TruePost w) := by
  have HT := Lib.hid hT
  clear hT
  unfold maxLen at ha hb hc
  by_cases c1 : la ≤ 60
  · have d1 : decide ((60 : Int) < (la : Int)) = false := by simp; omega
    by_cases c2 : lb ≤ 60
    · have d2 : decide ((60 : Int) < (lb : Int)) = false := by simp; omega
      have d3 : decide ((60 : Int) < (lc : Int)) = true := by simp; omega
      clear h0
      go_enter Tryd.func4, Tryd.ntmps4
      go_wp2_with fail
      refine (bfirst _ HT.out).mono ?_
      rintro e w1 ⟨rfl, hB1⟩
      have B1 := Lib.hid hB1
      clear hB1
      go_wp2_with fail
      go_ret
      exact ⟨rfl, B1.out⟩
    · have d2 : decide ((60 : Int) < (lb : Int)) = true := by simp; omega
      clear h0
      go_enter Tryd.func4, Tryd.ntmps4
      go_wp2_with fail
      refine (bfirst _ HT.out).mono ?_
      rintro e w1 ⟨rfl, hB1⟩
      have B1 := Lib.hid hB1
      clear hB1
      go_wp2_with fail
      go_ret
      exact ⟨rfl, B1.out⟩
  · have d1 : decide ((60 : Int) < (la : Int)) = true := by simp; omega
    clear h0
    go_enter Tryd.func4, Tryd.ntmps4
    go_wp2_with fail
    refine (bfirst _ HT.out).mono ?_
    rintro e w1 ⟨rfl, hB1⟩
    have B1 := Lib.hid hB1
    clear hB1
    go_wp2_with fail
    go_ret
    exact ⟨rfl, B1.out⟩

theorem algebra_main (a : Option Addr) (la ca : Nat) (xs : List Int) (b : Option Addr) (lb cb : Nat) (ys : List Int) (c : Option Addr) (lc cc : Nat) (zs : List Int) (w : World)
    (ha : Row .i64 w a la ca xs) (hb : Row .i64 w b lb cb ys) (hc : Row .i64 w c lc cc zs) (hL : laidMetH Tryd.prog Rows.bitsAlgebraRow.laid w) :
    Calls Tryd.prog 4 #[.slice a la ca, .slice b lb cb, .slice c lc cc] w (TruePost w) := by
  by_cases h : la ≤ 60 ∧ lb ≤ 60 ∧ lc ≤ 60
  · exact algebra_law a la ca xs b lb cb ys c lc cc zs w ha hb hc (tab_of_laid hL) h.1 h.2.1 h.2.2
  · exact algebra_long a la ca b lb cb c lc cc w ha.max hb.max hc.max ha.le hb.le hc.le (tab_of_laid hL) h

end Go.Proofs.YtpfpieakemnadaaDoor

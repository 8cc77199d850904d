/-
  The law on a script that is printed and read again: the walk where the list may be.
-/
import Derived.Test.YtjcklfbpdjfibaaDoorBakN
namespace Go.Proofs.YtjcklfbpdjfibaaDoor
open Go.RowKit

set_option maxHeartbeats 8000000 in
set_option maxRecDepth 100000 in
theorem back_ok (a : Nat → Addr) (ad : Option Addr) (len cap : Nat) (gv : Nat → Nat → Int) (ba : Option Addr) (n bc : Nat) (bs : List Nat) (y0 y1 y2 y3 y4 : Bool) (r : Int) (w : World) (hS : Sents6 a w) (hp : Picks w ad len cap gv) (hr : Row .u8 w ba n bc (intsR bs)) (hb8 : ∀ g ∈ bs, g < 256) (hl : len ≤ 450) (hn : n ≤ 2000) (h400 : len ≤ 400) (hf : FairP gv len) :
    Calls Tryd.prog 10 #[.slice ad len cap, .slice ba n bc, .agg #[.bool y0, .bool y1, .bool y2, .bool y3, .bool y4, .int .i64 r]] w (TruePost w) := by
  have H := Lib.hid hS
  have HP := Lib.hid hp
  have HR := Lib.hid hr
  have HB8 := Lib.hid hb8
  have HF := Lib.hid hf
  clear hS hp hr hb8 hf
  have d1 : decide ((450 : Int) < (len : Int)) = false := by simp; omega
  have d2 : decide ((2000 : Int) < (n : Int)) = false := by simp; omega
  go_enter Tryd.func10, Tryd.ntmps10
  go_wp2_with fail
  have hx := OptBx.new w y0 y1 y2 y3 y4 r
  have hb0 : Below w.heap.size w (w.alloc (.cells #[.bool y0, .bool y1, .bool y2, .bool y3, .bool y4, .int .i64 r] 90)) := (Below.refl _ _).alloc (Nat.le_refl _) _
  generalize (w.alloc (.cells #[.bool y0, .bool y1, .bool y2, .bool y3, .bool y4, .int .i64 r] 90)) = W0 at *
  refine (sfirst4 a _ (H.out.below hb0).four).mono ?_
  rintro e w1 ⟨rfl, hb1⟩
  have HB1 : Hid (Below w.heap.size w w1) := Lib.hid (hb0.trans (hb1.mono hb0.size))
  have HX1 := Lib.hid (hx.stays hb1)
  clear hb1 hb0 hx
  go_wp2_with fail
  refine (print_any4 a _ len cap gv _ (H.out.below HB1.out).four (HP.out.below HB1.out) h400 HF.out).mono ?_
  rintro e w11 ⟨pa, pm, pc, rfl, hrow, hb11⟩
  have HB11 : Hid (Below w.heap.size w w11) := Lib.hid (HB1.out.trans (hb11.mono HB1.out.size))
  have HX11 := Lib.hid (HX1.out.stays hb11)
  have hpm := hrow.len_eq
  rw [ints_len] at hpm
  have PF := Lib.hid (parse_full a pa pm pc len gv w11 (H.out.below HB11.out) (H.out.below HB11.out).four hrow h400 HF.out (by omega) hrow.max)
  clear hrow hb11 hpm HB1 HX1
  go_wp2_with fail
  refine PF.out.mono ?_
  rintro e w12 ⟨hb12, qa, qc, rfl, hpk⟩
  have HB12 : Hid (Below w.heap.size w w12) := Lib.hid (HB11.out.trans (hb12.mono HB11.out.size))
  have HX12 := Lib.hid (HX11.out.stays hb12)
  have SM := Lib.hid (same_picks qa ad len qc cap gv w12 hpk (HP.out.below HB12.out) h400)
  clear hb12 hpk PF HB11 HX11
  go_wp2_with fail
  refine SM.out.mono ?_
  rintro e w13 ⟨rfl, hb13⟩
  have HB13 : Hid (Below w.heap.size w w13) := Lib.hid (HB12.out.trans (hb13.mono HB12.out.size))
  have HX13 := Lib.hid (HX12.out.stays hb13)
  clear hb13 SM HB12 HX12
  go_wp2_with fail
  refine (may_list4 a _ len cap gv len _ (H.out.below HB13.out).four (HP.out.below HB13.out) h400 (Nat.le_refl _) HF.out (fun h => absurd h (Nat.lt_irrefl _))).mono ?_
  rintro e w2 ⟨hb2, ⟨_, rfl⟩ | ⟨hlt, _⟩⟩
  rotate_left
  · exact absurd hlt (Nat.lt_irrefl _)
  have HB2 : Hid (Below w.heap.size w w2) := Lib.hid (HB13.out.trans (hb2.mono HB13.out.size))
  have HX2 := Lib.hid (HX13.out.stays hb2)
  clear hb2 HB13 HX13
  go_wp2_with fail
  refine (parse_any0 a ba n bc bs _ (H.out.below HB2.out) (Row_cells HR.out HB2.out) hn HB8.out).mono ?_
  rintro e w3 ⟨hb3, ⟨k, gv', oa, oc, hk, hfk, hbs, rfl, hpk⟩ | ⟨t2, x2, rfl⟩⟩
  · have HB3 : Hid (Below w.heap.size w w3) := Lib.hid (HB2.out.trans (hb3.mono HB2.out.size))
    have HX3 := Lib.hid (HX2.out.stays hb3)
    have PA := Lib.hid (print_any4 a oa k oc gv' w3 (H.out.below HB3.out).four hpk hk hfk)
    have HBS := Lib.hid hbs
    clear hb3 hpk hfk hbs HB2 HX2
    go_wp2_with fail
    refine PA.out.mono ?_
    rintro e w4 ⟨oa2, m, oc2, rfl, hrow, hb4⟩
    have HB4 : Hid (Below w.heap.size w w4) := Lib.hid (HB3.out.trans (hb4.mono HB3.out.size))
    have HX4 := Lib.hid (HX3.out.stays hb4)
    have hmm := hrow.len_eq
    rw [ints_len] at hmm
    have hml := printL_le gv' k
    have SB := Lib.hid (same_bytes oa2 ba m oc2 n bc (ints (printL gv' k)) (intsR bs) w4 hrow (Row_cells HR.out HB4.out) (by omega))
    have td : decide (ints (printL gv' k) = intsR bs) = true := by rw [HBS.out]; exact decide_eq_true rfl
    unfold SamePost at SB
    rw [td] at SB
    clear hrow hb4 hmm hml PA HB3 HX3 td
    go_wp2_with fail
    refine SB.out.mono ?_
    rintro e w5 ⟨rfl, nq, rfl⟩
    have HB5 := Lib.hid (below_drewN HB4.out nq)
    have HX5 := Lib.hid (HX4.out.stays (below_drewN (Below.refl _ _) nq))
    clear SB HB4 HX4
    generalize w4.drewN nq = w5 at *
    obtain ⟨bx0, bx1, bx2, bx3, bx4, bx5⟩ := HX5.out.cells
    go_wp2_with fail
    refine (pack_any y0 y1 y2 y3 y4 r _).mono ?_
    rintro e w6 ⟨rfl, hb6⟩
    have HB6 : Hid (Below w.heap.size w w6) := Lib.hid (HB5.out.trans (hb6.mono HB5.out.size))
    have HX6 := Lib.hid (HX5.out.stays hb6)
    clear hb6 bx0 bx1 bx2 bx3 bx4 bx5
    obtain ⟨bn, b0, b1, b2, b3, b4, b5⟩ := bits_pack r y0 y1 y2 y3 y4
    obtain ⟨z, b6, HZ⟩ := clamp_cases r
    rw [b6] at b5
    generalize packS r (five y0 y1 y2 y3 y4) 5 = N at *
    obtain ⟨bx0, bx1, bx2, bx3, bx4, bx5⟩ := HX6.out.cells
    have UN := Lib.hid (unpack_any N w6 bn)
    rw [b0, b1, b2, b3, b4, b5] at UN
    have t9 : decide ((N : Int) < 512) = true := by simp; omega
    clear b0 b1 b2 b3 b4 b5 b6
    go_wp2_with fail
    refine UN.out.mono ?_
    rintro e w7 ⟨rfl, hb7⟩
    have hb8 := (HB6.out.trans (hb7.mono HB6.out.size)).alloc (HB6.out.trans (hb7.mono HB6.out.size)).size (Obj.cells #[.bool y0, .bool y1, .bool y2, .bool y3, .bool y4, .int .i64 z] 90)
    have HX8 := Lib.hid ((HX6.out.stays hb7).alloc (Obj.cells #[.bool y0, .bool y1, .bool y2, .bool y3, .bool y4, .int .i64 z] 90))
    have HY8 := Lib.hid (OptBx.new w7 y0 y1 y2 y3 y4 z)
    have HB8 := Lib.hid hb8
    clear UN hb7 hb8 bx0 bx1 bx2 bx3 bx4 bx5
    obtain ⟨bx0, bx1, bx2, bx3, bx4, bx5⟩ := HX8.out.cells
    obtain ⟨by0, by1, by2, by3, by4, by5⟩ := HY8.out.cells
    rcases HZ.out with ⟨m1, m2⟩ | ⟨m1, m2⟩ | ⟨m1, m2⟩ | ⟨m1, m2⟩ | ⟨m1, m3, m2⟩
    · subst m2
      go_wp2_with fail
      go_ret
      exact ⟨rfl, HB8.out⟩
    · subst m1
      subst m2
      go_wp2_with fail
      go_ret
      exact ⟨rfl, HB8.out⟩
    · subst m1
      subst m2
      go_wp2_with fail
      go_ret
      exact ⟨rfl, HB8.out⟩
    · subst m2
      go_wp2_with fail
      go_ret
      exact ⟨rfl, HB8.out⟩
    · subst m2
      go_wp2_with fail
      go_ret
      exact ⟨rfl, HB8.out⟩
  · have HB5 : Hid (Below w.heap.size w w3) := Lib.hid (HB2.out.trans (hb3.mono HB2.out.size))
    have HX5 := Lib.hid (HX2.out.stays hb3)
    clear hb3 HB2 HX2
    obtain ⟨bx0, bx1, bx2, bx3, bx4, bx5⟩ := HX5.out.cells
    go_wp2_with fail
    refine (pack_any y0 y1 y2 y3 y4 r _).mono ?_
    rintro e w6 ⟨rfl, hb6⟩
    have HB6 : Hid (Below w.heap.size w w6) := Lib.hid (HB5.out.trans (hb6.mono HB5.out.size))
    have HX6 := Lib.hid (HX5.out.stays hb6)
    clear hb6 bx0 bx1 bx2 bx3 bx4 bx5
    obtain ⟨bn, b0, b1, b2, b3, b4, b5⟩ := bits_pack r y0 y1 y2 y3 y4
    obtain ⟨z, b6, HZ⟩ := clamp_cases r
    rw [b6] at b5
    generalize packS r (five y0 y1 y2 y3 y4) 5 = N at *
    obtain ⟨bx0, bx1, bx2, bx3, bx4, bx5⟩ := HX6.out.cells
    have UN := Lib.hid (unpack_any N w6 bn)
    rw [b0, b1, b2, b3, b4, b5] at UN
    have t9 : decide ((N : Int) < 512) = true := by simp; omega
    clear b0 b1 b2 b3 b4 b5 b6
    go_wp2_with fail
    refine UN.out.mono ?_
    rintro e w7 ⟨rfl, hb7⟩
    have hb8 := (HB6.out.trans (hb7.mono HB6.out.size)).alloc (HB6.out.trans (hb7.mono HB6.out.size)).size (Obj.cells #[.bool y0, .bool y1, .bool y2, .bool y3, .bool y4, .int .i64 z] 90)
    have HX8 := Lib.hid ((HX6.out.stays hb7).alloc (Obj.cells #[.bool y0, .bool y1, .bool y2, .bool y3, .bool y4, .int .i64 z] 90))
    have HY8 := Lib.hid (OptBx.new w7 y0 y1 y2 y3 y4 z)
    have HB8 := Lib.hid hb8
    clear UN hb7 hb8 bx0 bx1 bx2 bx3 bx4 bx5
    obtain ⟨bx0, bx1, bx2, bx3, bx4, bx5⟩ := HX8.out.cells
    obtain ⟨by0, by1, by2, by3, by4, by5⟩ := HY8.out.cells
    rcases HZ.out with ⟨m1, m2⟩ | ⟨m1, m2⟩ | ⟨m1, m2⟩ | ⟨m1, m2⟩ | ⟨m1, m3, m2⟩
    · subst m2
      go_wp2_with fail
      go_ret
      exact ⟨rfl, HB8.out⟩
    · subst m1
      subst m2
      go_wp2_with fail
      go_ret
      exact ⟨rfl, HB8.out⟩
    · subst m1
      subst m2
      go_wp2_with fail
      go_ret
      exact ⟨rfl, HB8.out⟩
    · subst m2
      go_wp2_with fail
      go_ret
      exact ⟨rfl, HB8.out⟩
    · subst m2
      go_wp2_with fail
      go_ret
      exact ⟨rfl, HB8.out⟩

end Go.Proofs.YtjcklfbpdjfibaaDoor

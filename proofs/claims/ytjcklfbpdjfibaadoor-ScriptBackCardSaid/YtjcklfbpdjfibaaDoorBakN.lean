/-
  The law on a script that is printed and read again: the walk.
-/
import Derived.Test.YtjcklfbpdjfibaaDoorBakM
namespace Go.Proofs.YtjcklfbpdjfibaaDoor
open Go.RowKit

/-- A box that holds options. -/
def OptBx (q : Nat) (y0 y1 y2 y3 y4 : Bool) (r : Int) (w : World) : Prop := w.heap[q]? = some (.cells #[.bool y0, .bool y1, .bool y2, .bool y3, .bool y4, .int .i64 r] 90 (0, 0))
theorem OptBx.cells {q : Nat} {y0 y1 y2 y3 y4 : Bool} {r : Int} {w : World} (h : OptBx q y0 y1 y2 y3 y4 r w) : w.cell? ⟨q, 0, none⟩ = some (.bool y0) ∧ w.cell? ⟨q, 1, none⟩ = some (.bool y1) ∧ w.cell? ⟨q, 2, none⟩ = some (.bool y2) ∧ w.cell? ⟨q, 3, none⟩ = some (.bool y3) ∧ w.cell? ⟨q, 4, none⟩ = some (.bool y4) ∧ w.cell? ⟨q, 5, none⟩ = some (.int .i64 r) :=
  ⟨(cell_of_row w q 0 _ _ (0, 0) h).trans rfl, (cell_of_row w q 1 _ _ (0, 0) h).trans rfl, (cell_of_row w q 2 _ _ (0, 0) h).trans rfl, (cell_of_row w q 3 _ _ (0, 0) h).trans rfl, (cell_of_row w q 4 _ _ (0, 0) h).trans rfl, (cell_of_row w q 5 _ _ (0, 0) h).trans rfl⟩
theorem OptBx.new (w : World) (y0 y1 y2 y3 y4 : Bool) (r : Int) : OptBx w.heap.size y0 y1 y2 y3 y4 r (w.alloc (.cells #[.bool y0, .bool y1, .bool y2, .bool y3, .bool y4, .int .i64 r] 90)) := heap_alloc_new w _
theorem OptBx.lt {q : Nat} {y0 y1 y2 y3 y4 : Bool} {r : Int} {w : World} (h : OptBx q y0 y1 y2 y3 y4 r w) : q < w.heap.size := (Array.getElem?_eq_some_iff.1 h).1
theorem OptBx.stays {q : Nat} {y0 y1 y2 y3 y4 : Bool} {r : Int} {w w' : World} (h : OptBx q y0 y1 y2 y3 y4 r w) (hb : Below w.heap.size w w') : OptBx q y0 y1 y2 y3 y4 r w' := (hb.block q h.lt).trans h
theorem OptBx.alloc {q : Nat} {y0 y1 y2 y3 y4 : Bool} {r : Int} {w : World} (h : OptBx q y0 y1 y2 y3 y4 r w) (o : Obj) : OptBx q y0 y1 y2 y3 y4 r (w.alloc o) := h.stays ((Below.refl _ _).alloc (Nat.le_refl _) o)

theorem clamp_cases (r : Int) : ∃ z : Int, (clampR r : Int) = z ∧ Hid ((r < 1 ∧ z = 1) ∨ (r = 1 ∧ z = 1) ∨ (r = 16 ∧ z = 16) ∨ (16 < r ∧ z = 16) ∨ (1 < r ∧ r < 16 ∧ z = r)) := by
  refine ⟨_, rfl, Lib.hid ?_⟩
  unfold clampR
  split
  · exact .inl ⟨by assumption, rfl⟩
  · split
    · exact .inr (.inr (.inr (.inl ⟨by assumption, rfl⟩)))
    · by_cases h1 : r = 1
      · exact .inr (.inl ⟨h1, by omega⟩)
      · by_cases h2 : r = 16
        · exact .inr (.inr (.inl ⟨h2, by omega⟩))
        · exact .inr (.inr (.inr (.inr ⟨by omega, by omega, by omega⟩)))

set_option maxHeartbeats 8000000 in
set_option maxRecDepth 100000 in
theorem back_bad (a : Nat → Addr) (ad : Option Addr) (len cap : Nat) (gv : Nat → Nat → Int) (ba : Option Addr) (n bc : Nat) (bs : List Nat) (y0 y1 y2 y3 y4 : Bool) (r : Int) (w : World) (hS : Sents6 a w) (hp : Picks w ad len cap gv) (hr : Row .u8 w ba n bc (intsR bs)) (hb8 : ∀ g ∈ bs, g < 256) (hl : len ≤ 450) (hn : n ≤ 2000) (hpr : ∀ w0, Below w.heap.size w w0 → Calls Tryd.prog 66 #[.slice ad len cap] w0 (PrintBad w0)) :
    Calls Tryd.prog 10 #[.slice ad len cap, .slice ba n bc, .agg #[.bool y0, .bool y1, .bool y2, .bool y3, .bool y4, .int .i64 r]] w (TruePost w) := by
  have H := Lib.hid hS
  have HP := Lib.hid hp
  have HR := Lib.hid hr
  have HB8 := Lib.hid hb8
  have HPR := Lib.hid hpr
  clear hS hp hr hb8 hpr
  have d1 : decide ((450 : Int) < (len : Int)) = false := by simp; omega
  have d2 : decide ((2000 : Int) < (n : Int)) = false := by simp; omega
  go_enter Tryd.func10, Tryd.ntmps10
  go_wp2_with fail
  have hx := OptBx.new w y0 y1 y2 y3 y4 r
  have hb0 : Below w.heap.size w (w.alloc (.cells #[.bool y0, .bool y1, .bool y2, .bool y3, .bool y4, .int .i64 r] 90)) := (Below.refl _ _).alloc (Nat.le_refl _) _
  generalize (w.alloc (.cells #[.bool y0, .bool y1, .bool y2, .bool y3, .bool y4, .int .i64 r] 90)) = W0 at *
  refine (sfirst4 a _ (H.out.below hb0).four).mono ?_
  rintro e w1 ⟨rfl, hb1⟩
  have HB1 : Hid (Below w.heap.size w w1) := Lib.hid (hb0.trans (hb1.mono hb0.size))
  have HX1 := Lib.hid (hx.stays hb1)
  clear hb1 hb0 hx
  go_wp2_with fail
  refine (HPR.out _ HB1.out).mono ?_
  rintro e w2 ⟨hb2, t, x, rfl⟩
  have HB2 : Hid (Below w.heap.size w w2) := Lib.hid (HB1.out.trans (hb2.mono HB1.out.size))
  have HX2 := Lib.hid (HX1.out.stays hb2)
  clear hb2 HB1 HX1 HPR
  go_wp2_with fail
  refine (parse_any0 a ba n bc bs _ (H.out.below HB2.out) (Row_cells HR.out HB2.out) hn HB8.out).mono ?_
  rintro e w3 ⟨hb3, ⟨k, gv', oa, oc, hk, hfk, hbs, rfl, hpk⟩ | ⟨t2, x2, rfl⟩⟩
  · have HB3 : Hid (Below w.heap.size w w3) := Lib.hid (HB2.out.trans (hb3.mono HB2.out.size))
    have HX3 := Lib.hid (HX2.out.stays hb3)
    have PA := Lib.hid (print_any4 a oa k oc gv' w3 (H.out.below HB3.out).four hpk hk hfk)
    have HBS := Lib.hid hbs
    clear hb3 hpk hfk hbs HB2 HX2
    go_wp2_with fail
    refine PA.out.mono ?_
    rintro e w4 ⟨oa2, m, oc2, rfl, hrow, hb4⟩
    have HB4 : Hid (Below w.heap.size w w4) := Lib.hid (HB3.out.trans (hb4.mono HB3.out.size))
    have HX4 := Lib.hid (HX3.out.stays hb4)
    have hmm := hrow.len_eq
    rw [ints_len] at hmm
    have hml := printL_le gv' k
    have SB := Lib.hid (same_bytes oa2 ba m oc2 n bc (ints (printL gv' k)) (intsR bs) w4 hrow (Row_cells HR.out HB4.out) (by omega))
    have td : decide (ints (printL gv' k) = intsR bs) = true := by rw [HBS.out]; exact decide_eq_true rfl
    unfold SamePost at SB
    rw [td] at SB
    clear hrow hb4 hmm hml PA HB3 HX3 td
    go_wp2_with fail
    refine SB.out.mono ?_
    rintro e w5 ⟨rfl, nq, rfl⟩
    have HB5 := Lib.hid (below_drewN HB4.out nq)
    have HX5 := Lib.hid (HX4.out.stays (below_drewN (Below.refl _ _) nq))
    clear SB HB4 HX4
    generalize w4.drewN nq = w5 at *
    obtain ⟨bx0, bx1, bx2, bx3, bx4, bx5⟩ := HX5.out.cells
    go_wp2_with fail
    refine (pack_any y0 y1 y2 y3 y4 r _).mono ?_
    rintro e w6 ⟨rfl, hb6⟩
    have HB6 : Hid (Below w.heap.size w w6) := Lib.hid (HB5.out.trans (hb6.mono HB5.out.size))
    have HX6 := Lib.hid (HX5.out.stays hb6)
    clear hb6 bx0 bx1 bx2 bx3 bx4 bx5
    obtain ⟨bn, b0, b1, b2, b3, b4, b5⟩ := bits_pack r y0 y1 y2 y3 y4
    obtain ⟨z, b6, HZ⟩ := clamp_cases r
    rw [b6] at b5
    generalize packS r (five y0 y1 y2 y3 y4) 5 = N at *
    obtain ⟨bx0, bx1, bx2, bx3, bx4, bx5⟩ := HX6.out.cells
    have UN := Lib.hid (unpack_any N w6 bn)
    rw [b0, b1, b2, b3, b4, b5] at UN
    have t9 : decide ((N : Int) < 512) = true := by simp; omega
    clear b0 b1 b2 b3 b4 b5 b6
    go_wp2_with fail
    refine UN.out.mono ?_
    rintro e w7 ⟨rfl, hb7⟩
    have hb8 := (HB6.out.trans (hb7.mono HB6.out.size)).alloc (HB6.out.trans (hb7.mono HB6.out.size)).size (Obj.cells #[.bool y0, .bool y1, .bool y2, .bool y3, .bool y4, .int .i64 z] 90)
    have HX8 := Lib.hid ((HX6.out.stays hb7).alloc (Obj.cells #[.bool y0, .bool y1, .bool y2, .bool y3, .bool y4, .int .i64 z] 90))
    have HY8 := Lib.hid (OptBx.new w7 y0 y1 y2 y3 y4 z)
    have HB8 := Lib.hid hb8
    clear UN hb7 hb8 bx0 bx1 bx2 bx3 bx4 bx5
    obtain ⟨bx0, bx1, bx2, bx3, bx4, bx5⟩ := HX8.out.cells
    obtain ⟨by0, by1, by2, by3, by4, by5⟩ := HY8.out.cells
    rcases HZ.out with ⟨m1, m2⟩ | ⟨m1, m2⟩ | ⟨m1, m2⟩ | ⟨m1, m2⟩ | ⟨m1, m3, m2⟩
    · subst m2
      go_wp2_with fail
      go_ret
      exact ⟨rfl, HB8.out⟩
    · subst m1
      subst m2
      go_wp2_with fail
      go_ret
      exact ⟨rfl, HB8.out⟩
    · subst m1
      subst m2
      go_wp2_with fail
      go_ret
      exact ⟨rfl, HB8.out⟩
    · subst m2
      go_wp2_with fail
      go_ret
      exact ⟨rfl, HB8.out⟩
    · subst m2
      go_wp2_with fail
      go_ret
      exact ⟨rfl, HB8.out⟩
  · have HB5 : Hid (Below w.heap.size w w3) := Lib.hid (HB2.out.trans (hb3.mono HB2.out.size))
    have HX5 := Lib.hid (HX2.out.stays hb3)
    clear hb3 HB2 HX2
    obtain ⟨bx0, bx1, bx2, bx3, bx4, bx5⟩ := HX5.out.cells
    go_wp2_with fail
    refine (pack_any y0 y1 y2 y3 y4 r _).mono ?_
    rintro e w6 ⟨rfl, hb6⟩
    have HB6 : Hid (Below w.heap.size w w6) := Lib.hid (HB5.out.trans (hb6.mono HB5.out.size))
    have HX6 := Lib.hid (HX5.out.stays hb6)
    clear hb6 bx0 bx1 bx2 bx3 bx4 bx5
    obtain ⟨bn, b0, b1, b2, b3, b4, b5⟩ := bits_pack r y0 y1 y2 y3 y4
    obtain ⟨z, b6, HZ⟩ := clamp_cases r
    rw [b6] at b5
    generalize packS r (five y0 y1 y2 y3 y4) 5 = N at *
    obtain ⟨bx0, bx1, bx2, bx3, bx4, bx5⟩ := HX6.out.cells
    have UN := Lib.hid (unpack_any N w6 bn)
    rw [b0, b1, b2, b3, b4, b5] at UN
    have t9 : decide ((N : Int) < 512) = true := by simp; omega
    clear b0 b1 b2 b3 b4 b5 b6
    go_wp2_with fail
    refine UN.out.mono ?_
    rintro e w7 ⟨rfl, hb7⟩
    have hb8 := (HB6.out.trans (hb7.mono HB6.out.size)).alloc (HB6.out.trans (hb7.mono HB6.out.size)).size (Obj.cells #[.bool y0, .bool y1, .bool y2, .bool y3, .bool y4, .int .i64 z] 90)
    have HX8 := Lib.hid ((HX6.out.stays hb7).alloc (Obj.cells #[.bool y0, .bool y1, .bool y2, .bool y3, .bool y4, .int .i64 z] 90))
    have HY8 := Lib.hid (OptBx.new w7 y0 y1 y2 y3 y4 z)
    have HB8 := Lib.hid hb8
    clear UN hb7 hb8 bx0 bx1 bx2 bx3 bx4 bx5
    obtain ⟨bx0, bx1, bx2, bx3, bx4, bx5⟩ := HX8.out.cells
    obtain ⟨by0, by1, by2, by3, by4, by5⟩ := HY8.out.cells
    rcases HZ.out with ⟨m1, m2⟩ | ⟨m1, m2⟩ | ⟨m1, m2⟩ | ⟨m1, m2⟩ | ⟨m1, m3, m2⟩
    · subst m2
      go_wp2_with fail
      go_ret
      exact ⟨rfl, HB8.out⟩
    · subst m1
      subst m2
      go_wp2_with fail
      go_ret
      exact ⟨rfl, HB8.out⟩
    · subst m1
      subst m2
      go_wp2_with fail
      go_ret
      exact ⟨rfl, HB8.out⟩
    · subst m2
      go_wp2_with fail
      go_ret
      exact ⟨rfl, HB8.out⟩
    · subst m2
      go_wp2_with fail
      go_ret
      exact ⟨rfl, HB8.out⟩

end Go.Proofs.YtjcklfbpdjfibaaDoor

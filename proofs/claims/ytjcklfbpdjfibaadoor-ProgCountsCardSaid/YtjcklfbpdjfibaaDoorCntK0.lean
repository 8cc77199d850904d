/-
  The law on counts: so many classes.
-/
import Derived.Test.YtjcklfbpdjfibaaDoorCnt0
import Derived.Test.YtjcklfbpdjfibaaDoorCnt1
namespace Go.Proofs.YtjcklfbpdjfibaaDoor
open Go.RowKit

theorem classinfo : (Tryd.prog.info? 75).map (fun i => (i.zero, i.size, i.bytes)) = some (some (.agg #[.string ⟨#[]⟩]), 1, 16) := by kernel_rfl

def madeC (w : World) (n : Nat) : World := w.alloc (.cells (madeCells #[.string ⟨#[]⟩] (n * 1)) 75)

theorem madeC_run (w : World) (n : Nat) (hn : n ≤ 1000) :
    (Instr.makeSlice 43 (.int .i64 (n : Int)) (.int .i64 (n : Int))).run Tryd.prog w = .ok (.slice (some ⟨w.heap.size, 0, none⟩) n n) (madeC w n) := by
  obtain ⟨i0, hi, hz0, hz1, hz2⟩ := info_parts classinfo
  have h1 : ((i0.bytes : Nat) : Int) * (n : Int) ≤ 281474976710656 := by rw [hz2]; omega
  have h2 : (n : Int) ≤ 9223372036854775807 := by omega
  have h := run_make (P := Tryd.prog) w 43 75 i0 _ Tryd.underlying43 hi hz0 .i64 .i64 (n : Int) (n : Int) (by omega) (Int.le_refl _) h1 h2
  rw [Int.toNat_natCast, hz1] at h
  exact h

theorem madeC_cell (n j : Nat) (h : j < n * 1) : (madeCells #[.string ⟨#[]⟩] (n * 1))[j]? = some (Value.string ⟨#[]⟩) := by
  have e : n * 1 = n := Nat.mul_one n
  rw [e] at h ⊢
  unfold madeCells
  have h2 : (Array.range n)[j]? = some j := by rw [Array.getElem?_eq_getElem (by simpa using h)]; simp
  rw [Array.getElem?_map, h2]
  simp [Nat.mod_one]

set_option maxHeartbeats 4000000 in
set_option maxRecDepth 100000 in
theorem counts_0 (a : Nat → Addr) (what n : Int) (w : World) (hS : Sents a w) (h0 : (what.tmod 5 + 5).tmod 5 = 0) (hb : -4 ≤ what.tmod 5 ∧ what.tmod 5 ≤ 4) :
    Calls Tryd.prog 7 #[.int .i64 what, .int .i64 n] w (TruePost w) := by
  have H := Lib.hid hS
  have e1 := low3C n
  obtain ⟨m, hm⟩ : ∃ m : Nat, n % 8 = (m : Int) := ⟨(n % 8).toNat, by omega⟩
  have hm1 : m < 8 := by omega
  rw [hm] at e1
  obtain ⟨r, hr⟩ : ∃ r, what.tmod 5 = r := ⟨_, rfl⟩
  rw [hr] at h0 hb
  have f1 : IntKind.i64.wrap (r + 5) = r + 5 := IntWalk.i64_in _ (by omega)
  clear hS hm
  go_enter Tryd.func7, Tryd.ntmps7
  go_wp2_with fail
  refine (pfirst a _ H.out).mono ?_
  rintro e w1 ⟨rfl, hb1⟩
  have hb1a := hb1.alloc hb1.size (.cells #[.int .i64 12, .int .i64 10, .int .i64 12, .int .i64 12, .int .i64 120] 3)
  have HB1 := Lib.hid hb1a
  have HS1 := Lib.hid (H.out.below hb1a)
  clear hb1 hb1a H
  go_wp2_with fail
  generalize (w1.alloc (.cells #[.int .i64 12, .int .i64 10, .int .i64 12, .int .i64 12, .int .i64 120] 3)) = wa at *
  refine (one_progC 33 0 0 0 _).mono ?_
  rintro e w2 ⟨cb, mb, c1, c2, rfl, hO, hcb, hmb, hc1, hc2, hb2⟩
  have HO := Lib.hid hO
  have HB12 := Lib.hid hb2
  have HNE := Lib.hid hO.ne
  have HB2 : Hid (Below w.heap.size w w2) := Lib.hid (HB1.out.trans (hb2.mono HB1.out.size))
  have HS2 := Lib.hid (HS1.out.below hb2)
  have HLOW : Hid (w.heap.size ≤ w2.heap.size) := Lib.hid HB2.out.size
  clear hO hb2
  go_wp2_with fail
  clear f1 e1 h0 hb hr
  have hN : (9 + (m : Int)) = ((9 + m : Nat) : Int) := by omega
  rw [hN]
  obtain ⟨N, hNN⟩ : ∃ N, 9 + m = N := ⟨_, rfl⟩
  rw [hNN]
  have hN0 : 9 ≤ N := by omega
  have hN1 : N ≤ 9 + 7 := by omega
  clear hN hNN hm1
  have hpb : (w2.alloc (.cells #[.slice (some ⟨cb, 0, none⟩) 2 2, .slice (some ⟨mb, 0, none⟩) 2 2] 46)).heap[w2.heap.size]? = _ := heap_alloc_new w2 _
  have hbp : Below w2.heap.size w2 (w2.alloc (.cells #[.slice (some ⟨cb, 0, none⟩) 2 2, .slice (some ⟨mb, 0, none⟩) 2 2] 46)) := (Below.refl _ _).alloc (Nat.le_refl _) _
  have hsz : (w2.alloc (.cells #[.slice (some ⟨cb, 0, none⟩) 2 2, .slice (some ⟨mb, 0, none⟩) 2 2] 46)).heap.size = w2.heap.size + 1 := by simp
  generalize (w2.alloc (.cells #[.slice (some ⟨cb, 0, none⟩) 2 2, .slice (some ⟨mb, 0, none⟩) 2 2] 46)) = w3 at *
  obtain ⟨pb, hpe⟩ : ∃ pb, w2.heap.size = pb := ⟨_, rfl⟩
  rw [hpe] at hpb hsz
  rw [hpe]
  have HPE := Lib.hid hpe
  have HPB := Lib.hid hpb
  have HBP := Lib.hid hbp
  have HSZ := Lib.hid hsz
  clear hpe hpb hbp hsz
  go_loop [8, 9] (fun ss si => ∃ k : Nat, k ≤ N ∧ si = .int .i64 k ∧ ss = .string (eyes k)) (fun _ si => N - (intOf si).toNat)
  case atStart => exact ⟨0, Nat.zero_le _, rfl, rfl⟩
  case round =>
    obtain ⟨k, hk, rfl, rfl⟩ := hrel
    by_cases hlt : k < N
    · have t1 : decide (k < N) = true := by simpa using hlt
      have HN := Lib.hid (eyes_next k)
      have hsz := eyes_size k
      go_wp2_with fail
      go_round
      case rel => exact ⟨k + 1, by omega, by go_num, by rw [HN.out]⟩
      case measure => simp [intOf]; omega
    · obtain rfl : k = N := by omega
      have t1 : decide (k < k) = false := by simp
      have p0 : w3.cell? ⟨pb, 0, none⟩ = some (.slice (some ⟨cb, 0, none⟩) 2 2) := (cell_of_row w3 pb 0 _ _ (0, 0) HPB.out).trans rfl
      have p1 : w3.cell? ⟨pb, 1, none⟩ = some (.slice (some ⟨mb, 0, none⟩) 2 2) := (cell_of_row w3 pb 1 _ _ (0, 0) HPB.out).trans rfl
      have q0 : w3.frozen? ⟨pb, 0, none⟩ = false := frozen_of_row w3 pb 0 _ _ HPB.out
      have q1 : w3.frozen? ⟨pb, 1, none⟩ = false := frozen_of_row w3 pb 1 _ _ HPB.out
      have EM := Lib.hid (madeC_run w3 k (by omega))
      have hmb : Below w3.heap.size w3 (madeC w3 k) := (Below.refl _ _).alloc (Nat.le_refl _) _
      have hlt3 : pb < w3.heap.size := by have := HSZ.out; omega
      have hp4 := (hmb.block pb hlt3).trans HPB.out
      have p0' : (madeC w3 k).cell? ⟨pb, 0, none⟩ = some (.slice (some ⟨cb, 0, none⟩) 2 2) := (cell_of_row _ pb 0 _ _ (0, 0) hp4).trans rfl
      have p1' : (madeC w3 k).cell? ⟨pb, 1, none⟩ = some (.slice (some ⟨mb, 0, none⟩) 2 2) := (cell_of_row _ pb 1 _ _ (0, 0) hp4).trans rfl
      have q0' : (madeC w3 k).frozen? ⟨pb, 0, none⟩ = false := frozen_of_row _ pb 0 _ _ hp4
      have hx : Below w2.heap.size w2 ((madeC w3 k).setCell ⟨pb, 0, none⟩ (.slice (some ⟨w3.heap.size, 0, none⟩) k k)) := (HBP.out.alloc HBP.out.size _).setCell (by have := HPE.out; simp; omega) _
      have HBX : Hid (Below w.heap.size w ((madeC w3 k).setCell ⟨pb, 0, none⟩ (.slice (some ⟨w3.heap.size, 0, none⟩) k k))) := Lib.hid (HB2.out.trans (hx.mono HB2.out.size))
      have HSX := Lib.hid (HS2.out.below hx)
      have HOX := Lib.hid (HO.out.below hx)
      have hrow : ((madeC w3 k).setCell ⟨pb, 0, none⟩ (.slice (some ⟨w3.heap.size, 0, none⟩) k k)).heap[w3.heap.size]? = some (.cells (madeCells #[.string ⟨#[]⟩] (k * 1)) 75 (0, 0)) :=
        (heap_setCell_other _ _ _ _ (by show w3.heap.size ≠ pb; omega)).trans (heap_alloc_new w3 _)
      have HCL := Lib.hid (cls_of (len := k) (f := fun _ => ⟨#[]⟩) hrow (by omega) (fun i hi => madeC_cell k i (by omega)))
      clear hmb hp4 hx hrow hlt3
      by_cases hk12 : k ≤ 12
      · have MC := Lib.hid (may_pair a _ k k mb (fun _ => ⟨#[]⟩) ⟨#[73]⟩ ⟨#[82]⟩ _ _ 1 2 1 2 k 2 _ HSX.out hk12 HCL.out (fun i _ => ⟨fair_nil, Nat.zero_le _⟩) (Nat.le_refl _) (fun i _ => Nat.zero_le _) (fun h => absurd h (Nat.lt_irrefl _)) HOX.out.m0 HOX.out.m1 (by decide) (.inl ⟨rfl, by decide⟩))
        rw [if_neg (Nat.lt_irrefl k), if_neg (Nat.lt_irrefl 2)] at MC
        have t2 : decide ((k : Int) ≤ 12) = true := by simp; omega
        go_wp2_with (rw [EM.out])
        refine MC.out.mono ?_
        rintro e w5 ⟨hb5, rfl⟩
        have HB5 : Hid (Below w.heap.size w w5) := Lib.hid (HBX.out.trans (hb5.mono HBX.out.size))
        clear hb5 MC
        go_wp2_with fail
        go_ret
        exact ⟨rfl, HB5.out⟩
      · have MC := Lib.hid (may_toomany a (some ⟨w3.heap.size, 0, none⟩) k k (some ⟨mb, 0, none⟩) 2 2 _ HSX.out ⟨by omega, by omega⟩ (.inl (by omega)))
        have t2 : decide ((k : Int) ≤ 12) = false := by simp; omega
        go_wp2_with (rw [EM.out])
        refine MC.out.mono ?_
        rintro e w5 ⟨rfl, hb5⟩
        have HB5 : Hid (Below w.heap.size w w5) := Lib.hid (HBX.out.trans (hb5.mono HBX.out.size))
        have HS5 := Lib.hid (HSX.out.below hb5)
        clear hb5 MC
        obtain ⟨x0, hx0⟩ : ∃ x, a 0 = x := ⟨_, rfl⟩
        rw [hx0]
        have HX0 := Lib.hid hx0
        clear hx0
        go_wp2_with fail
        refine (there_any _ _ _ _).mono ?_
        rintro e w6 ⟨g, rfl, g0, g1, hb6⟩
        have HB6 : Hid (Below w.heap.size w w6) := Lib.hid (HB5.out.trans (hb6.mono HB5.out.size))
        have HS6 := Lib.hid (HS5.out.below hb6)
        clear hb6 g0 g1
        go_wp2_with fail
        refine (bare_any _ _).mono ?_
        rintro e w7 ⟨rfl, hb7⟩
        have hal : Below w6.heap.size w6 (w6.alloc (.cells #[.int .i64 101, .slice (some ⟨g, 0, none⟩) 2 2] 53)) := (Below.refl _ _).alloc (Nat.le_refl _) _
        have h67 : Below w6.heap.size w6 w7 := hal.trans (hb7.mono (by simp))
        have hrow7 := (hb7.block w6.heap.size (by simp)).trans (heap_alloc_new w6 _)
        have f0 : w7.cell? ⟨w6.heap.size, 0, none⟩ = some (.int .i64 101) := (cell_of_row w7 _ 0 _ _ (0, 0) hrow7).trans rfl
        have f1 : w7.cell? ⟨w6.heap.size, 1, none⟩ = some (.slice (some ⟨g, 0, none⟩) 2 2) := (cell_of_row w7 _ 1 _ _ (0, 0) hrow7).trans rfl
        have z0 := frozen_of_row w7 w6.heap.size 0 _ _ hrow7
        have z1 := frozen_of_row w7 w6.heap.size 1 _ _ hrow7
        have h68 : Below w6.heap.size w6 ((w7.setCell ⟨w6.heap.size, 0, none⟩ (.int .i64 101)).setCell ⟨w6.heap.size, 1, none⟩ (.slice none 0 0)) := (h67.setCell (Nat.le_refl _) _).setCell (Nat.le_refl _) _
        have SP := Lib.hid (same_plain a 0 _ (HS6.out.below h68) (by omega))
        have HB8 : Hid (Below w.heap.size w ((w7.setCell ⟨w6.heap.size, 0, none⟩ (.int .i64 101)).setCell ⟨w6.heap.size, 1, none⟩ (.slice none 0 0))) := Lib.hid (HB6.out.trans (h68.mono HB6.out.size))
        rw [HX0.out] at SP
        clear hb7 hal h67 hrow7 h68
        go_wp2_with fail
        refine SP.out.mono ?_
        rintro e w9 ⟨rfl, hb9⟩
        go_wp2_with fail
        go_ret
        exact ⟨rfl, HB8.out.trans (hb9.mono HB8.out.size)⟩

end Go.Proofs.YtjcklfbpdjfibaaDoor

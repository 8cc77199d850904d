/-
  The law on counts: so many locals.
-/
import Derived.Test.YtjcklfbpdjfibaaDoorCnt0
import Derived.Test.YtjcklfbpdjfibaaDoorCnt1
import Derived.StillTailTactics
namespace Go.Proofs.YtjcklfbpdjfibaaDoor
open Go.RowKit

set_option maxHeartbeats 4000000 in
set_option maxRecDepth 100000 in
theorem counts_3 (a : Nat → Addr) (what n : Int) (w : World) (hS : Sents a w) (h0 : (what.tmod 5 + 5).tmod 5 = 3) (hb : -4 ≤ what.tmod 5 ∧ what.tmod 5 ≤ 4) :
    Calls Tryd.prog 7 #[.int .i64 what, .int .i64 n] w (TruePost w) := by
  have H := Lib.hid hS
  have e1 := low3C n
  obtain ⟨m, hm⟩ : ∃ m : Nat, n % 8 = (m : Int) := ⟨(n % 8).toNat, by omega⟩
  have hm1 : m < 8 := by omega
  rw [hm] at e1
  obtain ⟨r, hr⟩ : ∃ r, what.tmod 5 = r := ⟨_, rfl⟩
  rw [hr] at h0 hb
  have f1 : IntKind.i64.wrap (r + 5) = r + 5 := IntWalk.i64_in _ (by omega)
  clear hS hm
  go_enter Tryd.func7, Tryd.ntmps7
  go_wp2_with fail
  refine (pfirst a _ H.out).mono ?_
  rintro e w1 ⟨rfl, hb1⟩
  have hb1a := hb1.alloc hb1.size (.cells #[.int .i64 12, .int .i64 10, .int .i64 12, .int .i64 12, .int .i64 120] 3)
  have HB1 := Lib.hid hb1a
  have HS1 := Lib.hid (H.out.below hb1a)
  clear hb1 hb1a H
  go_wp2_with fail
  generalize (w1.alloc (.cells #[.int .i64 12, .int .i64 10, .int .i64 12, .int .i64 12, .int .i64 120] 3)) = wa at *
  refine (one_progC 33 0 0 0 _).mono ?_
  rintro e w2 ⟨cb, mb, c1, c2, rfl, hO, hcb, hmb, hc1, hc2, hb2⟩
  have HO := Lib.hid hO
  have HB12 := Lib.hid hb2
  have HNE := Lib.hid hO.ne
  have HB2 : Hid (Below w.heap.size w w2) := Lib.hid (HB1.out.trans (hb2.mono HB1.out.size))
  have HS2 := Lib.hid (HS1.out.below hb2)
  have HLOW : Hid (w.heap.size ≤ w2.heap.size) := Lib.hid HB2.out.size
  clear hO hb2
  go_wp2_with fail
  clear f1 e1 h0 hb hr
  have hN : (9 + (m : Int)) = ((9 + m : Nat) : Int) := by omega
  rw [hN]
  obtain ⟨N, hNN⟩ : ∃ N, 9 + m = N := ⟨_, rfl⟩
  rw [hNN]
  have hN0 : 9 ≤ N := by omega
  have hN1 : N ≤ 9 + 7 := by omega
  clear hN hNN hm1
  have hpb : (w2.alloc (.cells #[.slice (some ⟨cb, 0, none⟩) 2 2, .slice (some ⟨mb, 0, none⟩) 2 2] 46)).heap[w2.heap.size]? = _ := heap_alloc_new w2 _
  have hbp : Below w2.heap.size w2 (w2.alloc (.cells #[.slice (some ⟨cb, 0, none⟩) 2 2, .slice (some ⟨mb, 0, none⟩) 2 2] 46)) := (Below.refl _ _).alloc (Nat.le_refl _) _
  have hsz : (w2.alloc (.cells #[.slice (some ⟨cb, 0, none⟩) 2 2, .slice (some ⟨mb, 0, none⟩) 2 2] 46)).heap.size = w2.heap.size + 1 := by simp
  generalize (w2.alloc (.cells #[.slice (some ⟨cb, 0, none⟩) 2 2, .slice (some ⟨mb, 0, none⟩) 2 2] 46)) = w3 at *
  obtain ⟨pb, hpe⟩ : ∃ pb, w2.heap.size = pb := ⟨_, rfl⟩
  rw [hpe] at hpb hsz
  rw [hpe]
  have HPE := Lib.hid hpe
  have HPB := Lib.hid hpb
  have HBP := Lib.hid hbp
  have HSZ := Lib.hid hsz
  clear hpe hpb hbp hsz
  go_loop [8, 9] (fun ss si => ∃ k : Nat, k ≤ N ∧ si = .int .i64 k ∧ ss = .string (eyes k)) (fun _ si => N - (intOf si).toNat)
  case atStart => exact ⟨0, Nat.zero_le _, rfl, rfl⟩
  case round =>
    obtain ⟨k, hk, rfl, rfl⟩ := hrel
    by_cases hlt : k < N
    · have t1 : decide (k < N) = true := by simpa using hlt
      have HN := Lib.hid (eyes_next k)
      have hsz := eyes_size k
      go_wp2_with fail
      go_round
      case rel => exact ⟨k + 1, by omega, by go_num, by rw [HN.out]⟩
      case measure => simp [intOf]; omega
    · obtain rfl : k = N := by omega
      have t1 : decide (k < k) = false := by simp
      have p0 : w3.cell? ⟨pb, 0, none⟩ = some (.slice (some ⟨cb, 0, none⟩) 2 2) := (cell_of_row w3 pb 0 _ _ (0, 0) HPB.out).trans rfl
      have p1 : w3.cell? ⟨pb, 1, none⟩ = some (.slice (some ⟨mb, 0, none⟩) 2 2) := (cell_of_row w3 pb 1 _ _ (0, 0) HPB.out).trans rfl
      have q0 : w3.frozen? ⟨pb, 0, none⟩ = false := frozen_of_row w3 pb 0 _ _ HPB.out
      have q1 : w3.frozen? ⟨pb, 1, none⟩ = false := frozen_of_row w3 pb 1 _ _ HPB.out
      have hO3 := HO.out.below HBP.out
      have HO3 := Lib.hid hO3
      have b1 : w3.cell? ⟨mb, 4, none⟩ = some (.string ⟨#[73]⟩) := (cell_of_row w3 mb 4 _ _ (0, 0) hO3.mth).trans rfl
      have r1 : w3.frozen? ⟨mb, 4, none⟩ = false := frozen_of_row w3 mb 4 _ _ hO3.mth
      have hsz := eyes_size k
      obtain ⟨s, hs⟩ : ∃ s, eyes k = s := ⟨_, rfl⟩
      rw [hs] at hsz ⊢
      obtain ⟨h, hh⟩ : ∃ h, k / 2 = h := ⟨_, rfl⟩
      have hq : Int.tdiv (k : Int) 2 = (h : Int) := by rw [← hh, Int.tdiv_eq_ediv_of_nonneg (by omega)]; omega
      have hq2 : (k : Int) / 2 = (h : Int) := by rw [← hh]; omega
      have hw : IntKind.i64.wrap (h : Int) = (h : Int) := IntWalk.i64_in _ (by omega)
      have hle : h ≤ k := by omega
      have HSE := Lib.hid hs
      have HHE := Lib.hid hh
      clear hO3 hs hh
      go_wp2_with fail
      go_still_tail 8, (by kernel_rfl)
      change wpList _ _ _ _ _ w3.drew
      have hO4 : OneAt w3.drew cb mb c1 c2 33 0 0 0 := ⟨HO3.out.cls, HO3.out.mth, HO3.out.co1, HO3.out.co2⟩
      have hP4 : w3.drew.heap[pb]? = some (.cells #[.slice (some ⟨cb, 0, none⟩) 2 2, .slice (some ⟨mb, 0, none⟩) 2 2] 46 (0, 0)) := HPB.out
      have hB4 : Below wa.heap.size wa w3.drew := below_drew (HB12.out.trans (HBP.out.mono HB12.out.size))
      have hmp : mb ≠ pb := by have := (Array.getElem?_eq_some_iff.1 HO.out.mth).1; have := HPE.out; omega
      clear p0 p1 q0 q1 b1 r1
      generalize w3.drew = w4 at *
      have b1 : w4.cell? ⟨mb, 4, none⟩ = some (.string ⟨#[73]⟩) := (cell_of_row w4 mb 4 _ _ (0, 0) hO4.mth).trans rfl
      have r1 : w4.frozen? ⟨mb, 4, none⟩ = false := frozen_of_row w4 mb 4 _ _ hO4.mth
      have HO4 := Lib.hid hO4
      have HP4 := Lib.hid hP4
      have HB4 := Lib.hid hB4
      clear hO4 hP4 hB4
      go_upto_region 29 with (fail)
      obtain ⟨n1, n2, n3, n4, n5, n6⟩ := HNE.out
      have hS1 : s.extract 0 h = eyes h := by rw [← HSE.out, eyes_extract k 0 h hle]; rfl
      have hS2 : s.extract h k = eyes (k - h) := by rw [← HSE.out, eyes_extract k h k (Nat.le_refl _)]
      have HS21 := Lib.hid hS1
      have HS22 := Lib.hid hS2
      clear hS1 hS2
      generalize s.extract 0 h = S1 at *
      have hm5 : (w4.setCell ⟨mb, 4, none⟩ (.string S1)).heap[mb]? = some (.cells #[.string ⟨#[]⟩, .string ⟨#[]⟩, .string ⟨#[]⟩, .slice (some ⟨c1, 0, none⟩) 1 1, .string S1, .string ⟨#[82]⟩, .string ⟨#[]⟩, .slice (some ⟨c2, 0, none⟩) 2 2] 62 (0, 0)) := (heap_setCell_same w4 mb 4 _ _ _ HO4.out.mth).trans rfl
      have hp5 := (heap_setCell_other w4 ⟨mb, 4, none⟩ pb (.string S1) (by show pb ≠ mb; omega)).trans HP4.out
      have hl5 := (heap_setCell_other w4 ⟨mb, 4, none⟩ cb (.string S1) (by show cb ≠ mb; omega)).trans HO4.out.cls
      have ha5 := (heap_setCell_other w4 ⟨mb, 4, none⟩ c1 (.string S1) (by show c1 ≠ mb; omega)).trans HO4.out.co1
      have hd5 := (heap_setCell_other w4 ⟨mb, 4, none⟩ c2 (.string S1) (by show c2 ≠ mb; omega)).trans HO4.out.co2
      have hB5 : Below wa.heap.size wa (w4.setCell ⟨mb, 4, none⟩ (.string S1)) := HB4.out.setCell hmb _
      generalize (w4.setCell ⟨mb, 4, none⟩ (.string S1)) = w5 at *
      have p1 : w5.cell? ⟨pb, 1, none⟩ = some (.slice (some ⟨mb, 0, none⟩) 2 2) := (cell_of_row w5 pb 1 _ _ (0, 0) hp5).trans rfl
      have HM5 := Lib.hid hm5
      have HP5 := Lib.hid hp5
      have HL5 := Lib.hid hl5
      have HA5 := Lib.hid ha5
      have HD5 := Lib.hid hd5
      have HB5 := Lib.hid hB5
      clear b1 r1 hm5 hp5 hl5 ha5 hd5 hB5
      go_still_tail 8, (by kernel_rfl)
      change wpList _ _ _ _ _ w5.drew
      have hm6 : w5.drew.heap[mb]? = _ := HM5.out
      have hp6 : w5.drew.heap[pb]? = _ := HP5.out
      have hl6 : w5.drew.heap[cb]? = _ := HL5.out
      have ha6 : w5.drew.heap[c1]? = _ := HA5.out
      have hd6 : w5.drew.heap[c2]? = _ := HD5.out
      have hB6 : Below wa.heap.size wa w5.drew := below_drew HB5.out
      clear p1
      generalize w5.drew = w6 at *
      have b1 : w6.cell? ⟨mb, 5, none⟩ = some (.string ⟨#[82]⟩) := (cell_of_row w6 mb 5 _ _ (0, 0) hm6).trans rfl
      have r1 : w6.frozen? ⟨mb, 5, none⟩ = false := frozen_of_row w6 mb 5 _ _ hm6
      generalize s.extract h k = S2 at *
      have hxm : (w6.setCell ⟨mb, 5, none⟩ (.string S2)).heap[mb]? = some (.cells #[.string ⟨#[]⟩, .string ⟨#[]⟩, .string ⟨#[]⟩, .slice (some ⟨c1, 0, none⟩) 1 1, .string S1, .string S2, .string ⟨#[]⟩, .slice (some ⟨c2, 0, none⟩) 2 2] 62 (0, 0)) := (heap_setCell_same w6 mb 5 _ _ _ hm6).trans rfl
      have hxp := (heap_setCell_other w6 ⟨mb, 5, none⟩ pb (.string S2) (by show pb ≠ mb; omega)).trans hp6
      have hxl := (heap_setCell_other w6 ⟨mb, 5, none⟩ cb (.string S2) (by show cb ≠ mb; omega)).trans hl6
      have hxa := (heap_setCell_other w6 ⟨mb, 5, none⟩ c1 (.string S2) (by show c1 ≠ mb; omega)).trans ha6
      have hxd := (heap_setCell_other w6 ⟨mb, 5, none⟩ c2 (.string S2) (by show c2 ≠ mb; omega)).trans hd6
      have hx : Below wa.heap.size wa (w6.setCell ⟨mb, 5, none⟩ (.string S2)) := hB6.setCell hmb _
      have p0' : (w6.setCell ⟨mb, 5, none⟩ (.string S2)).cell? ⟨pb, 0, none⟩ = some (.slice (some ⟨cb, 0, none⟩) 2 2) := (cell_of_row _ pb 0 _ _ (0, 0) hxp).trans rfl
      have p1' : (w6.setCell ⟨mb, 5, none⟩ (.string S2)).cell? ⟨pb, 1, none⟩ = some (.slice (some ⟨mb, 0, none⟩) 2 2) := (cell_of_row _ pb 1 _ _ (0, 0) hxp).trans rfl
      have HBX : Hid (Below w.heap.size w (w6.setCell ⟨mb, 5, none⟩ (.string S2))) := Lib.hid (HB1.out.trans (hx.mono HB1.out.size))
      have HSX := Lib.hid (HS1.out.below hx)
      have hz1 : S1.size = h := by rw [HS21.out, eyes_size]
      have hz2 : S2.size = k - h := by rw [HS22.out, eyes_size]
      have M0 : Hid (MethFair (w6.setCell ⟨mb, 5, none⟩ (.string S2)) mb 0 0 ⟨#[]⟩ ⟨#[]⟩ (some ⟨c1, 0, none⟩) 1 1) := Lib.hid ⟨⟨(cell_of_row _ mb 0 _ _ (0, 0) hxm).trans rfl, (cell_of_row _ mb 1 _ _ (0, 0) hxm).trans rfl, (cell_of_row _ mb 2 _ _ (0, 0) hxm).trans rfl, (cell_of_row _ mb 3 _ _ (0, 0) hxm).trans rfl⟩,
        ⟨gvL [(33, 0, 0, 0)], picks_of hxa (by omega) (fun i j hi hj => codeV_at [(33, 0, 0, 0)] i j hi hj), fun j hj => by
          obtain rfl : j = 0 := by omega
          exact ⟨rfl, rfl, rfl, rfl⟩⟩, ⟨Nat.zero_le _, Nat.zero_le _, by omega⟩, ⟨fair_nil, fair_nil⟩, fun _ => rfl⟩
      have M1 : Hid (MethFair (w6.setCell ⟨mb, 5, none⟩ (.string S2)) mb 0 1 S1 S2 (some ⟨c2, 0, none⟩) 2 2) := Lib.hid ⟨⟨(cell_of_row _ mb 4 _ _ (0, 0) hxm).trans rfl, (cell_of_row _ mb 5 _ _ (0, 0) hxm).trans rfl, (cell_of_row _ mb 6 _ _ (0, 0) hxm).trans rfl, (cell_of_row _ mb 7 _ _ (0, 0) hxm).trans rfl⟩,
        ⟨gvL [(33, 0, 0, 0), (33, 0, 0, 0)], picks_of hxd (by omega) (fun i j hi hj => codeV_at [(33, 0, 0, 0), (33, 0, 0, 0)] i j hi hj), fun j hj => by
          have : j = 0 ∨ j = 1 := by omega
          rcases this with rfl | rfl <;> exact ⟨rfl, rfl, rfl, rfl⟩⟩, ⟨by omega, by omega, by omega⟩, ⟨by rw [HS21.out]; exact eyes_fair _, by rw [HS22.out]; exact eyes_fair _⟩, fun h => absurd h (by omega)⟩
      have HCL := Lib.hid (cls_of (len := 2) (f := oneF) hxl (by omega) (fun i hi => by
        have : i = 0 ∨ i = 1 := by omega
        rcases this with rfl | rfl <;> rfl))
      have HFC : Hid (∀ i, i < 2 → Fair (oneF i) ∧ (oneF i).size ≤ 1000000) := Lib.hid fun i hi => by
        have : i = 0 ∨ i = 1 := by omega
        rcases this with rfl | rfl
        · exact ⟨fair_IR, by decide⟩
        · exact ⟨fair_nil, by decide⟩
      have HFS : Hid (∀ i, i < 2 → (oneF i).size ≤ 10) := Lib.hid fun i hi => by
        have : i = 0 ∨ i = 1 := by omega
        rcases this with rfl | rfl <;> decide
      clear hx hxm hxp hxl hxa hxd hm6 hp6 hl6 ha6 hd6 hB6 n1 n2 n3 n4 n5 n6 HM5 HP5 HL5 HA5 HD5 HB5 hmp
      by_cases hk12 : k ≤ 12
      · have MC := Lib.hid (may_pair a _ 2 2 mb oneF S1 S2 _ _ 1 2 1 2 2 2 _ HSX.out (by omega) HCL.out HFC.out (Nat.le_refl _) HFS.out (fun h => absurd h (Nat.lt_irrefl _)) M0.out M1.out (by decide) (.inl ⟨rfl, by rw [hz1, hz2, headC, if_neg (by omega)]⟩))
        rw [if_neg (Nat.lt_irrefl 2), if_neg (Nat.lt_irrefl 2)] at MC
        have t2 : decide ((k : Int) ≤ 12) = true := by simp; omega
        go_wp2_with fail
        refine MC.out.mono ?_
        rintro e w5 ⟨hb5, rfl⟩
        have HB5 : Hid (Below w.heap.size w w5) := Lib.hid (HBX.out.trans (hb5.mono HBX.out.size))
        clear hb5 MC
        go_wp2_with fail
        go_ret
        exact ⟨rfl, HB5.out⟩
      · have MC := Lib.hid (may_pair a _ 2 2 mb oneF S1 S2 _ _ 1 2 1 2 2 1 _ HSX.out (by omega) HCL.out HFC.out (Nat.le_refl _) HFS.out (fun h => absurd h (Nat.lt_irrefl _)) M0.out M1.out (by decide) (.inr ⟨rfl, by rw [hz1, hz2, headC, if_pos (by omega)]⟩))
        rw [if_neg (Nat.lt_irrefl 2), if_pos (show 1 < 2 by omega)] at MC
        have t2 : decide ((k : Int) ≤ 12) = false := by simp; omega
        go_wp2_with fail
        refine MC.out.mono ?_
        rintro e w5 ⟨hb5, b, rfl, hbb, hbox⟩
        have HB5 : Hid (Below w.heap.size w w5) := Lib.hid (HBX.out.trans (hb5.mono HBX.out.size))
        have HS5 := Lib.hid (HSX.out.below hb5)
        have HBOX := Lib.hid hbox
        clear hb5 MC hbb hbox
        go_wp2_with fail
        refine (there_any _ _ _ _).mono ?_
        rintro e w6 ⟨g, rfl, g0, g1, hb6⟩
        have hal : Below w6.heap.size w6 (w6.alloc (.cells #[.int .i64 101, .slice (some ⟨g, 0, none⟩) 2 2] 53)) := (Below.refl _ _).alloc (Nat.le_refl _) _
        have hS6 := HS5.out.below hb6
        have SW := Lib.hid (same_where a b 0 1 (-1) g 2 _ (hS6.below hal) (by omega) ((HBOX.out.below hb6).below hal) (Row_alloc (row_two g0 g1 (Nat.le_refl _) (by unfold maxLen; omega) rfl rfl) _))
        have hb56 : Below w.heap.size w w6 := HB5.out.trans (hb6.mono HB5.out.size)
        have HB6 := Lib.hid (hb56.trans (hal.mono hb56.size))
        clear hb6 hal hS6 g0 g1 hb56
        go_wp2_with fail
        refine SW.out.mono ?_
        rintro e w9 ⟨rfl, hb9⟩
        go_wp2_with fail
        go_ret
        exact ⟨rfl, HB6.out.trans (hb9.mono HB6.out.size)⟩

end Go.Proofs.YtjcklfbpdjfibaaDoor

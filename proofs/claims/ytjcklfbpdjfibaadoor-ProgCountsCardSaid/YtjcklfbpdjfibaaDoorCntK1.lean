/-
  The law on counts: so many fields.
-/
import Derived.Test.YtjcklfbpdjfibaaDoorCnt0
import Derived.Test.YtjcklfbpdjfibaaDoorCnt1
namespace Go.Proofs.YtjcklfbpdjfibaaDoor
open Go.RowKit

set_option maxHeartbeats 4000000 in
set_option maxRecDepth 100000 in
theorem counts_1 (a : Nat → Addr) (what n : Int) (w : World) (hS : Sents a w) (h0 : (what.tmod 5 + 5).tmod 5 = 1) (hb : -4 ≤ what.tmod 5 ∧ what.tmod 5 ≤ 4) :
    Calls Tryd.prog 7 #[.int .i64 what, .int .i64 n] w (TruePost w) := by
  have H := Lib.hid hS
  have e1 := low3C n
  obtain ⟨m, hm⟩ : ∃ m : Nat, n % 8 = (m : Int) := ⟨(n % 8).toNat, by omega⟩
  have hm1 : m < 8 := by omega
  rw [hm] at e1
  obtain ⟨r, hr⟩ : ∃ r, what.tmod 5 = r := ⟨_, rfl⟩
  rw [hr] at h0 hb
  have f1 : IntKind.i64.wrap (r + 5) = r + 5 := IntWalk.i64_in _ (by omega)
  clear hS hm
  go_enter Tryd.func7, Tryd.ntmps7
  go_wp2_with fail
  refine (pfirst a _ H.out).mono ?_
  rintro e w1 ⟨rfl, hb1⟩
  have hb1a := hb1.alloc hb1.size (.cells #[.int .i64 12, .int .i64 10, .int .i64 12, .int .i64 12, .int .i64 120] 3)
  have HB1 := Lib.hid hb1a
  have HS1 := Lib.hid (H.out.below hb1a)
  clear hb1 hb1a H
  go_wp2_with fail
  generalize (w1.alloc (.cells #[.int .i64 12, .int .i64 10, .int .i64 12, .int .i64 12, .int .i64 120] 3)) = wa at *
  refine (one_progC 33 0 0 0 _).mono ?_
  rintro e w2 ⟨cb, mb, c1, c2, rfl, hO, hcb, hmb, hc1, hc2, hb2⟩
  have HO := Lib.hid hO
  have HB12 := Lib.hid hb2
  have HNE := Lib.hid hO.ne
  have HB2 : Hid (Below w.heap.size w w2) := Lib.hid (HB1.out.trans (hb2.mono HB1.out.size))
  have HS2 := Lib.hid (HS1.out.below hb2)
  have HLOW : Hid (w.heap.size ≤ w2.heap.size) := Lib.hid HB2.out.size
  clear hO hb2
  go_wp2_with fail
  clear f1 e1 h0 hb hr
  have hN : (7 + (m : Int)) = ((7 + m : Nat) : Int) := by omega
  rw [hN]
  obtain ⟨N, hNN⟩ : ∃ N, 7 + m = N := ⟨_, rfl⟩
  rw [hNN]
  have hN0 : 7 ≤ N := by omega
  have hN1 : N ≤ 7 + 7 := by omega
  clear hN hNN hm1
  have hpb : (w2.alloc (.cells #[.slice (some ⟨cb, 0, none⟩) 2 2, .slice (some ⟨mb, 0, none⟩) 2 2] 46)).heap[w2.heap.size]? = _ := heap_alloc_new w2 _
  have hbp : Below w2.heap.size w2 (w2.alloc (.cells #[.slice (some ⟨cb, 0, none⟩) 2 2, .slice (some ⟨mb, 0, none⟩) 2 2] 46)) := (Below.refl _ _).alloc (Nat.le_refl _) _
  have hsz : (w2.alloc (.cells #[.slice (some ⟨cb, 0, none⟩) 2 2, .slice (some ⟨mb, 0, none⟩) 2 2] 46)).heap.size = w2.heap.size + 1 := by simp
  generalize (w2.alloc (.cells #[.slice (some ⟨cb, 0, none⟩) 2 2, .slice (some ⟨mb, 0, none⟩) 2 2] 46)) = w3 at *
  obtain ⟨pb, hpe⟩ : ∃ pb, w2.heap.size = pb := ⟨_, rfl⟩
  rw [hpe] at hpb hsz
  rw [hpe]
  have HPE := Lib.hid hpe
  have HPB := Lib.hid hpb
  have HBP := Lib.hid hbp
  have HSZ := Lib.hid hsz
  clear hpe hpb hbp hsz
  go_loop [8, 9] (fun ss si => ∃ k : Nat, k ≤ N ∧ si = .int .i64 k ∧ ss = .string (eyes k)) (fun _ si => N - (intOf si).toNat)
  case atStart => exact ⟨0, Nat.zero_le _, rfl, rfl⟩
  case round =>
    obtain ⟨k, hk, rfl, rfl⟩ := hrel
    by_cases hlt : k < N
    · have t1 : decide (k < N) = true := by simpa using hlt
      have HN := Lib.hid (eyes_next k)
      have hsz := eyes_size k
      go_wp2_with fail
      go_round
      case rel => exact ⟨k + 1, by omega, by go_num, by rw [HN.out]⟩
      case measure => simp [intOf]; omega
    · obtain rfl : k = N := by omega
      have t1 : decide (k < k) = false := by simp
      have p0 : w3.cell? ⟨pb, 0, none⟩ = some (.slice (some ⟨cb, 0, none⟩) 2 2) := (cell_of_row w3 pb 0 _ _ (0, 0) HPB.out).trans rfl
      have p1 : w3.cell? ⟨pb, 1, none⟩ = some (.slice (some ⟨mb, 0, none⟩) 2 2) := (cell_of_row w3 pb 1 _ _ (0, 0) HPB.out).trans rfl
      have q0 : w3.frozen? ⟨pb, 0, none⟩ = false := frozen_of_row w3 pb 0 _ _ HPB.out
      have q1 : w3.frozen? ⟨pb, 1, none⟩ = false := frozen_of_row w3 pb 1 _ _ HPB.out
      have hO3 := HO.out.below HBP.out
      have b1 : w3.cell? ⟨cb, 1, none⟩ = some (.string ⟨#[]⟩) := (cell_of_row w3 cb 1 _ _ (0, 0) hO3.cls).trans rfl
      have r1 : w3.frozen? ⟨cb, 1, none⟩ = false := frozen_of_row w3 cb 1 _ _ hO3.cls
      obtain ⟨n1, n2, n3, n4, n5, n6⟩ := HNE.out
      have hcp : cb ≠ pb := by have := (Array.getElem?_eq_some_iff.1 HO.out.cls).1; have := HPE.out; omega
      have hx : Below wa.heap.size wa (w3.setCell ⟨cb, 1, none⟩ (.string (eyes k))) := (HB12.out.trans (HBP.out.mono HB12.out.size)).setCell hcb _
      have hxc : (w3.setCell ⟨cb, 1, none⟩ (.string (eyes k))).heap[cb]? = some (.cells #[.string ⟨#[73, 82]⟩, .string (eyes k)] 75 (0, 0)) := (heap_setCell_same w3 cb 1 _ _ _ hO3.cls).trans rfl
      have hxm := (heap_setCell_other w3 ⟨cb, 1, none⟩ mb (.string (eyes k)) (by show mb ≠ cb; omega)).trans hO3.mth
      have hx1 := (heap_setCell_other w3 ⟨cb, 1, none⟩ c1 (.string (eyes k)) (by show c1 ≠ cb; omega)).trans hO3.co1
      have hx2 := (heap_setCell_other w3 ⟨cb, 1, none⟩ c2 (.string (eyes k)) (by show c2 ≠ cb; omega)).trans hO3.co2
      have hxp := (heap_setCell_other w3 ⟨cb, 1, none⟩ pb (.string (eyes k)) (by show pb ≠ cb; omega)).trans HPB.out
      have p0' : (w3.setCell ⟨cb, 1, none⟩ (.string (eyes k))).cell? ⟨pb, 0, none⟩ = some (.slice (some ⟨cb, 0, none⟩) 2 2) := (cell_of_row _ pb 0 _ _ (0, 0) hxp).trans rfl
      have p1' : (w3.setCell ⟨cb, 1, none⟩ (.string (eyes k))).cell? ⟨pb, 1, none⟩ = some (.slice (some ⟨mb, 0, none⟩) 2 2) := (cell_of_row _ pb 1 _ _ (0, 0) hxp).trans rfl
      have HBX : Hid (Below w.heap.size w (w3.setCell ⟨cb, 1, none⟩ (.string (eyes k)))) := Lib.hid (HB1.out.trans (hx.mono HB1.out.size))
      have HSX := Lib.hid (HS1.out.below hx)
      have M0 := Lib.hid (m0_of hxm hx1)
      have M1 := Lib.hid (m1_of hxm hx2)
      have HCL := Lib.hid (cls_of (len := 2) (f := two ⟨#[73, 82]⟩ (eyes k)) hxc (by omega) (fun i hi => by
        have : i = 0 ∨ i = 1 := by omega
        rcases this with rfl | rfl <;> rfl))
      have HFC : Hid (∀ i, i < 2 → Fair (two ⟨#[73, 82]⟩ (eyes k) i) ∧ (two ⟨#[73, 82]⟩ (eyes k) i).size ≤ 1000000) := Lib.hid fun i hi => by
        have : i = 0 ∨ i = 1 := by omega
        rcases this with rfl | rfl
        · exact ⟨fair_IR, by show (⟨#[73, 82]⟩ : ByteArray).size ≤ _; decide⟩
        · exact ⟨eyes_fair k, by show (eyes k).size ≤ _; rw [eyes_size]; omega⟩
      clear hx hxc hxm hx1 hx2 hxp hO3 n1 n2 n3 n4 n5 n6
      by_cases hk12 : k ≤ 10
      · have MC := Lib.hid (may_pair a _ 2 2 mb (two ⟨#[73, 82]⟩ (eyes k)) ⟨#[73]⟩ ⟨#[82]⟩ _ _ 1 2 1 2 2 2 _ HSX.out (by omega) HCL.out HFC.out (Nat.le_refl _) (fun i hi => by
          have : i = 0 ∨ i = 1 := by omega
          rcases this with rfl | rfl
          · show (⟨#[73, 82]⟩ : ByteArray).size ≤ _; decide
          · show (eyes k).size ≤ 10; rw [eyes_size]; exact hk12) (fun h => absurd h (Nat.lt_irrefl _)) M0.out M1.out (by decide) (.inl ⟨rfl, by decide⟩))
        rw [if_neg (Nat.lt_irrefl 2), if_neg (Nat.lt_irrefl 2)] at MC
        have t2 : decide ((k : Int) ≤ 10) = true := by simp; omega
        go_wp2_with fail
        refine MC.out.mono ?_
        rintro e w5 ⟨hb5, rfl⟩
        have HB5 : Hid (Below w.heap.size w w5) := Lib.hid (HBX.out.trans (hb5.mono HBX.out.size))
        clear hb5 MC
        go_wp2_with fail
        go_ret
        exact ⟨rfl, HB5.out⟩
      · have MC := Lib.hid (may_pair a _ 2 2 mb (two ⟨#[73, 82]⟩ (eyes k)) ⟨#[73]⟩ ⟨#[82]⟩ _ _ 1 2 1 2 1 2 _ HSX.out (by omega) HCL.out HFC.out (by omega) (fun i hi => by
          obtain rfl : i = 0 := by omega
          show (⟨#[73, 82]⟩ : ByteArray).size ≤ _; decide) (fun _ => by show 10 < (eyes k).size; rw [eyes_size]; omega) M0.out M1.out (by decide) (.inl ⟨rfl, by decide⟩))
        rw [if_pos (show 1 < 2 by omega)] at MC
        have t2 : decide ((k : Int) ≤ 10) = false := by simp; omega
        go_wp2_with fail
        refine MC.out.mono ?_
        rintro e w5 ⟨hb5, b, rfl, hbb, hbox⟩
        have HB5 : Hid (Below w.heap.size w w5) := Lib.hid (HBX.out.trans (hb5.mono HBX.out.size))
        have HS5 := Lib.hid (HSX.out.below hb5)
        have HBOX := Lib.hid hbox
        clear hb5 MC hbb hbox
        go_wp2_with fail
        refine (there_any _ _ _ _).mono ?_
        rintro e w6 ⟨g, rfl, g0, g1, hb6⟩
        have hal : Below w6.heap.size w6 (w6.alloc (.cells #[.int .i64 101, .slice (some ⟨g, 0, none⟩) 2 2] 53)) := (Below.refl _ _).alloc (Nat.le_refl _) _
        have hS6 := HS5.out.below hb6
        have SW := Lib.hid (same_where a b 0 1 (-1) g 2 _ (hS6.below hal) (by omega) ((HBOX.out.below hb6).below hal) (Row_alloc (row_two g0 g1 (Nat.le_refl _) (by unfold maxLen; omega) rfl rfl) _))
        have hb56 : Below w.heap.size w w6 := HB5.out.trans (hb6.mono HB5.out.size)
        have HB6 := Lib.hid (hb56.trans (hal.mono hb56.size))
        clear hb6 hal hS6 g0 g1 hb56
        go_wp2_with fail
        refine SW.out.mono ?_
        rintro e w9 ⟨rfl, hb9⟩
        go_wp2_with fail
        go_ret
        exact ⟨rfl, HB6.out.trans (hb9.mono HB6.out.size)⟩

end Go.Proofs.YtjcklfbpdjfibaaDoor

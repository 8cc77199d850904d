/-
  A heap is made: New.
-/
import Derived.Test.YtflbjfcmnopfaaaDoorHpB
namespace Go.Proofs.YtflbjfcmnopfaaaDoor
open Go.RowKit

def NewHPost (len : Nat) (cf : Nat → ByteArray) (n y : Nat) (w : World) (e : Ending) (w' : World) : Prop :=
  ∃ hb ab gb bg cp cx, e = .returned (.tuple #[.pointer (some ⟨hb, 0, none⟩), .nilIface]) ∧
    Hp w.heap.size hb ab gb bg cp len cx cf n y 0 y ((y : Int) + ((n : Int) - y) / 2) ((y : Int) + ((n : Int) - y) / 2) ((y : Int) + ((n : Int) - y) / 2 + ((n : Int) - y) / 2) ((y : Int) + ((n : Int) - y) / 2) (fun _ => 0) (fun _ => false) (.slice none 0 0) w' ∧ Below w.heap.size w w'

def fillC (ab bg n len : Nat) (cp : Option Addr) (cx : Nat) (y hf : Int) : Nat → Array Value
  | 0 => #[.slice cp len cx, .slice none 0 0, .pointer (some ⟨ab, 0, none⟩), .int .i64 0, .int .i64 y, .int .i64 0, .int .i64 0, .int .i64 0, .int .i64 0, .int .i64 0, .int .i64 0, .int .i64 0, .int .i64 0, .slice (some ⟨bg, 0, none⟩) n n, .slice none 0 0]
  | 1 => #[.slice cp len cx, .slice none 0 0, .pointer (some ⟨ab, 0, none⟩), .int .i64 0, .int .i64 y, .int .i64 0, .int .i64 y, .int .i64 (y + hf), .int .i64 y, .int .i64 0, .int .i64 0, .int .i64 0, .int .i64 0, .slice (some ⟨bg, 0, none⟩) n n, .slice none 0 0]
  | _ => #[.slice cp len cx, .slice none 0 0, .pointer (some ⟨ab, 0, none⟩), .int .i64 0, .int .i64 y, .int .i64 0, .int .i64 y, .int .i64 (y + hf), .int .i64 y, .int .i64 (y + hf), .int .i64 (y + hf + hf), .int .i64 (y + hf), .int .i64 0, .slice (some ⟨bg, 0, none⟩) n n, .slice none 0 0]

def LoopH (hb : Nat) (wc : World) (f : Nat → Array Value) (si : Value) (wr : World) : Prop :=
  (si = .int .i64 0 ∧ wr.heap[hb]? = some (.cells (f 0) 174 (0, 0)) ∧ Tri hb hb hb wc wr) ∨
  (si = .int .i64 1 ∧ wr.heap[hb]? = some (.cells (f 1) 174 (0, 0)) ∧ Tri hb hb hb wc wr) ∨
  (si = .int .i64 2 ∧ wr.heap[hb]? = some (.cells (f 2) 174 (0, 0)) ∧ Tri hb hb hb wc wr)

theorem An.base {B C b g n : Nat} {zs : List Int} {w : World} (h : An B b g n zs w) (hc : C ≤ B) : An C b g n zs w := ⟨h.len, h.small, h.box, h.row, h.ne, Nat.le_trans hc h.lo⟩

theorem new_fin {n y nc ab gb hb bg cx : Nat} {hf : Int} {cp : Option Addr} {cf : Nat → ByteArray} {w w1 wc wr : World} {c0 : Array Value} (HF : ((n : Int) - y) / 2 = hf) (_hf0 : 0 ≤ hf) (_hf1 : (y : Int) + 2 * hf ≤ n) (hy : y ≤ n) (hn : n ≤ 65536)
    (HB1 : Below w.heap.size w w1) (HS : w.heap.size + 1 ≤ ab) (HS1 : ab < w1.heap.size) (HA : An (w.alloc (.cells c0 50)).heap.size ab gb n (List.replicate n 0) w1)
    {r0 : Array Value} (HROW : wc.heap[hb]? = some (.cells r0 174 (0, 0))) (HBEG : wc.heap[bg]? = some (.cells (boolRow n fun _ => false) 4 (0, 0))) (HCLS : Cls wc cp nc cx cf)
    (HCP : ∀ ad, cp = some ad → w1.heap.size ≤ ad.block ∧ ad.block ≠ hb ∧ ad.block ≠ bg) (HL1 : w1.heap.size ≤ bg) (HL2 : w1.heap.size ≤ hb) (HNE : hb ≠ bg) (HBX : Below w1.heap.size w1 wc)
    (HR : wr.heap[hb]? = some (.cells (fillC ab bg n nc cp cx y hf 2) 174 (0, 0))) (HT : Tri hb hb hb wc wr) :
    NewHPost nc cf n y w (.returned (.tuple #[.pointer (some ⟨hb, 0, none⟩), .nilIface])) wr := by
  have HA' : An w.heap.size ab gb n (List.replicate n 0) w1 := HA.base (by simp)
  have l1 := (Array.getElem?_eq_some_iff.1 HROW).1
  have l4 := (Array.getElem?_eq_some_iff.1 HBEG).1
  have hsz := HBX.size
  have hh := HB1.size
  have hA0 : AnF w.heap.size ab gb n (fun _ => 0) w1 := AnF.of HA' (fun j hj => by simp [List.getD, hj])
  have hgb := hA0.blocks
  have hgl := hA0.lo
  have hwb : ∀ k, k < w1.heap.size → wr.heap[k]? = w1.heap[k]? := fun k hk => (HT.block k (by omega) (by omega) (by omega) (by omega)).trans (HBX.block k hk)
  unfold NewHPost
  rw [HF]
  refine ⟨hb, ab, gb, bg, cp, cx, rfl, ⟨HR, hA0.kept (hwb gb hgb.2) (hwb ab hgb.1), (HT.block bg l4 HNE.symm HNE.symm HNE.symm).trans HBEG, HCLS.apart (fun ad had hl => HT.block _ hl (HCP ad had).2.1 (HCP ad had).2.1 (HCP ad had).2.1),
    fun ad had => ⟨(HCP ad had).2.1, ?_, (HCP ad had).2.2⟩, ?_, ?_, HNE, ?_, ?_, ⟨?_, ?_, ?_⟩, ?_, ?_, ?_, ?_, ?_, hn, rfl⟩, HT.below (HB1.trans (HBX.mono hh)) (by omega) (by omega) (by omega) (by omega)⟩
  · have := (HCP ad had).1; omega
  all_goals omega

set_option maxHeartbeats 2000000 in
set_option maxRecDepth 100000 in
theorem new_heap (ca : Option Addr) (nc cc : Nat) (ma : Option Addr) (nm mc : Nat) (cf : Nat → ByteArray) (n y : Nat) (w : World) (hc : Cls w ca nc cc cf) (hnc : nc ≤ 1000) (hn : n ≤ 65536) (hy : y ≤ n) :
    Calls Tryd.prog 108 #[progV ca nc cc ma nm mc, .int .i64 n, .int .i64 y] w (NewHPost nc cf n y w) := by
  unfold progV
  have MK := Lib.hid (mk_bools n hn)
  have HC := Lib.hid hc
  clear hc
  go_enter Tryd.func108, Tryd.ntmps108
  go_upto_region 5 with (first | (go_at_call 157; refine (new_yes n _ hn).mono ?_; rintro e w1 ⟨ab, gb, rfl, hb0, hb1, hA, hB⟩))
  have HA := Lib.hid hA
  have HB1 : Hid (Below w.heap.size w w1) := Lib.hid (((Below.refl _ w).alloc (Nat.le_refl _) _).trans (hB.mono (by simp)))
  have hrow0 := heap_alloc_new w (.cells #[.slice ca nc cc, .slice ma nm mc] 50)
  have hrow1 := (hB.block w.heap.size (by simp)).trans hrow0
  have c0 : w1.cell? ⟨w.heap.size, 0, none⟩ = some (.slice ca nc cc) := by rw [cell_of_row w1 w.heap.size 0 _ _ (0, 0) hrow1]; rfl
  have KC : Hid (∀ w', Below w1.heap.size w1 w' → Calls Tryd.prog 158 #[.slice ca nc cc] w' (CloneC cf nc w')) := Lib.hid (fun w' hb => clone_cls ca nc cc cf w' ((HC.out.below HB1.out).below hb) hnc)
  have HS := Lib.hid hb0
  have HS1 := Lib.hid hb1
  have hlt : w.heap.size < w1.heap.size := (Array.getElem?_eq_some_iff.1 hrow1).1
  clear hA hB hb0 hb1 hrow0 hrow1 HC
  go_cut [11] (fun s wx => RawH w1.heap.size ab n nc cf s w1 wx)
  case first =>
    go_region_with (first | rw [MK.out] | (go_at_call 158; refine (KC.out _ (by first | exact below_drew (Below.refl _ _) | exact (below_drew (Below.refl _ _)).alloc (Nat.le_refl _) _)).mono ?_; rintro e w5 ⟨cp, cx, rfl, ho, hb5⟩))
    all_goals
      go_wp2
      go_meet
    · exact raw_1 (below_drew (Below.refl _ _)) ho hb5 (by simp)
    · exact raw_2 ho hb5
    · exact raw_2 ho hb5
  case rest =>
    obtain ⟨hb, bg, cp, cx, rfl, hrow, hbeg, hcls, hcp, b1, b2, hne, hbx⟩ := hcut
    have f3 := frozen_of_row wc hb 3 _ _ hrow
    have f4 := frozen_of_row wc hb 4 _ _ hrow
    have f5 := frozen_of_row wc hb 5 _ _ hrow
    have r3 : wc.cell? ⟨hb, 3, none⟩ = some (.int .i64 0) := by rw [cell_of_row wc hb 3 _ _ (0, 0) hrow]; rfl
    have r4 : wc.cell? ⟨hb, 4, none⟩ = some (.int .i64 0) := by rw [cell_of_row wc hb 4 _ _ (0, 0) hrow]; rfl
    have r5 : wc.cell? ⟨hb, 5, none⟩ = some (.int .i64 0) := by rw [cell_of_row wc hb 5 _ _ (0, 0) hrow]; rfl
    have hf0 : 0 ≤ ((n : Int) - y) / 2 := by omega
    have hf1 : (y : Int) + 2 * (((n : Int) - y) / 2) ≤ n := by omega
    generalize hhf : ((n : Int) - y) / 2 = hf at *
    have HF := Lib.hid hhf
    clear hhf
    have HROW := Lib.hid hrow
    have HBEG := Lib.hid hbeg
    have HCLS := Lib.hid hcls
    have HCP := Lib.hid hcp
    have HNE := Lib.hid hne
    have HBX := Lib.hid hbx
    have HL1 := Lib.hid b1
    have HL2 := Lib.hid b2
    clear hrow hbeg hcls hcp hne hbx KC MK b1 b2 hlt c0
    go_wp2
    have HL0 : Hid (LoopH hb wc (fillC ab bg n nc cp cx y hf) (.int .i64 0) (((wc.setCell ⟨hb, 3, none⟩ (.int .i64 0)).setCell ⟨hb, 4, none⟩ (.int .i64 y)).setCell ⟨hb, 5, none⟩ (.int .i64 0))) := Lib.hid (by
      refine .inl ⟨rfl, ?_, ((Tri.of_grown (grown_store _ hb 3 _) (.inl rfl)).trans (Tri.of_grown (grown_store _ hb 4 _) (.inl rfl))).trans (Tri.of_grown (grown_store _ hb 5 _) (.inl rfl))⟩
      rw [heap_setCell_same _ hb 5 _ 174 _ (heap_setCell_same _ hb 4 _ 174 _ (heap_setCell_same _ hb 3 _ 174 _ HROW.out))]
      rfl)
    clear f3 f4 f5 r3 r4 r5
    go_loopw [49] (fun si wr => LoopH hb wc (fillC ab bg n nc cp cx y hf) si wr) (fun si _ => 2 - (intOf si).toNat)
    case atStart => exact HL0.out
    case round =>
      clear HL0
      rcases hrel with ⟨rfl, hr, ht⟩ | ⟨rfl, hr, ht⟩ | ⟨rfl, hr, ht⟩
      · have r6 : wr.cell? ⟨hb, 6, none⟩ = some (.int .i64 0) := by rw [cell_of_row wr hb 6 _ _ (0, 0) hr]; rfl
        have r7 : wr.cell? ⟨hb, 7, none⟩ = some (.int .i64 0) := by rw [cell_of_row wr hb 7 _ _ (0, 0) hr]; rfl
        have r8 : wr.cell? ⟨hb, 8, none⟩ = some (.int .i64 0) := by rw [cell_of_row wr hb 8 _ _ (0, 0) hr]; rfl
        have f6 := frozen_of_row wr hb 6 _ _ hr
        have f7 := frozen_of_row wr hb 7 _ _ hr
        have f8 := frozen_of_row wr hb 8 _ _ hr
        have HR := Lib.hid hr
        have HT := Lib.hid ht
        clear hr ht
        go_wp2
        go_roundw
        case rel =>
          refine .inr (.inl ⟨rfl, ?_, ((HT.out.trans (Tri.of_grown (grown_store _ hb 6 _) (.inl rfl))).trans (Tri.of_grown (grown_store _ hb 7 _) (.inl rfl))).trans (Tri.of_grown (grown_store _ hb 8 _) (.inl rfl))⟩)
          rw [heap_setCell_same _ hb 8 _ 174 _ (heap_setCell_same _ hb 7 _ 174 _ (heap_setCell_same _ hb 6 _ 174 _ HR.out))]
          rfl
        case measure => simp [intOf]
      · have r6 : wr.cell? ⟨hb, 9, none⟩ = some (.int .i64 0) := by rw [cell_of_row wr hb 9 _ _ (0, 0) hr]; rfl
        have r7 : wr.cell? ⟨hb, 10, none⟩ = some (.int .i64 0) := by rw [cell_of_row wr hb 10 _ _ (0, 0) hr]; rfl
        have r8 : wr.cell? ⟨hb, 11, none⟩ = some (.int .i64 0) := by rw [cell_of_row wr hb 11 _ _ (0, 0) hr]; rfl
        have f6 := frozen_of_row wr hb 9 _ _ hr
        have f7 := frozen_of_row wr hb 10 _ _ hr
        have f8 := frozen_of_row wr hb 11 _ _ hr
        have HR := Lib.hid hr
        have HT := Lib.hid ht
        clear hr ht
        go_wp2
        go_roundw
        case rel =>
          refine .inr (.inr ⟨rfl, ?_, ((HT.out.trans (Tri.of_grown (grown_store _ hb 9 _) (.inl rfl))).trans (Tri.of_grown (grown_store _ hb 10 _) (.inl rfl))).trans (Tri.of_grown (grown_store _ hb 11 _) (.inl rfl))⟩)
          rw [heap_setCell_same _ hb 11 _ 174 _ (heap_setCell_same _ hb 10 _ 174 _ (heap_setCell_same _ hb 9 _ 174 _ HR.out))]
          rfl
        case measure => simp [intOf]
      · have HR := Lib.hid hr
        have HT := Lib.hid ht
        clear hr ht
        go_wp2
        go_ret2
        exact new_fin HF.out hf0 hf1 hy hn HB1.out (by have := HS.out; rw [World.size_alloc] at this; exact this) HS1.out HA.out HROW.out HBEG.out HCLS.out HCP.out HL1.out HL2.out HNE.out HBX.out HR.out HT.out

end Go.Proofs.YtflbjfcmnopfaaaDoor

/-
  HeapFills: the law's walk, in the old half; the law.
-/
import Derived.Test.YtbpamcgmhnnmnaaDoorFil1
namespace Go.Proofs.YtbpamcgmhnnmnaaDoor
open Go.RowKit

def SomePost (B hb ab gb bg : Nat) (cp : Option Addr) (cl cc : Nat) (cf : Nat → ByteArray) (n : Nat) (yt yp hp ht f1 t1 p1 : Int) (wd : Nat → Int) (bd : Nat → Bool) (mk : Value) (w : World) (e : Ending) (w' : World) : Prop :=
  ∃ (r : Int) (b : Bool), e = .returned (.tuple #[.int .i64 r, .bool b]) ∧ Hp B hb ab gb bg cp cl cc cf n yt yp hp ht f1 t1 p1 wd bd mk w' ∧ Tri hb gb bg w w'

def FilRelOld (N hb ab gb bg : Nat) (cp : Option Addr) (cx _f L y z Q : Nat) (hf : Int) (w : World) (s : ByteArray) (sv si : Value) (wr : World) : Prop :=
  ∃ i : Nat, i ≤ Q ∧ si = .int .i64 i ∧ wr.ownsRow N 3 1 sv i ((refL y z i).map (Value.int .i64)) ∧ (∃ wd bd, Hp w.heap.size hb ab gb bg cp 1 cx (fun _ => s) L y ((0 : Nat) : Int) ((y + i * z : Nat) : Int) ((y : Int) + hf) ((y : Int) + hf) ((y : Int) + hf + hf) ((y : Int) + hf) wd bd (.slice none 0 0) wr) ∧ Below w.heap.size w wr ∧ N ≤ wr.heap.size

set_option maxHeartbeats 4000000 in
set_option maxRecDepth 100000 in
theorem fills_Old (x1 x2 x3 : Int) (w : World) (f L y : Nat) (hf : Int) (e1 : bits BinOp.and IntKind.i64 x1 7 = (f : Int)) (e2 : bits BinOp.and IntKind.i64 x2 2047 = (L : Int)) (e3 : bits BinOp.and IntKind.i64 x3 1023 = (y : Int)) (f8 : f < 8) (l8 : L < 2048) (hyl : y ≤ L) (hhf : ((L : Int) - y) / 2 = hf) :
    Calls Tryd.prog 10 #[.int .i64 x1, .int .i64 x2, .int .i64 x3, .bool true] w (TruePost w) := by
  have t0 : decide (L < y) = false := by simp; omega
  have hf0 : 0 ≤ hf := by omega
  have hf1 : (y : Int) + hf + hf ≤ L := by omega
  obtain ⟨r, hr⟩ : ∃ r : Nat, (r : Int) = hf := ⟨hf.toNat, by omega⟩
  obtain ⟨Q, hQ⟩ : ∃ Q : Nat, r / (2 + f) = Q := ⟨_, rfl⟩
  have hQ1 : Q * (2 + f) ≤ r := by rw [← hQ]; exact Nat.div_mul_le_self _ _
  have hQ2 : r < Q * (2 + f) + (2 + f) := by rw [← hQ]; exact Nat.lt_div_mul_add (by omega)
  have hdiv : hf / (2 + (f : Int)) = (Q : Int) := by rw [← hr, ← hQ, Int.natCast_ediv]; rfl
  have hz0 : (2 + (f : Int) == 0) = false := by simp; omega
  have HR := Lib.hid hr
  have HHF := Lib.hid hhf
  obtain ⟨z, hz⟩ : ∃ z : Nat, 2 + f = z := ⟨_, rfl⟩
  rw [hz] at hQ1 hQ2
  have hQ4 : Q ≤ 10000 := by have := Nat.le_mul_of_pos_right Q (show 0 < z by omega); omega
  have HQ1 := Lib.hid hQ1
  have HQ2 := Lib.hid hQ2
  have HZ := Lib.hid hz
  rw [← hhf] at hdiv
  clear hr hQ hQ1 hQ2 hz hhf
  go_enter Tryd.func10, Tryd.ntmps10
  go_wp2_with fail
  refine (hfirst _).mono ?_
  rintro e w1 ⟨rfl, hB1⟩
  have B1 := Lib.hid hB1
  clear hB1
  go_wp2_with fail
  go_loop [10, 11] (fun ss si => ∃ k : Nat, k ≤ f ∧ si = .int .i64 k ∧ ss = .string (ars k)) (fun _ si => f - (intOf si).toNat)
  case atStart => exact ⟨0, Nat.zero_le _, rfl, rfl⟩
  case round =>
    obtain ⟨k, hk, rfl, rfl⟩ := hrel
    by_cases hlt : k < f
    · have tk : decide (k < f) = true := by simpa using hlt
      have hns : ¬ 9223372036854775807 < (ars k).size + 1 := by rw [ars_size]; omega
      go_wp2_with fail
      go_round
      case rel => exact ⟨k + 1, by omega, by go_num, by rw [← ars_next]⟩
      case measure => simp [intOf]; omega
    · obtain rfl : k = f := by omega
      have tk : decide (k < k) = false := by simp
      have hsz := ars_size k
      generalize ars k = s at *
      have B2 : Hid (Below w.heap.size w (progC s w1)) := Lib.hid (B1.out.trans ((progC_below s w1).mono B1.out.size))
      have CLS : Hid (∀ w', Below (progC s w1).heap.size (progC s w1) w' → Cls w' (some ⟨w1.heap.size, 0, none⟩) 1 1 (fun _ => s)) := Lib.hid (progC_cls s w1)
      have BOX : Hid (∀ w', Below (progC s w1).heap.size (progC s w1) w' → w'.cell? ⟨w1.heap.size + 1 + 1 + 1, 0, none⟩ = some (.slice (some ⟨w1.heap.size, 0, none⟩) 1 1) ∧ w'.cell? ⟨w1.heap.size + 1 + 1 + 1, 1, none⟩ = some (.slice (some ⟨w1.heap.size + 1 + 1, 0, none⟩) 1 1)) := Lib.hid (progC_box s w1)
      have KN := Lib.hid (new_heap (some ⟨w1.heap.size, 0, none⟩) 1 1 (some ⟨w1.heap.size + 1 + 1, 0, none⟩) 1 1 (fun _ => s) L y (progC s w1) (progC_cls s w1 _ (Below.refl _ _)) (by omega) (by omega) hyl)
      unfold progV at KN
      have HSZ := Lib.hid hsz
      clear B1 hlt hk hsz
      obtain ⟨W, hW⟩ : ∃ W, progC s w1 = W := ⟨_, rfl⟩
      rw [hW] at KN B2 CLS BOX
      unfold progC at hW
      have HW := Lib.hid hW
      clear hW
      go_wp2_with fail
      rw [HW.out]
      refine KN.out.mono ?_
      rintro e w2 ⟨hb, ab, gb, bg, cp, cx, rfl, h2, hb2⟩
      rw [HHF.out] at h2
      have H2 := Lib.hid (h2.base B2.out.size)
      have BW2 := Lib.hid hb2
      have B3 : Hid (Below w.heap.size w w2) := Lib.hid (B2.out.trans (hb2.mono B2.out.size))
      obtain ⟨c0, c1⟩ := BOX.out w2 hb2
      have KW := Lib.hid (refWords0 (some ⟨w1.heap.size, 0, none⟩) (some ⟨w1.heap.size + 1 + 1, 0, none⟩) s w2 (CLS.out w2 hb2) (by rw [HSZ.out]; omega))
      rw [HSZ.out] at KW
      clear h2 hb2 HW KN B2 CLS BOX BW2
      go_wp2_with fail
      refine KW.out.mono ?_
      rintro e w3 ⟨rfl, hb3⟩
      have H3 := Lib.hid (H2.out.below hb3)
      have B4 : Hid (Below w.heap.size w w3) := Lib.hid (B3.out.trans (hb3.mono B3.out.size))
      have LO : Hid ((w.heap.size ≤ hb ∧ w.heap.size ≤ gb ∧ w.heap.size ≤ bg) ∧ hb < w3.heap.size ∧ gb < w3.heap.size ∧ bg < w3.heap.size) := Lib.hid (by have := H3.out.lo; have := H3.out.glo; have := H3.out.lt; omega)
      have HAB : Hid (ab < w3.heap.size) := Lib.hid H3.out.lt.2.1
      have HCP : Hid (∀ ad, cp = some ad → ad.block < w3.heap.size) := Lib.hid (fun ad had => by have := World.block_lt_of_cell? w3 _ (H3.out.cls.cells ad had 0 (by omega)); rw [show (ad.add 0).block = ad.block by unfold Addr.add; split <;> rfl] at this; exact this)
      have HW3 : Hid (w.heap.size ≤ w3.heap.size) := Lib.hid B4.out.size
      have F0 : Hid (FilRelOld w3.heap.size hb ab gb bg cp cx k L y z Q hf w s (.slice none 0 0) (.int .i64 0) w3) := Lib.hid ⟨0, Nat.zero_le _, rfl, World.ownsRow_nil _ _ _ _, ⟨_, _, by have := H3.out; rw [show ((y + 0 * z : Nat) : Int) = (y : Int) by rw [Nat.zero_mul, Nat.add_zero]]; exact this⟩, B4.out, Nat.le_refl _⟩
      obtain ⟨i0, hi0, hz0', hz1, hz2⟩ := info_parts intinfoR
      have HI := Lib.hid hi0
      have HZ0 := Lib.hid hz0'
      have HZ1 := Lib.hid hz1
      have HZ2 := Lib.hid hz2
      clear hb3 KW H2 H3 B3 B4 c0 c1 hi0 hz0' hz1 hz2
      go_wp2_with fail
      go_loopw [17, 18] (fun sv si wr => FilRelOld w3.heap.size hb ab gb bg cp cx k L y z Q hf w s sv si wr) (fun _ si _ => Q - (intOf si).toNat)
      case atStart => exact F0.out
      case round =>
        clear F0
        obtain ⟨i, hi, rfl, hown, ⟨wd, bd, hH⟩, hB, hN⟩ := hrel
        by_cases hlt : i < Q
        · have ti : decide (i < Q) = true := by simpa using hlt
          have hmul : i * z + z ≤ Q * z := by have := Nat.mul_le_mul_right z (show i + 1 ≤ Q by omega); rw [Nat.succ_mul] at this; exact this
          have hzz := HZ.out
          have hq1 := HQ1.out
          have hrr := HR.out
          have KY := Lib.hid (old_yes 0 0 k (y + i * z) wr hH (.inl ⟨0, rfl, by omega, HSZ.out.symm⟩) (by omega) (by omega) (by omega))
          have HOW := Lib.hid hown
          have HBB := Lib.hid hB
          have HNN := Lib.hid hN
          have HFIT : Hid ((y + i * z) + 2 + k ≤ L ∧ i ≤ 10000 ∧ ((y + i * z) : Nat) ≤ 100000) := Lib.hid (by have : i ≤ i * z := Nat.le_mul_of_pos_right i (by omega); omega)
          clear hown hH hB hN hmul hzz hq1 hrr
          go_wp2_with fail
          refine KY.out.mono ?_
          rintro e w5 ⟨rfl, h5, t5⟩
          have KI := Lib.hid (inYoung_yes (y + i * z) 0 k w5 h5 (obj_laid HFIT.out.1 (by decide) HSZ.out.symm))
          rw [show takenB (((y + i * z) : Nat) : Int) 0 ((0 : Nat) : Int) = false by exact untaken_of (by omega)] at KI
          have H5 := Lib.hid h5
          have T5 := Lib.hid t5
          have O5 : Hid (w5.ownsRow w3.heap.size 3 1 _ i ((refL y z i).map (Value.int .i64))) := Lib.hid (ownsRow_stays HOW.out (fun kk hk1 hk2 => t5.block kk hk2 (by have := LO.out; omega) (by have := LO.out; omega) (by have := LO.out; omega)))
          have hz5 := t5.size
          have HLEN : Hid (((refL y z i).map (Value.int .i64)).length = i) := Lib.hid (by rw [List.length_map, refL_len])
          have HM1 := Lib.hid (show i + 1 ≤ maxLen by have := HFIT.out; unfold maxLen; omega)
          have HM2 := Lib.hid (show (i + 1) * 8 ≤ 140737488355328 by have := HFIT.out; omega)
          have HM3 : Hid (w3.heap.size ≤ (w5.alloc (.cells #[.int .i64 ((((y + i * z) : Nat) : Int) + 1)] 3)).heap.size) := Lib.hid (by have := HNN.out; rw [World.size_alloc]; omega)
          have hi4 : i ≤ 10000 := HFIT.out.2.1
          clear h5 t5 KY hz5
          go_wp2_with (first | (go_at_call 72; refine KI.out.mono ?_; rintro e w' ⟨rfl, rfl⟩) | (at_builtin; refine wpList_append_own _ rfl (.tmp 101) (.tmp 103) 26 rfl w3.heap.size 3 i0 (.int .i64 0) 1 8 Tryd.underlying26 HI.out HZ0.out HZ1.out HZ2.out rfl (by decide) _ i ((refL y z i).map (Value.int .i64)) rfl (O5.out.alloc _) ⟨w5.heap.size, 0, none⟩ 1 1 [.int .i64 ((((y + i * z) : Nat) : Int) + 1)] rfl rfl (cell_one_new _ _ _) (by simp [Value.oneCell']) HM1.out HM2.out HM3.out ?_; intro v6 w6 hown6 hgrow6 hnil6))
          go_roundw
          case rel =>
            have hw3 := LO.out
            refine ⟨i + 1, by omega, by go_num, by rw [refL_next, List.map_append]; exact hown6, ⟨laidW wd 0 (y + i * z) k, laidB bd (y + i * z), ?_⟩, ?_, ?_⟩
            · have h9 := (H5.out.below ((Below.refl _ _).alloc (Nat.le_refl _) _)).kept4 (w' := w6) (fun kk hk1 hk2 => hgrow6.block kk hk2 (fun e => by have := (O5.out.lt kk e.symm).1; omega)) (by omega) (by omega) (by omega) ⟨by have := HAB.out; omega, fun ad had => Nat.lt_of_lt_of_le (HCP.out ad had) (Nat.le_refl _)⟩
              rw [show (((y + i * z : Nat) : Int) + (k + 2)) = ((y + (i + 1) * z : Nat) : Int) by rw [Nat.succ_mul]; have := HZ.out; omega] at h9
              exact h9
            · exact ((T5.out.below HBB.out hw3.1.1 hw3.1.2.1 hw3.1.2.2 HBB.out.size).alloc (by have := HBB.out.size; have := T5.out.size; omega) _).grown hgrow6 (by have := HBB.out.size; have := T5.out.size; rw [World.size_alloc]; omega) (fun kk hk => by have := (O5.out.lt kk hk).1; have := HW3.out; omega)
            · have := hgrow6.size; rw [World.size_alloc] at this; have := T5.out.size; have := HNN.out; omega
          case measure => simp [intOf]; omega
        · obtain rfl : i = Q := by omega
          have ti : decide (i < i) = false := by simp
          have hzz := HZ.out
          have hq2 := HQ2.out
          have hrr := HR.out
          have hq1 := HQ1.out
          have KY : Hid (∃ yq wd' bd', Calls Tryd.prog 71 #[.pointer (some ⟨hb, 0, none⟩), .int .i64 0, .int .i64 0] wr (SomePost w.heap.size hb ab gb bg cp 1 cx (fun _ => s) L y yq ((y + i * z : Nat) : Int) ((y : Int) + hf) ((y : Int) + hf) ((y : Int) + hf + hf) ((y : Int) + hf) wd' bd' (.slice none 0 0) wr)) := Lib.hid (by
            by_cases hyk : k + 2 ≤ y
            · exact ⟨_, _, _, (young_yes 0 0 k 0 wr hH (.inl ⟨0, rfl, by omega, HSZ.out.symm⟩) (by omega) (by omega) (by omega)).mono fun _ _ ⟨h1, h2, h3⟩ => ⟨_, _, h1, h2, h3⟩⟩
            · exact ⟨_, _, _, (young_no 0 0 k wr hH (.inl ⟨0, rfl, by omega, HSZ.out.symm⟩) (by omega) (by omega)).mono fun _ _ ⟨h1, h2, h3⟩ => ⟨_, _, h1, h2, h3⟩⟩)
          obtain ⟨yq, wd', bd', ky⟩ := KY.out
          have KZ := Lib.hid ky
          have HBIG : Hid ((y : Int) + hf < ((y + i * z : Nat) : Int) + (k + 2)) := Lib.hid (by omega)
          have HOW := Lib.hid hown
          have HBB := Lib.hid hB
          have HNN := Lib.hid hN
          clear hown hH hB hN hzz hq1 hq2 hrr ky KY
          go_wp2_with fail
          refine KZ.out.mono ?_
          rintro e w4 ⟨ra, rb, rfl, h4, t4⟩
          have KY := Lib.hid (old_no 0 0 k w4 h4 (.inl ⟨0, rfl, by omega, HSZ.out.symm⟩) (by omega) HBIG.out)
          have T4 := Lib.hid t4
          clear h4 t4 KZ
          go_wp2_with fail
          refine KY.out.mono ?_
          rintro e w5 ⟨rfl, h5, t5⟩
          have H5 := Lib.hid h5
          have T5 := Lib.hid (T4.out.trans t5)
          clear h5 t5 KY T4
          have hO5 := ownsRow_stays HOW.out (fun kk hk1 hk2 => T5.out.block kk hk2 (by have := LO.out; omega) (by have := LO.out; omega) (by have := LO.out; omega))
          obtain ⟨va, vc, rfl, hrow⟩ := row_of_owns hO5 (refL_wf y z i (by have := HQ1.out; have := HR.out; omega))
          have hvm := hrow.max
          have hvl := hrow.le
          unfold maxLen at hvm
          have KS := Lib.hid (sorted_any va i vc (refL y z i) w5 hrow (by omega))
          have B5 : Hid (Below w.heap.size w w5) := Lib.hid (T5.out.below HBB.out LO.out.1.1 LO.out.1.2.1 LO.out.1.2.2 HBB.out.size)
          have HSL : Hid (sortU (refL y z i) = refL y z i) := Lib.hid (sortU_rising _ (refL_rising y z i (by have := HZ.out; omega)))
          clear hO5 hrow HOW HBB HNN H5 T5
          go_wp2_with fail
          refine KS.out.mono ?_
          rintro e w6 ⟨v, rfl, ho6, hb6⟩
          rw [HSL.out, refL_len] at ho6
          obtain ⟨oa, oc, rfl⟩ := own_shape ho6
          have B6 : Hid (Below w.heap.size w w6) := Lib.hid (B5.out.trans (hb6.mono B5.out.size))
          clear ho6 hb6 KS B5
          go_wp2_with fail
          go_ret
          exact ⟨rfl, B6.out⟩

theorem fills_main (x1 x2 x3 : Int) (old : Bool) (w : World) (_h1 : (Lit.int .i64 x1).wf = true) (_h2 : (Lit.int .i64 x2).wf = true) (_h3 : (Lit.int .i64 x3).wf = true) :
    Calls Tryd.prog 10 #[.int .i64 x1, .int .i64 x2, .int .i64 x3, .bool old] w (TruePost w) := by
  have e1 := lowb3_i64 x1
  have e2 := lowb11_i64 x2
  have e3 := lowb10_i64 x3
  obtain ⟨f, hf⟩ : ∃ f : Nat, x1 % 8 = (f : Int) := ⟨(x1 % 8).toNat, by omega⟩
  obtain ⟨L, hL⟩ : ∃ L : Nat, x2 % 2048 = (L : Int) := ⟨(x2 % 2048).toNat, by omega⟩
  obtain ⟨y, hy⟩ : ∃ y : Nat, x3 % 1024 = (y : Int) := ⟨(x3 % 1024).toNat, by omega⟩
  rw [hf] at e1
  rw [hL] at e2
  rw [hy] at e3
  by_cases hyl : y ≤ L
  · cases old with
    | false => exact fills_Young x1 x2 x3 w f L y _ e1 e2 e3 (by omega) (by omega) hyl rfl
    | true => exact fills_Old x1 x2 x3 w f L y _ e1 e2 e3 (by omega) (by omega) hyl rfl
  · have t0 : decide (L < y) = true := by simp; omega
    clear hf hL hy _h1 _h2 _h3
    go_enter Tryd.func10, Tryd.ntmps10
    go_wp2_with fail
    refine (hfirst _).mono ?_
    rintro e w1 ⟨rfl, hB1⟩
    have B1 := Lib.hid hB1
    clear hB1
    go_wp2_with fail
    go_ret
    exact ⟨rfl, B1.out⟩

end Go.Proofs.YtbpamcgmhnnmnaaDoor

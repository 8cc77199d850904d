/-
  The law on a method's blocks.
-/
import Derived.Test.YtchechdcebmoeaaDoorRfW
import Derived.Test.YtchechdcebmoeaaDoorFwF
import Derived.Test.YtchechdcebmoeaaDoorTabB
import Derived.Test.YtchechdcebmoeaaDoorSameI
import Derived.Deep.RegionHeld3
import Derived.Deep.QuietTactic
import Derived.BigQuiet
namespace Go.Proofs.YtchechdcebmoeaaDoor
open Go.RowKit

def Blk1 (nm : Nat) (W0 : World) (s4 : Value) (wr : World) : Prop := ∃ m : Nat, m ≤ nm ∧ s4 = .int .i64 m ∧ BelB W0 wr
def Blk2 (L : Nat) (W : World) (s7 : Value) (wr : World) : Prop := ∃ i : Nat, i ≤ L ∧ s7 = .int .i64 i ∧ Below W.heap.size W wr
theorem prdF_in (S : Nat → List Int) (L : Nat) {i : Nat} : ∀ x ∈ prdF S L 0 i, 0 ≤ x ∧ x < (L : Int) := by
  intro x hx
  unfold prdF at hx
  simp at hx
  obtain ⟨a, h1, h2⟩ := hx
  obtain ⟨_, rfl⟩ := h2
  omega

set_option maxHeartbeats 16000000 in
set_option maxRecDepth 100000 in
theorem blocks_walk (ca : Option Addr) (nc cc : Nat) (f : Nat → ByteArray) (ma : Option Addr) (nm mc : Nat) (ms : Nat → Meth) (w : World) (hT : TabOk w)
    (h1 : Prg w ca nc cc f ma nm mc ms) (w1 : Wid nc f nm ms) :
    Calls Tryd.prog 6 #[.agg #[.slice ca nc cc, .slice ma nm mc]] w (TruePost w) := by
  have hb := progW1_below (ca := ca) (nc := nc) (cc := cc) (ma := ma) (nm := nm) (mc := mc) (w := w)
  have CM : Hid (∀ w', BelB (progW1 ca nc cc ma nm mc w) w' → w'.cell? ⟨w.heap.size, 0, none⟩ = some (.slice ca nc cc) ∧ w'.cell? ⟨w.heap.size, 1, none⟩ = some (.slice ma nm mc)) := Lib.hid fun w' h => progW1_cells h
  have BW : Hid (∀ w', BelB (progW1 ca nc cc ma nm mc w) w' → Below w.heap.size w w') := Lib.hid fun w' h => hb.trans (Below.mono h hb.size)
  have KL : Hid (∀ w', BelB (progW1 ca nc cc ma nm mc w) w' → Calls Tryd.prog 43 #[.agg #[.slice ca nc cc, .slice ma nm mc]] w' (BoolQ (progW1 ca nc cc ma nm mc w) (pB (lightP nc f nm ms)))) := Lib.hid fun w' h =>
    (light_any ca nc cc f ma nm mc ms w' (h1.below (hb.trans (Below.mono h hb.size))) w1).mono (by rintro e w2 ⟨rfl, h2⟩; exact ⟨rfl, Below.trans h (Below.mono h2 h.size)⟩)
  have PF : Hid (∀ w', BelB (progW1 ca nc cc ma nm mc w) w' → Calls Tryd.prog 42 #[] w' (BoolQ (progW1 ca nc cc ma nm mc w) true)) := Lib.hid fun w' h =>
    (ffirst w' (hT.below (hb.trans (Below.mono h hb.size)) (Nat.le_refl _))).mono (by rintro e w2 ⟨rfl, h2⟩; exact ⟨rfl, Below.trans h (Below.mono h2 h.size)⟩)
  have HB0 : Hid (BelB (progW1 ca nc cc ma nm mc w) (progW1 ca nc cc ma nm mc w)) := Lib.hid (Below.refl _ _)
  have P1 : Hid (∀ w', BelB (progW1 ca nc cc ma nm mc w) w' → Prg w' ca nc cc f ma nm mc ms) := Lib.hid fun w' h => h1.below (hb.trans (Below.mono h hb.size))
  have TT : Hid (∀ w', BelB (progW1 ca nc cc ma nm mc w) w' → TabOk w') := Lib.hid fun w' h => hT.below (hb.trans (Below.mono h hb.size)) (Nat.le_refl _)
  obtain ⟨W0, hW0⟩ : ∃ W0, progW1 ca nc cc ma nm mc w = W0 := ⟨_, rfl⟩
  rw [hW0] at CM BW KL PF HB0 P1 TT
  unfold progW1 at hW0
  clear h1 w1 hb hT
  obtain ⟨b1, hb1⟩ : ∃ b, pB (lightP nc f nm ms) = b := ⟨_, rfl⟩
  rw [hb1] at KL
  have L1 : Hid (b1 = true → lightP nc f nm ms) := Lib.hid fun h => Classical.byContradiction fun hn => by rw [← hb1, pB_no hn] at h; cases h
  clear hb1
  go_enter Tryd.func6, Tryd.ntmps6
  go_wp2_with fail
  try rw [hW0]
  clear hW0
  refine (PF.out _ HB0.out).mono ?_
  rintro e wa ⟨rfl, hba⟩
  have HBA := Lib.hid hba
  obtain ⟨p0, p1⟩ := CM.out wa hba
  clear hba PF HB0
  cases b1 with
  | false =>
    go_wp2_with fail
    refine (KL.out _ HBA.out).mono ?_
    rintro e wb ⟨rfl, hbb⟩
    have HBB := Lib.hid (BW.out _ hbb)
    clear hbb p0 p1
    go_wp2_with fail
    go_ret
    exact ⟨rfl, HBB.out⟩
  | true =>
    have hl1 : lightP nc f nm ms := by first | exact L1.out rfl | exact L1.out trivial | exact L1.out
    have HL := Lib.hid hl1
    have n1 := hl1.1
    have n2 := hl1.2.1
    clear L1 hl1
    have KM : Hid (∀ w', BelB W0 w' → Calls Tryd.prog 44 #[.agg #[.slice ca nc cc, .slice ma nm mc]] w' (MayT nm ms W0)) := Lib.hid fun w' h => mayT_of ca nc cc f ma nm mc ms W0 w' h (P1.out w' h) (light_sml HL.out) n1 n2
    go_wp2_with fail
    refine (KL.out _ HBA.out).mono ?_
    rintro e wb ⟨rfl, hbb⟩
    have HBB := Lib.hid hbb
    clear p0 p1
    obtain ⟨p0, p1⟩ := CM.out wb hbb
    clear hbb HBA KL
    go_wp2_with fail
    refine (KM.out _ HBB.out).mono ?_
    rintro e we ⟨C, ad, nn, cx, rfl, hbe, hfine⟩
    have HBE := Lib.hid hbe
    have EF := Lib.hid (show (Instr.field 67 (.agg #[.int .i64 C, .slice ad nn cx]) 0).run Tryd.prog we = .ok (.int .i64 C) we from by kernel_rfl)
    clear p0 p1 KM HBB
    by_cases hC : C = 0
    · have HFN := Lib.hid (hfine hC)
      have R1 : Hid (Blk1 nm W0 (.int .i64 0) we) := Lib.hid ⟨0, Nat.zero_le _, rfl, hbe⟩
      have tc : (C != 0) = false := by simp [hC]
      clear hfine hbe hC
      go_wp2_with (rw [EF.out])
      clear EF tc
      go_wp2_with fail
      go_loopw [4] (fun s4 wr => Blk1 nm W0 s4 wr) (fun s4 _ => nm - (intOf s4).toNat)
      case atStart => exact R1.out
      case round =>
        clear R1
        obtain ⟨m, hm, rfl, hB⟩ := hrel
        obtain ⟨p0, p1⟩ := CM.out wr hB
        by_cases hlt : m < nm
        · have t1 : decide ((m : Int) < nm) = true := by simp; omega
          have t1' : decide (m < nm) = true := by simpa using hlt
          have hprg := P1.out wr hB
          obtain ⟨mb, mo, rfl, hmb, hmc⟩ := Prg_at hprg (by omega)
          obtain ⟨x0, x1, x2, x3⟩ := hmc m hlt
          have hpk := hprg.code m hlt
          have hft := HFN.out m hlt
          have hle1 := hpk.le
          have hmax1 := hpk.max
          unfold maxLen at hmax1
          have hl140 : (ms m).len ≤ 140 := by have := hft.1; omega
          have K := Lib.hid (of_any (ms m).ps (ms m).ls (ms m).rt (ms m).co (ms m).len (ms m).cp (ms m).gv wr hpk hl140 (fun i hi h => by
            have := hft.2 i hi h
            exact wf64 (by omega) (by omega)) (TT.out wr hB))
          unfold OfPost at K
          have KRf : Hid (∀ w', Below wr.heap.size wr w' → Calls Tryd.prog 46 #[.agg #[.string (ms m).ps, .string (ms m).ls, .string (ms m).rt, .slice (ms m).co (ms m).len (ms m).cp]] w' (RofPost (ms m).len (ms m).gv w')) := Lib.hid fun w' hb' => rof_any (ms m).ps (ms m).ls (ms m).rt (ms m).co (ms m).len (ms m).cp (ms m).gv w' (hpk.trans hb') hl140 hft.2
          unfold RofPost at KRf
          have HF0 : Hid (0 < (ms m).len → hdF (ms m).len (ms m).gv (ms m).len 0 = true) := Lib.hid fun h0 => hd_zero _ _ h0 _
          have hl120 := hft.1
          have HPK := Lib.hid hpk
          have HB := Lib.hid hB
          clear hprg hmc hpk hft hB hmb
          generalize (ms m).ps = ps at *
          generalize (ms m).ls = ls at *
          generalize (ms m).rt = rt at *
          generalize (ms m).co = co at *
          generalize (ms m).cp = cp at *
          generalize (ms m).gv = gv at *
          generalize (ms m).len = n at *
          generalize hdF n gv n = fh at *
          go_wp2_with fail
          refine K.out.mono ?_
          rintro e w5 ⟨bb, vs, B2, rfl, hcb, hfam, _, hbb, hb5⟩
          have HCB := Lib.hid hcb
          have HFAM := Lib.hid hfam
          have HB5 := Lib.hid hb5
          have hW05 : BelB W0 w5 := Below.trans HB.out (Below.mono hb5 HB.out.size)
          obtain ⟨pp0, pp1⟩ := CM.out w5 hW05
          have y0 := (hb5.cell (World.block_lt_of_cell? wr _ x0)).trans x0
          have y1 := (hb5.cell (World.block_lt_of_cell? wr _ x1)).trans x1
          have y2 := (hb5.cell (World.block_lt_of_cell? wr _ x2)).trans x2
          have y3 := (hb5.cell (World.block_lt_of_cell? wr _ x3)).trans x3
          have K2 := Lib.hid (KRf.out w5 hb5)
          clear hcb hfam hbb hb5 K KRf x0 x1 x2 x3 p0 p1 hW05
          go_wp2_with fail
          refine K2.out.mono ?_
          rintro e w6 ⟨oa, oc, vr, B3, rfl, hcr, hfr, _, hb6⟩
          have HCR := Lib.hid hcr
          have HFR := Lib.hid hfr
          have HB6 := Lib.hid hb6
          clear hcr hfr hb6 K2 y0 y1 y2 y3 pp0 pp1
          have hSIN := suc_in n gv fh HF0.out
          have hPLN := prdF_len (sucF n gv fh) (fun i => sucF_len n gv fh i)
          obtain ⟨L, hLL⟩ : ∃ L, nB fh n = L := ⟨_, rfl⟩
          have hLn : L ≤ n := by rw [← hLL]; exact nB_le fh n
          rw [hLL] at HCB HCR HFAM HFR hSIN ⊢
          have HSIN := Lib.hid hSIN
          have HPLN := Lib.hid hPLN
          have t2 : ((L : Int) != L) = false := by simp
          have R2 : Hid (Blk2 L w6 (.int .i64 0) w6) := Lib.hid ⟨0, Nat.zero_le _, rfl, Below.refl _ _⟩
          obtain ⟨fr, hfr2⟩ : ∃ fr, frB fh n = fr := ⟨_, rfl⟩
          have HLE : Hid (∀ i, fr i ≤ n) := Lib.hid fun i => by rw [← hfr2]; exact frB_le fh n i
          obtain ⟨S, hS2⟩ : ∃ S, sucF n gv fh = S := ⟨_, rfl⟩
          rw [hfr2] at HCB HCR
          rw [hS2] at HFAM HFR HSIN HPLN
          have HSL : Hid (∀ i, (S i).length ≤ 2) := Lib.hid fun i => by rw [← hS2]; exact sucF_len n gv fh i
          clear hLL hfr2 hS2 hSIN hPLN
          go_wp2_with fail
          obtain ⟨W3, rfl⟩ : ∃ W3 : World, W3 = wr := ⟨_, rfl⟩
          go_loopw [7] (fun s7 wr => Blk2 L w6 s7 wr) (fun s7 _ => L - (intOf s7).toNat)
          case atStart => exact R2.out
          case round =>
            clear R2
            obtain ⟨i, hi, rfl, hW⟩ := hrel
            by_cases hil : i < L
            · have t3 : decide ((i : Int) < L) = true := by simp; omega
              have t3' : decide (i < L) = true := by simpa using hil
              obtain ⟨ob, X, rfl, hLc, hcr⟩ := HCR.out (by omega)
              have h56 : Below w5.heap.size w5 wr := HB6.out.trans (hW.mono HB6.out.size)
              have hbl1 := (Array.getElem?_eq_some_iff.1 HCB.out).1
              have hbl2 := (Array.getElem?_eq_some_iff.1 hcr).1
              have ca : ∀ j, j < L * 4 → wr.cell? ⟨bb, j, none⟩ = some (blkC fr vs L j) := fun j hj => (h56.cell (p := ⟨bb, j, none⟩) hbl1).trans (by
                rw [cell_of_row w5 bb j _ 78 (0, 0) HCB.out]
                simp [hj])
              have cb : ∀ j, j < L * 4 → wr.cell? ⟨ob, j, none⟩ = some (blkC fr vr L j) := fun j hj => (hW.cell (p := ⟨ob, j, none⟩) hbl2).trans (by
                rw [cell_of_row w6 ob j _ 79 (0, 0) hcr]
                have : j < oc * 4 := by omega
                simp [this]
                exact rfC_in _ _ _ hj)
              have a0 := (ca (i * 4) (by omega)).trans (by rw [blkC0 _ _ hil])
              have a1 := (ca (i * 4 + 1) (by omega)).trans (by rw [blkC1 _ _ hil])
              have a2 := (ca (i * 4 + 2) (by omega)).trans (by rw [blkC2])
              have a3 := (ca (i * 4 + 3) (by omega)).trans (by rw [blkC3])
              have b0 := (cb (i * 4) (by omega)).trans (by rw [blkC0 _ _ hil])
              have b1 := (cb (i * 4 + 1) (by omega)).trans (by rw [blkC1 _ _ hil])
              have b2 := (cb (i * 4 + 2) (by omega)).trans (by rw [blkC2])
              have b3 := (cb (i * 4 + 3) (by omega)).trans (by rw [blkC3])
              have rowS : ∀ (B : Nat) (vq : Nat → Value) (wq : World), Fam B (2 * L) vq (famF S [] L 0) wq → ∃ a c, vq (2 * i) = .slice a (S i).length c ∧ Row .i64 wq a (S i).length c (S i) := fun B vq wq hf => by
                have e : famF S [] L 0 (2 * i) = S i := by rw [← famP_end S (by omega), famP_s]
                obtain ⟨a, c, h1, h2⟩ := hf.row (j := 2 * i) (by omega) (fun x hx => by
                  rw [e] at hx
                  have := HSIN.out i x hx
                  exact wf64 (by omega) (by omega))
                rw [e] at h1 h2
                exact ⟨a, c, h1, h2⟩
              have rowP : ∀ (B : Nat) (vq : Nat → Value) (wq : World), Fam B (2 * L) vq (famF S [] L 0) wq → ∃ a c, vq (2 * i + 1) = .slice a (prdF S L 0 i).length c ∧ Row .i64 wq a (prdF S L 0 i).length c (prdF S L 0 i) := fun B vq wq hf => by
                have e : famF S [] L 0 (2 * i + 1) = prdF S L 0 i := famF_p S [] L 0 i
                obtain ⟨a, c, h1, h2⟩ := hf.row (j := 2 * i + 1) (by omega) (fun x hx => by
                  rw [e] at hx
                  have := prdF_in S L x hx
                  exact wf64 (by omega) (by omega))
                rw [e] at h1 h2
                exact ⟨a, c, h1, h2⟩
              obtain ⟨sa, sc, v1, r1⟩ := rowS _ _ _ HFAM.out
              obtain ⟨ta, tc2, v2, r2⟩ := rowS _ _ _ HFR.out
              obtain ⟨pa, pc2, v3, r3⟩ := rowP _ _ _ HFAM.out
              obtain ⟨qa, qc, v4, r4⟩ := rowP _ _ _ HFR.out
              rw [v1] at a2
              rw [v2] at b2
              rw [v3] at a3
              rw [v4] at b3
              have hsl := HSL.out i
              have hpl := HPLN.out L 0 i
              have KS : Hid (∀ w', Below wr.heap.size wr w' → Calls Tryd.prog 28 #[.slice sa (S i).length sc, .slice ta (S i).length tc2] w' (fun e w'' => e = .returned (.bool true) ∧ Below wr.heap.size wr w'')) := Lib.hid fun w' hb' => by
                refine (same_ints sa ta _ sc _ tc2 _ _ w' (Row_cells r1 (h56.trans (hb'.mono h56.size))) (Row_cells r2 (hW.trans (hb'.mono hW.size))) (by omega)).mono ?_
                rintro e w'' ⟨rfl, n, rfl⟩
                exact ⟨by simp, below_drewN hb' n⟩
              have KP : Hid (∀ w', Below wr.heap.size wr w' → Calls Tryd.prog 28 #[.slice pa (prdF S L 0 i).length pc2, .slice qa (prdF S L 0 i).length qc] w' (fun e w'' => e = .returned (.bool true) ∧ Below wr.heap.size wr w'')) := Lib.hid fun w' hb' => by
                refine (same_ints pa qa _ pc2 _ qc _ _ w' (Row_cells r3 (h56.trans (hb'.mono h56.size))) (Row_cells r4 (hW.trans (hb'.mono hW.size))) (by omega)).mono ?_
                rintro e w'' ⟨rfl, n, rfl⟩
                exact ⟨by simp, below_drewN hb' n⟩
              have HM1 : Hid (Below wr.heap.size wr wr.drew) := Lib.hid (below_drew (Below.refl _ _))
              obtain ⟨q1, hq1⟩ : ∃ q, (S i).length = q := ⟨_, rfl⟩
              obtain ⟨q2, hq2⟩ : ∃ q, (prdF S L 0 i).length = q := ⟨_, rfl⟩
              rw [hq1] at KS a2 b2
              rw [hq2] at KP a3 b3
              have KEEP : Hid (∀ w', Below wr.heap.size wr w' → (w'.cell? ⟨bb, i * 4, none⟩ = some (.int .i64 (fr i : Int)) ∧ w'.cell? ⟨bb, i * 4 + 1, none⟩ = some (.int .i64 (fr (i + 1) : Int)) ∧ w'.cell? ⟨ob, i * 4, none⟩ = some (.int .i64 (fr i : Int)) ∧ w'.cell? ⟨ob, i * 4 + 1, none⟩ = some (.int .i64 (fr (i + 1) : Int))) ∧ (w'.cell? ⟨bb, i * 4 + 2, none⟩ = some (.slice sa q1 sc) ∧ w'.cell? ⟨ob, i * 4 + 2, none⟩ = some (.slice ta q1 tc2)) ∧ (w'.cell? ⟨bb, i * 4 + 3, none⟩ = some (.slice pa q2 pc2) ∧ w'.cell? ⟨ob, i * 4 + 3, none⟩ = some (.slice qa q2 qc))) := Lib.hid fun w' hb' =>
                have k := fun {p : Addr} {v : Value} (h : wr.cell? p = some v) => (hb'.cell (World.block_lt_of_cell? wr _ h)).trans h
                ⟨⟨k a0, k a1, k b0, k b1⟩, ⟨k a2, k b2⟩, ⟨k a3, k b3⟩⟩
              have HW := Lib.hid hW
              clear hW ca cb a0 a1 b0 b1 a3 b3 v1 v2 v3 v4 r1 r2 r3 r4 rowS rowP hcr hbl1 hbl2 h56 hsl hpl hq1 hq2
              go_wp2_with fail
              go_region_held3 (fun w' => w'.cell? ⟨bb, i * 4 + 2, none⟩ = some (.slice sa q1 sc) ∧ w'.cell? ⟨ob, i * 4 + 2, none⟩ = some (.slice ta q1 tc2)) (first | exact (KEEP.out _ HM1.out).2.1 | (exact (KEEP.out _ (by assumption)).2.1) | fail)
                ((first
                  | (go_at_call 28; (with_reducible refine (KS.out _ (by first | exact HM1.out | assumption)).mono ?_); rintro e wx ⟨rfl, hx⟩)
                  | fail))
              all_goals
                have HX := Lib.hid hx
                have HM2 : Hid (Below wr.heap.size wr wx.drew) := Lib.hid (below_drew hx)
                obtain ⟨_, _, a3, b3⟩ := KEEP.out wx hx
                clear hx a2 b2 HM1
                go_wp2_with fail
                go_region_held3 (fun w' => w'.cell? ⟨bb, i * 4 + 3, none⟩ = some (.slice pa q2 pc2) ∧ w'.cell? ⟨ob, i * 4 + 3, none⟩ = some (.slice qa q2 qc)) (first | exact (KEEP.out _ HM2.out).2.2 | (exact (KEEP.out _ (by assumption)).2.2) | fail)
                  ((first
                    | (go_at_call 28; (with_reducible refine (KP.out _ (by first | exact HM2.out | assumption)).mono ?_); rintro e wy ⟨rfl, hy⟩)
                    | fail))
                all_goals
                  obtain ⟨⟨a0, a1, b0, b1⟩, _, _⟩ := KEEP.out wy hy
                  have u1 : ((fr i : Int) != fr i) = false := by simp
                  have u2 : ((fr (i + 1) : Int) != fr (i + 1)) = false := by simp
                  have FIN : Hid (∀ q, Blk2 L w6 (.int .i64 ((i + 1 : Nat) : Int)) (wy.drewN q)) := Lib.hid fun q => ⟨i + 1, by omega, rfl, below_drewN (HW.out.trans (hy.mono HW.out.size)) q⟩
                  clear hy a3 b3 KEEP KS KP
                  go_wp2_with fail
                  go_quiet (fail)
                  go_wp2_with fail
                  go_roundw
                  case rel => obtain ⟨k2, h1, h2, h3⟩ := FIN.out _; exact ⟨k2, h1, by rw [← h2]; go_num, h3⟩
                  case measure => simp [intOf]; omega
            · obtain rfl : i = L := by omega
              have t3 : decide ((i : Int) < i) = false := by simp
              have t3' : decide (i < i) = false := by simp
              have FIN : Hid (Blk1 nm W0 (.int .i64 ((m + 1 : Nat) : Int)) wr) := Lib.hid ⟨m + 1, by omega, rfl, Below.trans HB.out (Below.mono (HB5.out.trans ((HB6.out.trans (hW.mono HB6.out.size)).mono HB5.out.size)) HB.out.size)⟩
              clear hW
              go_wp2_with fail
              go_roundw
              case rel => obtain ⟨k2, h1, h2, h3⟩ := FIN.out; exact ⟨k2, h1, by rw [← h2]; go_num, h3⟩
              case measure => simp [intOf]; omega
        · obtain rfl : nm = m := by omega
          have t1 : decide ((nm : Int) < nm) = false := by simp
          have t1' : decide (nm < nm) = false := by simp
          have FIN := Lib.hid (BW.out _ hB)
          clear hB
          go_wp2_with fail
          go_ret
          exact ⟨rfl, FIN.out⟩
    · have tc : (C != 0) = true := by simpa using hC
      have FIN := Lib.hid (BW.out _ hbe)
      clear hfine hbe hC
      go_wp2_with (rw [EF.out])
      clear EF
      go_wp2_with fail
      go_ret
      exact ⟨rfl, FIN.out⟩

def ProgIn (w : World) (v : Value) : Prop := ∃ (ca : Option Addr) (nc cc : Nat) (f : Nat → ByteArray) (ma : Option Addr) (nm mc : Nat) (ms : Nat → Meth), v = .agg #[.slice ca nc cc, .slice ma nm mc] ∧ Prg w ca nc cc f ma nm mc ms ∧ Wid nc f nm ms

theorem blocks_main (v0 : Value) (w : World) (h0 : ProgIn w v0) (hL : laidMetH Tryd.prog Rows.flowBlocksRow.laid w) :
    Calls Tryd.prog 6 #[v0] w (TruePost w) := by
  obtain ⟨ca, nc, cc, f, ma, nm, mc, ms, rfl, hp, hw⟩ := h0
  exact blocks_walk ca nc cc f ma nm mc ms w (tab_of_laid hL) hp hw

end Go.Proofs.YtchechdcebmoeaaDoor

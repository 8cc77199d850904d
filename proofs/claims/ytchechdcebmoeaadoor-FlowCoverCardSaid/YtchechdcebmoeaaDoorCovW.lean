/-
  The law on a method's cover.
-/
import Derived.Test.YtchechdcebmoeaaDoorCovP
import Derived.Test.YtchechdcebmoeaaDoorFwF
import Derived.Test.YtchechdcebmoeaaDoorTabB
import Derived.Test.YtchechdcebmoeaaDoorAmong
import Derived.Deep.RegionHeld3
namespace Go.Proofs.YtchechdcebmoeaaDoor
open Go.RowKit

def Cov1 (nm : Nat) (W0 : World) (s4 : Value) (wr : World) : Prop := ∃ m : Nat, m ≤ nm ∧ s4 = .int .i64 m ∧ BelB W0 wr
def Cov2 (n : Nat) (f : Nat → Bool) (W : World) (s7 s8 : Value) (wr : World) : Prop := ∃ b : Nat, b ≤ nB f n ∧ s8 = .int .i64 b ∧ s7 = .int .i64 (frB f n b : Nat) ∧ Below W.heap.size W wr
def Cov3 (p0 p1 : Nat) (W : World) (s9 : Value) (wr : World) : Prop := ∃ pc : Nat, p0 ≤ pc ∧ pc ≤ p1 ∧ s9 = .int .i64 pc ∧ Below W.heap.size W wr
def fdB (fr : Nat → Nat) (S : List Int) (A : Int) (k : Nat) : Bool := (List.range k).any fun j => decide ((fr j : Int) = A) && decide ((j : Int) ∈ S)
theorem fdB_next (fr : Nat → Nat) (S : List Int) (A : Int) (k : Nat) : fdB fr S A (k + 1) = (fdB fr S A k || (decide ((fr k : Int) = A) && decide ((k : Int) ∈ S))) := by
  unfold fdB; rw [List.range_succ, List.any_append]; simp
theorem fdB_has {fr : Nat → Nat} {S : List Int} {A : Int} {L k : Nat} (hk : k < L) (h1 : (fr k : Int) = A) (h2 : (k : Int) ∈ S) : fdB fr S A L = true := by
  unfold fdB
  rw [List.any_eq_true]
  exact ⟨k, List.mem_range.2 hk, by simp [h1, h2]⟩
def Cov4 (fr : Nat → Nat) (S : List Int) (A : Int) (L : Nat) (W : World) (s11 s12 : Value) (wr : World) : Prop := ∃ k : Nat, k ≤ L ∧ s12 = .int .i64 k ∧ s11 = .bool (fdB fr S A k) ∧ Below W.heap.size W wr

set_option maxHeartbeats 16000000 in
set_option maxRecDepth 100000 in
theorem cover_walk (ca : Option Addr) (nc cc : Nat) (f : Nat → ByteArray) (ma : Option Addr) (nm mc : Nat) (ms : Nat → Meth) (w : World) (hT : TabOk w)
    (h1 : Prg w ca nc cc f ma nm mc ms) (w1 : Wid nc f nm ms) :
    Calls Tryd.prog 9 #[.agg #[.slice ca nc cc, .slice ma nm mc]] w (TruePost w) := by
  have hb := progW1_below (ca := ca) (nc := nc) (cc := cc) (ma := ma) (nm := nm) (mc := mc) (w := w)
  have CM : Hid (∀ w', BelB (progW1 ca nc cc ma nm mc w) w' → w'.cell? ⟨w.heap.size, 0, none⟩ = some (.slice ca nc cc) ∧ w'.cell? ⟨w.heap.size, 1, none⟩ = some (.slice ma nm mc)) := Lib.hid fun w' h => progW1_cells h
  have BW : Hid (∀ w', BelB (progW1 ca nc cc ma nm mc w) w' → Below w.heap.size w w') := Lib.hid fun w' h => hb.trans (Below.mono h hb.size)
  have KL : Hid (∀ w', BelB (progW1 ca nc cc ma nm mc w) w' → Calls Tryd.prog 43 #[.agg #[.slice ca nc cc, .slice ma nm mc]] w' (BoolQ (progW1 ca nc cc ma nm mc w) (pB (lightP nc f nm ms)))) := Lib.hid fun w' h =>
    (light_any ca nc cc f ma nm mc ms w' (h1.below (hb.trans (Below.mono h hb.size))) w1).mono (by rintro e w2 ⟨rfl, h2⟩; exact ⟨rfl, Below.trans h (Below.mono h2 h.size)⟩)
  have PF : Hid (∀ w', BelB (progW1 ca nc cc ma nm mc w) w' → Calls Tryd.prog 42 #[] w' (BoolQ (progW1 ca nc cc ma nm mc w) true)) := Lib.hid fun w' h =>
    (ffirst w' (hT.below (hb.trans (Below.mono h hb.size)) (Nat.le_refl _))).mono (by rintro e w2 ⟨rfl, h2⟩; exact ⟨rfl, Below.trans h (Below.mono h2 h.size)⟩)
  have HB0 : Hid (BelB (progW1 ca nc cc ma nm mc w) (progW1 ca nc cc ma nm mc w)) := Lib.hid (Below.refl _ _)
  have P1 : Hid (∀ w', BelB (progW1 ca nc cc ma nm mc w) w' → Prg w' ca nc cc f ma nm mc ms) := Lib.hid fun w' h => h1.below (hb.trans (Below.mono h hb.size))
  have TT : Hid (∀ w', BelB (progW1 ca nc cc ma nm mc w) w' → TabOk w') := Lib.hid fun w' h => hT.below (hb.trans (Below.mono h hb.size)) (Nat.le_refl _)
  obtain ⟨W0, hW0⟩ : ∃ W0, progW1 ca nc cc ma nm mc w = W0 := ⟨_, rfl⟩
  rw [hW0] at CM BW KL PF HB0 P1 TT
  unfold progW1 at hW0
  clear h1 w1 hb hT
  obtain ⟨b1, hb1⟩ : ∃ b, pB (lightP nc f nm ms) = b := ⟨_, rfl⟩
  rw [hb1] at KL
  have L1 : Hid (b1 = true → lightP nc f nm ms) := Lib.hid fun h => Classical.byContradiction fun hn => by rw [← hb1, pB_no hn] at h; cases h
  clear hb1
  go_enter Tryd.func9, Tryd.ntmps9
  go_wp2_with fail
  try rw [hW0]
  clear hW0
  refine (PF.out _ HB0.out).mono ?_
  rintro e wa ⟨rfl, hba⟩
  have HBA := Lib.hid hba
  obtain ⟨p0, p1⟩ := CM.out wa hba
  clear hba PF HB0
  cases b1 with
  | false =>
    go_wp2_with fail
    refine (KL.out _ HBA.out).mono ?_
    rintro e wb ⟨rfl, hbb⟩
    have HBB := Lib.hid (BW.out _ hbb)
    clear hbb p0 p1
    go_wp2_with fail
    go_ret
    exact ⟨rfl, HBB.out⟩
  | true =>
    have hl1 : lightP nc f nm ms := by first | exact L1.out rfl | exact L1.out trivial | exact L1.out
    have HL := Lib.hid hl1
    have n1 := hl1.1
    have n2 := hl1.2.1
    clear L1 hl1
    have KM : Hid (∀ w', BelB W0 w' → Calls Tryd.prog 44 #[.agg #[.slice ca nc cc, .slice ma nm mc]] w' (MayT nm ms W0)) := Lib.hid fun w' h => mayT_of ca nc cc f ma nm mc ms W0 w' h (P1.out w' h) (light_sml HL.out) n1 n2
    go_wp2_with fail
    refine (KL.out _ HBA.out).mono ?_
    rintro e wb ⟨rfl, hbb⟩
    have HBB := Lib.hid hbb
    clear p0 p1
    obtain ⟨p0, p1⟩ := CM.out wb hbb
    clear hbb HBA KL
    go_wp2_with fail
    refine (KM.out _ HBB.out).mono ?_
    rintro e we ⟨C, ad, nn, cx, rfl, hbe, hfine⟩
    have HBE := Lib.hid hbe
    have EF := Lib.hid (show (Instr.field 67 (.agg #[.int .i64 C, .slice ad nn cx]) 0).run Tryd.prog we = .ok (.int .i64 C) we from by kernel_rfl)
    clear p0 p1 KM HBB
    by_cases hC : C = 0
    · have HFN := Lib.hid (hfine hC)
      have R1 : Hid (Cov1 nm W0 (.int .i64 0) we) := Lib.hid ⟨0, Nat.zero_le _, rfl, hbe⟩
      have tc : (C != 0) = false := by simp [hC]
      clear hfine hbe hC
      go_wp2_with (rw [EF.out])
      clear EF tc
      go_wp2_with fail
      go_loopw [4] (fun s4 wr => Cov1 nm W0 s4 wr) (fun s4 _ => nm - (intOf s4).toNat)
      case atStart => exact R1.out
      case round =>
        clear R1
        obtain ⟨m, hm, rfl, hB⟩ := hrel
        obtain ⟨p0, p1⟩ := CM.out wr hB
        by_cases hlt : m < nm
        · have t1 : decide ((m : Int) < nm) = true := by simp; omega
          have t1' : decide (m < nm) = true := by simpa using hlt
          have hprg := P1.out wr hB
          obtain ⟨mb, mo, rfl, hmb, hmc⟩ := Prg_at hprg (by omega)
          obtain ⟨x0, x1, x2, x3⟩ := hmc m hlt
          have hpk := hprg.code m hlt
          have hft := HFN.out m hlt
          have hcov := cov_ok (ms m) hft
          have hle1 := hpk.le
          have hmax1 := hpk.max
          unfold maxLen at hmax1
          have hl140 : (ms m).len ≤ 140 := by have := hft.1; omega
          have K := Lib.hid (of_any (ms m).ps (ms m).ls (ms m).rt (ms m).co (ms m).len (ms m).cp (ms m).gv wr hpk hl140 (fun i hi h => by
            have := hft.2 i hi h
            exact wf64 (by omega) (by omega)) (TT.out wr hB))
          unfold OfPost at K
          have HPK := Lib.hid hpk
          have HCOV := Lib.hid hcov
          have HB := Lib.hid hB
          clear hprg hmc hpk hft hcov hB hmb
          generalize (ms m).ps = ps at *
          generalize (ms m).ls = ls at *
          generalize (ms m).rt = rt at *
          generalize (ms m).co = co at *
          generalize (ms m).cp = cp at *
          generalize (ms m).gv = gv at *
          generalize (ms m).len = n at *
          generalize hdF n gv n = fh at *
          go_wp2_with fail
          refine K.out.mono ?_
          rintro e w5 ⟨bb, vs, B2, rfl, hcb, hfam, _, hbb, hb5⟩
          have HCB := Lib.hid hcb
          have HFAM := Lib.hid hfam
          have HB5 := Lib.hid hb5
          have hL : nB fh n ≤ n := by
            unfold nB members
            have := List.length_filter_le fh (List.range n)
            rw [List.length_range] at this
            exact this
          have hf0 : frB fh n 0 = 0 := by
            by_cases h0 : 0 < n
            · exact (HCOV.out.first h0).1
            · have := frB_le fh n 0; omega
          have R2 : Hid (Cov2 n fh w5 (.int .i64 0) (.int .i64 0) w5) := Lib.hid ⟨0, Nat.zero_le _, rfl, by rw [hf0]; rfl, Below.refl _ _⟩
          clear hcb hfam hbb hb5 K x0 x1 x2 x3 hf0 p0 p1
          go_wp2_with fail
          obtain ⟨W3, rfl⟩ : ∃ W3 : World, W3 = wr := ⟨_, rfl⟩
          go_loopw [7, 8] (fun s7 s8 wr => Cov2 n fh w5 s7 s8 wr) (fun _ s8 _ => nB fh n - (intOf s8).toNat)
          case atStart => exact R2.out
          case round =>
            clear R2
            obtain ⟨b, hbl, rfl, rfl, hW⟩ := hrel
            obtain ⟨L, hLL⟩ : ∃ L, nB fh n = L := ⟨_, rfl⟩
            have HLL := Lib.hid hLL
            rw [hLL] at hbl hL HCB ⊢
            clear hLL
            by_cases hlb : b < L
            · have t2 : decide ((b : Int) < L) = true := by simp; omega
              have t2' : decide (b < L) = true := by simpa using hlb
              have hcell : ∀ j, j < L * 4 → w5.cell? ⟨bb, j, none⟩ = some (blkC (frB fh n) vs L j) := fun j hj => by
                rw [cell_of_row w5 bb j _ 78 (0, 0) HCB.out]
                simp [hj]
              have hbl2 := (Array.getElem?_eq_some_iff.1 HCB.out).1
              have CB : Hid (∀ wr, Below w5.heap.size w5 wr → ∀ j, j < L → wr.cell? ⟨bb, j * 4, none⟩ = some (.int .i64 (frB fh n j : Nat)) ∧ wr.cell? ⟨bb, j * 4 + 1, none⟩ = some (.int .i64 (frB fh n (j + 1) : Nat)) ∧ wr.cell? ⟨bb, j * 4 + 2, none⟩ = some (vs (2 * j))) := Lib.hid fun wr h j hj =>
                ⟨(h.cell (p := ⟨bb, j * 4, none⟩) hbl2).trans ((hcell _ (by omega)).trans (by rw [blkC0 _ _ hj])), (h.cell (p := ⟨bb, j * 4 + 1, none⟩) hbl2).trans ((hcell _ (by omega)).trans (by rw [blkC1 _ _ hj])), (h.cell (p := ⟨bb, j * 4 + 2, none⟩) hbl2).trans ((hcell _ (by omega)).trans (by rw [blkC2]))⟩
              obtain ⟨c0, c1, _⟩ := CB.out wr hW b hlb
              have hri := frB_rise fh n (i := b) (j := b + 1) (by omega) (by rw [HLL.out]; exact hlb)
              have hle2 := frB_le fh n (b + 1)
              have hlast := HCOV.out.last b (by rw [HLL.out]; exact hlb)
              have hjump := HCOV.out.jump b (by rw [HLL.out]; exact hlb)
              have HLAST := Lib.hid hlast
              have HJUMP := Lib.hid hjump
              rw [HLL.out] at HJUMP
              obtain ⟨q0, hq0⟩ : ∃ q, frB fh n b = q := ⟨_, rfl⟩
              obtain ⟨q1, hq1⟩ : ∃ q, frB fh n (b + 1) = q := ⟨_, rfl⟩
              have HQ1 := Lib.hid hq1
              rw [hq0] at c0 hri HLAST HJUMP ⊢
              rw [hq1] at c1 hri hle2 HLAST HJUMP
              have t3 : decide ((q1 : Int) ≤ q0) = false := by simp; omega
              have t3' : decide (q1 ≤ q0) = false := by simp; omega
              have t4 : decide ((q1 : Int) > n) = false := by simp; omega
              have t4' : decide (n < q1) = false := by simp; omega
              have R3 : Hid (Cov3 q0 q1 w5 (.int .i64 (q0 : Nat)) wr) := Lib.hid ⟨q0, Nat.le_refl _, by omega, rfl, hW⟩
              clear hcell hbl2 hlast hjump hq0 hq1 hW
              go_wp2_with fail
              obtain ⟨W4, rfl⟩ : ∃ W4 : World, W4 = wr := ⟨_, rfl⟩
              go_loopw [9] (fun s9 wr => Cov3 q0 q1 w5 s9 wr) (fun s9 _ => q1 - (intOf s9).toNat)
              case atStart => exact R3.out
              case round =>
                clear R3 c0 c1 t3 t3' t4 t4'
                obtain ⟨pc, hp0, hp1, rfl, hW⟩ := hrel
                obtain ⟨c0, c1, c2⟩ := CB.out wr hW b hlb
                rw [HQ1.out] at c1
                by_cases hpl : pc < q1
                · have t3 : decide ((pc : Int) < q1) = true := by simp; omega
                  have t3' : decide (pc < q1) = true := by simpa using hpl
                  have hpk := HPK.out.trans (HB5.out.trans (hW.mono HB5.out.size))
                  obtain ⟨lb, lo, rfl, _, hcc⟩ := Picks_at hpk (by omega)
                  have cT := hcc pc 0 (by omega) (by omega)
                  have cA := hcc pc 1 (by omega) (by omega)
                  rw [Nat.add_zero] at cT
                  rw [← Nat.add_assoc] at cA
                  have tw : IntKind.i64.wrap ((q1 : Int) - 1) = (q1 : Int) - 1 := IntWalk.i64_in _ (by omega)
                  have hpn : pc < n := by omega
                  have hl2 := HLAST.out pc hp0
                  have hj2 := HJUMP.out pc hp0 hpl
                  obtain ⟨T, hTT⟩ : ∃ T, gv pc 0 = T := ⟨_, rfl⟩
                  obtain ⟨A, hAA⟩ : ∃ A, gv pc 1 = A := ⟨_, rfl⟩
                  have HGA := Lib.hid hAA
                  rw [hTT] at cT hl2 hj2
                  rw [hAA] at cA hj2
                  clear hTT hAA
                  have R9 : Hid (∀ wx, Below w5.heap.size w5 wx → Cov3 q0 q1 w5 (.int .i64 ((pc + 1 : Nat) : Int)) wx) := Lib.hid fun wx hx => ⟨pc + 1, by omega, by omega, rfl, hx⟩
                  have HW := Lib.hid hW
                  clear hcc hpk hW
                  by_cases hT : T = 22 ∨ T = 23
                  · have hpe : pc + 1 = q1 := by
                      rcases Nat.lt_or_ge (pc + 1) q1 with h | h
                      · exact absurd (by omega) (hl2 h)
                      · omega
                    have t5 : decide ((pc : Int) < (q1 : Int) - 1) = false := by simp; omega
                    obtain ⟨k0, hk0, hka, hks⟩ := hj2 hT
                    obtain ⟨ra, rc, hv, hrow⟩ := HFAM.out.row (j := 2 * b) (by rw [HLL.out]; omega) (fun x hx => by
                      rw [HLL.out] at hx
                      unfold famF at hx
                      rw [if_pos (by omega), if_pos (by omega), show 2 * b / 2 = b by omega] at hx
                      unfold sucF sucP at hx
                      obtain ⟨z, hz, rfl⟩ := List.mem_map.1 hx
                      have hz2 := (List.mem_filter.1 hz).2
                      simp only [decide_eq_true_eq] at hz2
                      have h0 : fh 0 = true := by
                        have h5 := (HCOV.out.first (by omega))
                        have h6 := (frB_lt fh n 0 h5.2).2
                        rw [h5.1] at h6
                        exact h6
                      have := (atB_in fh n h0 (show z.toNat < n by omega)).1
                      rw [HLL.out] at this
                      exact wf64 (by omega) (by omega))
                    have hfs : famF (sucF n gv fh) [] (nB fh n) 0 (2 * b) = sucF n gv fh b := by
                      unfold famF
                      rw [if_pos (by omega), if_pos (by rw [HLL.out]; omega), show 2 * b / 2 = b by omega]
                    rw [hfs] at hv hrow
                    have hsl := sucF_len n gv fh b
                    obtain ⟨S, hS⟩ : ∃ S, sucF n gv fh b = S := ⟨_, rfl⟩
                    rw [hS] at hv hrow hsl hks
                    rw [hv] at c2
                    have HROW := Lib.hid hrow
                    have HFD : Hid (fdB (frB fh n) S A L = true) := Lib.hid (fdB_has hk0 hka hks)
                    have R4 : Hid (Cov4 (frB fh n) S A L w5 (.bool false) (.int .i64 0) wr) := Lib.hid ⟨0, Nat.zero_le _, rfl, rfl, HW.out⟩
                    have HV := Lib.hid hv
                    have CA : Hid (∀ wx, Below wr.heap.size wr wx → wx.cell? ⟨lb, lo + pc * 4 + 1, none⟩ = some (.int .i64 A)) := Lib.hid fun wx h => (h.cell (World.block_lt_of_cell? wr _ cA)).trans cA
                    have RW4 : Hid (∀ wx, Below w5.heap.size w5 wx → Below w5.heap.size w5 wx) := Lib.hid fun _ h => h
                    have CA5 : Hid (∀ wx, Below w5.heap.size w5 wx → wx.cell? ⟨lb, lo + pc * 4 + 1, none⟩ = some (.int .i64 A)) := Lib.hid fun wx h => by
                      have hpk := HPK.out.trans (HB5.out.trans (h.mono HB5.out.size))
                      obtain ⟨lb2, lo2, e, _, hcc⟩ := Picks_at hpk (by omega)
                      cases e
                      have := hcc pc 1 (by omega) (by omega)
                      rw [← Nat.add_assoc] at this
                      rw [this, HGA.out]
                    clear CA RW4
                    clear hl2 hj2 hpe hk0 hka hks hv hrow hfs hS
                    go_upto_region 21 with (fail)
                    go_cut [123] from 118 to 123 (fun s wx => s = .bool true ∧ wx = wr)
                    case first =>
                      rcases hT with rfl | rfl
                      all_goals
                        go_wp2_with fail
                        go_meet
                        exact ⟨rfl, rfl⟩
                    case rest =>
                      obtain ⟨rfl, rfl⟩ := hcut
                      clear hT
                      go_wp2_with fail
                      clear c0 c1 c2 cT cA
                      obtain ⟨W5, rfl⟩ : ∃ W5 : World, W5 = wc := ⟨_, rfl⟩
                      go_loopw [11, 12] (fun s11 s12 wr => Cov4 (frB fh n) S A L w5 s11 s12 wr) (fun _ s12 _ => L - (intOf s12).toNat)
                      case atStart => exact R4.out
                      case round =>
                        clear R4
                        obtain ⟨k, hk, rfl, rfl, hW⟩ := hrel
                        by_cases hkl : k < L
                        · have t6 : decide ((k : Int) < L) = true := by simp; omega
                          have t6' : decide (k < L) = true := by simpa using hkl
                          obtain ⟨c0, _, _⟩ := CB.out wr hW k hkl
                          obtain ⟨_, _, c2⟩ := CB.out wr hW b hlb
                          rw [HV.out] at c2
                          have cA := CA5.out wr hW
                          have hfn := fdB_next (frB fh n) S A k
                          obtain ⟨fk, hfk⟩ : ∃ q, frB fh n k = q := ⟨_, rfl⟩
                          obtain ⟨fd, hfd⟩ : ∃ q, fdB (frB fh n) S A k = q := ⟨_, rfl⟩
                          obtain ⟨sl, hsl2⟩ : ∃ q, S.length = q := ⟨_, rfl⟩
                          rw [hfk] at c0 hfn
                          rw [hfd] at hfn ⊢
                          rw [hsl2] at c2
                          have HSL := Lib.hid hsl2
                          have HWW := Lib.hid hW
                          obtain ⟨mk, hmk⟩ : ∃ q, decide ((k : Int) ∈ S) = q := ⟨_, rfl⟩
                          rw [hmk] at hfn
                          have KA : ∀ nq, Hid (Calls Tryd.prog 17 #[.slice ra sl rc, .int .i64 (k : Int)] (wr.drewN nq) fun e w' => e = .returned (.bool mk) ∧ w' = wr.drewN nq) := fun nq => Lib.hid (by
                            have hr2 := Row_drewN (Row_cells HROW.out HWW.out) nq
                            rw [HSL.out] at hr2
                            refine (among_any ra sl rc S (k : Int) (wr.drewN nq) hr2).mono ?_
                            rintro e w'' ⟨rfl, hw⟩
                            exact ⟨by rw [hmk], hw⟩)
                          have HDR : Hid (∀ n, Below w5.heap.size w5 (wr.drewN n)) := Lib.hid fun n => below_drewN HWW.out n
                          obtain ⟨fn, hfnn⟩ : ∃ q, fdB (frB fh n) S A (k + 1) = q := ⟨_, rfl⟩
                          rw [hfnn] at hfn
                          have HFN2 := Lib.hid hfnn
                          have hkb : k < L := hkl
                          have hbb2 : b < L := hlb
                          have hpnn : pc < n := hpn
                          clear hfk hfd hsl2 hmk hfnn hW
                          have tt : (((fk : Int) == A) = true ∧ ((fd = true ∧ fn = true) ∨ (fd = false ∧ fn = mk))) ∨ (((fk : Int) == A) = false ∧ fn = fd) := by
                            by_cases h : (fk : Int) = A
                            · refine .inl ⟨by simp [h], ?_⟩
                              rw [decide_eq_true h] at hfn
                              cases fd with
                              | true => exact .inl ⟨rfl, by rw [hfn]; rfl⟩
                              | false => exact .inr ⟨rfl, by rw [hfn]; simp⟩
                            · refine .inr ⟨by simpa using h, ?_⟩
                              rw [decide_eq_false h] at hfn
                              rw [hfn]; simp
                          clear hfn
                          rcases tt with ⟨t7, ⟨rfl, hq⟩ | ⟨rfl, hq⟩⟩ | ⟨t7, hq⟩
                          all_goals
                            have HQ := Lib.hid hq
                            clear hq
                            try (cases fd)
                          all_goals
                            go_wp2_with fail
                            go_quiet ((go_at_call 17; exact Calls.quiet_of_same (KA _).out))
                            clear c0 c2 cA KA
                            go_wp2_with fail
                            go_roundw
                            case rel => exact ⟨k + 1, by omega, by go_num, by rw [HFN2.out, HQ.out], HDR.out _⟩
                            case measure => simp [intOf]; omega
                        · obtain rfl : L = k := by omega
                          have t6 : decide ((L : Int) < L) = false := by simp
                          have t6' : decide (L < L) = false := by simp
                          rw [HFD.out]
                          have FIN := Lib.hid (R9.out _ hW)
                          clear hW
                          go_wp2_with fail
                          go_roundw
                          case rel => obtain ⟨k2, h1, h2, h3, h4⟩ := FIN.out; exact ⟨k2, h1, h2, by rw [← h3]; go_num, h4⟩
                          case measure => simp [intOf]; omega
                  · have t5 : (T == 22) = false := by simp; omega
                    have t6 : (T == 23) = false := by simp; omega
                    have FIN := Lib.hid (R9.out _ HW.out)
                    by_cases hlt2 : pc + 1 < q1
                    · have t7 : decide ((pc : Int) < (q1 : Int) - 1) = true := by simp; omega
                      have t8 : (T == 33) = false := by
                        have := hl2 hlt2
                        simp; omega
                      clear hl2 hj2 hT
                      go_wp2_with fail
                      go_roundw
                      case rel => obtain ⟨k2, h1, h2, h3, h4⟩ := FIN.out; exact ⟨k2, h1, h2, by rw [← h3]; go_num, h4⟩
                      case measure => simp [intOf]; omega
                    · have t7 : decide ((pc : Int) < (q1 : Int) - 1) = false := by simp; omega
                      clear hl2 hj2 hT
                      go_wp2_with fail
                      go_roundw
                      case rel => obtain ⟨k2, h1, h2, h3, h4⟩ := FIN.out; exact ⟨k2, h1, h2, by rw [← h3]; go_num, h4⟩
                      case measure => simp [intOf]; omega
                · obtain rfl : q1 = pc := by omega
                  have t3 : decide ((q1 : Int) < q1) = false := by simp
                  have t3' : decide (q1 < q1) = false := by simp
                  have FIN : Hid (Cov2 n fh w5 (.int .i64 (q1 : Nat)) (.int .i64 ((b + 1 : Nat) : Int)) wr) := Lib.hid ⟨b + 1, by rw [HLL.out]; omega, rfl, by rw [HQ1.out], hW⟩
                  clear hW
                  go_wp2_with fail
                  go_roundw
                  case rel => obtain ⟨k2, h1, h2, h3⟩ := FIN.out; exact ⟨k2, h1, by rw [← h2]; go_num, h3⟩
                  case measure => simp [intOf]; omega
            · obtain rfl : L = b := by omega
              have t2 : decide ((L : Int) < L) = false := by simp
              have t2' : decide (L < L) = false := by simp
              have hfe : frB fh n L = n := frB_out fh n L (by rw [HLL.out]; exact Nat.le_refl _)
              rw [hfe]
              have FIN : Hid (Cov1 nm W0 (.int .i64 ((m + 1 : Nat) : Int)) wr) := Lib.hid ⟨m + 1, by omega, rfl, Below.trans HB.out (Below.mono (HB5.out.trans (hW.mono HB5.out.size)) HB.out.size)⟩
              clear hW hfe
              go_wp2_with fail
              go_roundw
              case rel => obtain ⟨k2, h1, h2, h3⟩ := FIN.out; exact ⟨k2, h1, by rw [← h2]; go_num, h3⟩
              case measure => simp [intOf]; omega
        · obtain rfl : nm = m := by omega
          have t1 : decide ((nm : Int) < nm) = false := by simp
          have t1' : decide (nm < nm) = false := by simp
          have FIN := Lib.hid (BW.out _ hB)
          clear hB
          go_wp2_with fail
          go_ret
          exact ⟨rfl, FIN.out⟩
    · have tc : (C != 0) = true := by simpa using hC
      have FIN := Lib.hid (BW.out _ hbe)
      clear hfine hbe hC
      go_wp2_with (rw [EF.out])
      clear EF
      go_wp2_with fail
      go_ret
      exact ⟨rfl, FIN.out⟩

def ProgIn (w : World) (v : Value) : Prop := ∃ (ca : Option Addr) (nc cc : Nat) (f : Nat → ByteArray) (ma : Option Addr) (nm mc : Nat) (ms : Nat → Meth), v = .agg #[.slice ca nc cc, .slice ma nm mc] ∧ Prg w ca nc cc f ma nm mc ms ∧ Wid nc f nm ms

theorem cover_main (v0 : Value) (w : World) (h0 : ProgIn w v0) (hL : laidMetH Tryd.prog Rows.flowCoverRow.laid w) :
    Calls Tryd.prog 9 #[v0] w (TruePost w) := by
  obtain ⟨ca, nc, cc, f, ma, nm, mc, ms, rfl, hp, hw⟩ := h0
  exact cover_walk ca nc cc f ma nm mc ms w (tab_of_laid hL) hp hw

end Go.Proofs.YtchechdcebmoeaaDoor

/-
  ProgEffects: the law's walk.
-/
import Derived.Test.YtjffbojgdemooaaDoorEfD
import Derived.Test.YtjffbojgdemooaaDoorEfE
import Derived.StillTailTactics
namespace Go.Proofs.YtjffbojgdemooaaDoor
open Go.RowKit

set_option maxHeartbeats 16000000 in
set_option maxRecDepth 100000 in
theorem effects_walk (a : Nat → Addr) (ca : Option Addr) (nc cc : Nat) (f : Nat → ByteArray) (ma : Option Addr) (nm mc : Nat) (ms : Nat → Meth) (op cl n m pc : Int) (w : World) (hA : Sents a w)
    (h1 : Prg w ca nc cc f ma nm mc ms) (w1 : Wid nc f nm ms) :
    Calls Tryd.prog 5 #[.agg #[.slice ca nc cc, .slice ma nm mc], .int .i64 op, .int .i64 cl, .int .i64 n, .int .i64 m, .int .i64 pc] w (TruePost w) := by
  have hb := progW1_below (ca := ca) (nc := nc) (cc := cc) (ma := ma) (nm := nm) (mc := mc) (w := w)
  have CM : Hid (∀ w', BelB (progW1 ca nc cc ma nm mc w) w' → w'.cell? ⟨w.heap.size, 0, none⟩ = some (.slice ca nc cc) ∧ w'.cell? ⟨w.heap.size, 1, none⟩ = some (.slice ma nm mc)) := Lib.hid fun w' h => progW1_cells h
  have BW : Hid (∀ w', BelB (progW1 ca nc cc ma nm mc w) w' → Below w.heap.size w w') := Lib.hid fun w' h => hb.trans (Below.mono h hb.size)
  have KL : Hid (∀ w', BelB (progW1 ca nc cc ma nm mc w) w' → Calls Tryd.prog 34 #[.agg #[.slice ca nc cc, .slice ma nm mc]] w' (BoolQ (progW1 ca nc cc ma nm mc w) (pB (lightP nc f nm ms)))) := Lib.hid fun w' h =>
    (light_any ca nc cc f ma nm mc ms w' (h1.below (hb.trans (Below.mono h hb.size))) w1).mono (by rintro e w2 ⟨rfl, h2⟩; exact ⟨rfl, Below.trans h (Below.mono h2 h.size)⟩)
  have PF : Hid (∀ w', BelB (progW1 ca nc cc ma nm mc w) w' → Calls Tryd.prog 33 #[] w' (BoolQ (progW1 ca nc cc ma nm mc w) true)) := Lib.hid fun w' h =>
    (pfirst a w' (hA.below (hb.trans (Below.mono h hb.size)))).mono (by rintro e w2 ⟨rfl, h2⟩; exact ⟨rfl, Below.trans h (Below.mono h2 h.size)⟩)
  have HB0 : Hid (BelB (progW1 ca nc cc ma nm mc w) (progW1 ca nc cc ma nm mc w)) := Lib.hid (Below.refl _ _)
  have P1 : Hid (∀ w', BelB (progW1 ca nc cc ma nm mc w) w' → Prg w' ca nc cc f ma nm mc ms) := Lib.hid fun w' h => h1.below (hb.trans (Below.mono h hb.size))
  obtain ⟨W0, hW0⟩ : ∃ W0, progW1 ca nc cc ma nm mc w = W0 := ⟨_, rfl⟩
  rw [hW0] at CM BW KL PF HB0 P1
  unfold progW1 at hW0
  clear h1 w1 hb hA
  have NMS : Hid (∀ w', BelB W0 w' → Calls Tryd.prog 40 #[] w' (fun e w2 => ∃ g, e = .returned (.slice (some ⟨g, 0, none⟩) 47 47) ∧ (∀ k, k < 47 → w2.cell? ⟨g, k, none⟩ = some (.string (nameB ((k : Int) + 1)))) ∧ BelB W0 w2)) := Lib.hid fun w' h =>
    (names_at w').mono (by rintro e w2 ⟨g, rfl, hc, h2⟩; exact ⟨g, rfl, hc, Below.trans h (Below.mono h2 h.size)⟩)
  obtain ⟨nb, hnb⟩ : ∃ s, nameB op = s := ⟨_, rfl⟩
  have HNB := Lib.hid hnb
  have NM : Hid (∀ w', BelB W0 w' → Calls Tryd.prog 41 #[.int .i64 op] w' (fun e w2 => e = .returned (.string nb) ∧ BelB W0 w2)) := Lib.hid fun w' h =>
    (name_any op w').mono (by rintro e w2 ⟨rfl, h2⟩; exact ⟨by rw [hnb], Below.trans h (Below.mono h2 h.size)⟩)
  obtain ⟨tb, htb⟩ : ∃ s, trapB op = s := ⟨_, rfl⟩
  obtain ⟨sb, hsb⟩ : ∃ s, safeB op = s := ⟨_, rfl⟩
  have T1 : Hid (∀ w, Calls Tryd.prog 42 #[.int .i64 op] w fun e w' => e = .returned (.bool tb) ∧ w = w') := Lib.hid fun w => by rw [← htb]; exact traps_any op w
  have T2 : Hid (∀ w, Calls Tryd.prog 43 #[.int .i64 op] w fun e w' => e = .returned (.bool tb) ∧ w = w') := Lib.hid fun w => by rw [← htb]; exact rtraps_any op w
  have S1 : Hid (∀ w, Calls Tryd.prog 44 #[.int .i64 op] w fun e w' => e = .returned (.bool sb) ∧ w = w') := Lib.hid fun w => by rw [← hsb]; exact safe_any op w
  have S2 : Hid (∀ w, Calls Tryd.prog 45 #[.int .i64 op] w fun e w' => e = .returned (.bool sb) ∧ w = w') := Lib.hid fun w => by rw [← hsb]; exact rsafe_any op w
  clear hnb htb hsb
  obtain ⟨b1, hb1⟩ : ∃ b, pB (lightP nc f nm ms) = b := ⟨_, rfl⟩
  rw [hb1] at KL
  have L1 : Hid (b1 = true → lightP nc f nm ms) := Lib.hid fun h => Classical.byContradiction fun hn => by rw [← hb1, pB_no hn] at h; cases h
  clear hb1
  go_enter Tryd.func5, Tryd.ntmps5
  go_wp2_with fail
  try rw [hW0]
  clear hW0
  refine (PF.out _ HB0.out).mono ?_
  rintro e wa ⟨rfl, hba⟩
  have HBA := Lib.hid hba
  obtain ⟨p0, p1⟩ := CM.out wa hba
  clear hba PF HB0
  cases b1 with
  | false =>
    go_wp2_with fail
    refine (KL.out _ HBA.out).mono ?_
    rintro e wb ⟨rfl, hbb⟩
    have HBB := Lib.hid (BW.out _ hbb)
    clear hbb p0 p1
    go_wp2_with fail
    go_ret
    exact ⟨rfl, HBB.out⟩
  | true =>
    have hl1 : lightP nc f nm ms := by first | exact L1.out rfl | exact L1.out trivial | exact L1.out
    have HL := Lib.hid hl1
    have n1 := hl1.1
    have n2 := hl1.2.1
    clear L1 hl1
    go_wp2_with fail
    refine (KL.out _ HBA.out).mono ?_
    rintro e wb ⟨rfl, hbb⟩
    have HBB := Lib.hid hbb
    clear p0 p1 hbb HBA KL
    go_wp2_with fail
    refine (NMS.out _ HBB.out).mono ?_
    rintro e wn ⟨g, rfl, hnc, hbc⟩
    have HBC := Lib.hid hbc
    have HNC := Lib.hid hnc
    clear hnc hbc HBB NMS
    go_upto_region 6 with (fail)
    obtain ⟨d, hd⟩ : ∃ d, decide (1 ≤ op ∧ op ≤ 47) = d := ⟨_, rfl⟩
    have HD := Lib.hid hd
    clear hd
    go_cut [42] from 35 to 42 (fun s wx => s = .bool d ∧ wx = wn)
    case first =>
      by_cases g1 : 1 ≤ op
      · have t1 : decide (1 ≤ op) = true := by simpa using g1
        by_cases g2 : op ≤ 47
        · have t2 : decide (op ≤ 47) = true := by simpa using g2
          have hd : d = true := by rw [← HD.out]; simp [g1, g2]
          subst hd
          go_wp2_with fail
          go_meet
          exact ⟨rfl, rfl⟩
        · have t2 : decide (op ≤ 47) = false := by simpa using g2
          have hd : d = false := by rw [← HD.out]; simp [g2]
          subst hd
          go_wp2_with fail
          go_meet
          exact ⟨rfl, rfl⟩
      · have t1 : decide (1 ≤ op) = false := by simpa using g1
        have hd : d = false := by rw [← HD.out]; simp [g1]
        subst hd
        go_wp2_with fail
        go_meet
        exact ⟨rfl, rfl⟩
    case rest =>
    obtain ⟨rfl, rfl⟩ := hcut
    go_upto_if 42 with (fail)
    go_cut [14] from 43 to 47 (fun s wx => s = .string nb ∧ BelB W0 wx)
    case first =>
      cases d with
      | true =>
        have hd : 1 ≤ op ∧ op ≤ 47 := by simpa using HD.out
        obtain ⟨k, rfl⟩ : ∃ k : Nat, op = (k : Int) + 1 := ⟨(op - 1).toNat, by omega⟩
        have hk : k < 47 := by omega
        have hc := HNC.out k hk
        rw [HNB.out] at hc
        have wk : IntKind.i64.wrap ((k : Int) + 1 - 1) = (k : Int) := by rw [show (k : Int) + 1 - 1 = (k : Int) by omega]; exact IntWalk.i64_in _ (by omega)
        clear HNC HNB HD hd
        go_wp2_with fail
        go_meet
        exact ⟨rfl, HBC.out⟩
      | false =>
        have hd : ¬ (1 ≤ op ∧ op ≤ 47) := by simpa using HD.out
        have hz : nb = ⟨#[]⟩ := by
          rw [← HNB.out]
          unfold nameB
          split
          · obtain rfl : op = 0 := by omega
            rfl
          · rfl
        subst hz
        clear HNC HNB HD hd
        go_wp2_with fail
        go_meet
        exact ⟨rfl, HBC.out⟩
    case rest =>
      obtain ⟨rfl, hbc⟩ := hcut
      clear HNC HNB HBC HD
      have HBC := Lib.hid hbc
      clear hbc
      have KM : Hid (∀ w', BelB W0 w' → Calls Tryd.prog 37 #[.agg #[.slice ca nc cc, .slice ma nm mc]] w' (MayF nc nm f ms W0)) := Lib.hid fun w' h => mayF_of ca nc cc f ma nm mc ms W0 w' h (P1.out w' h) (light_sml HL.out) n1 n2
      go_wp2_with (first
        | (go_at_call 41; (with_reducible refine (NM.out _ HBC.out).mono ?_); rintro e wd ⟨rfl, hbd⟩; obtain ⟨p0, p1⟩ := CM.out wd hbd)
        | (go_at_call 42; (with_reducible refine (T1.out _).mono ?_); rintro e w' ⟨rfl, rfl⟩)
        | (go_at_call 43; (with_reducible refine (T2.out _).mono ?_); rintro e w' ⟨rfl, rfl⟩)
        | (go_at_call 44; (with_reducible refine (S1.out _).mono ?_); rintro e w' ⟨rfl, rfl⟩)
        | (go_at_call 45; (with_reducible refine (S2.out _).mono ?_); rintro e w' ⟨rfl, rfl⟩)
        | fail)
      refine (KM.out _ hbd).mono ?_
      rintro e we ⟨C, ad, nn, cx, rfl, hbe, hfine⟩
      have HBE := Lib.hid hbe
      have HBE2 : Hid (BelB W0 we.drew) := Lib.hid (below_drew hbe)
      clear p0 p1 hbd HBC NM T1 T2 S1 S2 KM
      by_cases hC : C = 0
      · subst hC
        have FINE := Lib.hid (hfine rfl)
        clear hfine hbe
        have EF := Lib.hid (show (Instr.field 53 (.agg #[.int .i64 0, .slice ad nn cx]) 0).run Tryd.prog we = .ok (.int .i64 0) we from by kernel_rfl)
        go_wp2_with (rw [EF.out])
        clear EF
        go_wp2_with fail
        go_cut [97] from 70 to 97 (fun s wx => s = .bool false ∧ BelB W0 wx)
        case first =>
          obtain ⟨p0, p1⟩ := CM.out we HBE.out
          by_cases d1 : -2 ≤ cl
          · have t1 : decide (-2 ≤ cl) = true := by simpa using d1
            by_cases d2 : cl < nc
            · have t2 : decide (cl < (nc : Int)) = true := by simpa using d2
              by_cases d3 : 0 ≤ n
              · have t3 : decide (0 ≤ n) = true := by simpa using d3
                by_cases d4 : n ≤ 100
                · have t4 : decide (n ≤ 100) = true := by simpa using d4
                  obtain ⟨wv, hwv⟩ : ∃ v, wordsV f cl n = v := ⟨_, rfl⟩
                  have KW1 : Hid (∀ w', BelB W0 w' → Calls Tryd.prog 46 #[.agg #[.slice ca nc cc, .slice ma nm mc], .int .i64 cl, .int .i64 n] w' (fun e w2 => e = .returned (.int .i64 wv) ∧ BelB W0 w2)) := Lib.hid fun w' h =>
                    (words_all ca nc cc ma nm mc f cl n w' (P1.out w' h).cls (fun i hi => by have := HL.out.2.2.1 i hi; omega) d1 d2 d3 d4).mono (by rintro e w2 ⟨rfl, h2⟩; exact ⟨by rw [hwv], Below.trans h (Below.mono h2 h.size)⟩)
                  have KW2 : Hid (∀ w', BelB W0 w' → Calls Tryd.prog 47 #[.agg #[.slice ca nc cc, .slice ma nm mc], .int .i64 cl, .int .i64 n] w' (fun e w2 => e = .returned (.int .i64 wv) ∧ BelB W0 w2)) := Lib.hid fun w' h =>
                    (rwords_all ca nc cc ma nm mc f cl n w' (P1.out w' h).cls (fun i hi => by have := HL.out.2.2.1 i hi; omega) d1 d2 d3 d4).mono (by rintro e w2 ⟨rfl, h2⟩; exact ⟨by rw [hwv], Below.trans h (Below.mono h2 h.size)⟩)
                  clear hwv d1 d2 d3 d4 HL P1 FINE
                  go_region_held3 (fun w' => w'.cell? ⟨w.heap.size, 0, none⟩ = some (.slice ca nc cc) ∧ w'.cell? ⟨w.heap.size, 1, none⟩ = some (.slice ma nm mc)) (first | exact CM.out _ HBE2.out | (exact CM.out _ (by assumption)) | fail)
                    ((first
                      | (go_at_call 46; (with_reducible refine (KW1.out _ (by first | exact HBE2.out | assumption)).mono ?_); rintro e wx ⟨rfl, hx⟩)
                      | (go_at_call 47; (with_reducible refine (KW2.out _ (by first | exact HBE2.out | assumption)).mono ?_); rintro e wx ⟨rfl, hx⟩)
                      | fail))
                  all_goals go_wp2_with fail
                  all_goals
                    go_meet
                    exact ⟨rfl, by assumption⟩
                · have t4 : decide (n ≤ 100) = false := by simpa using d4
                  clear d1 d2 d3 d4
                  go_quiet (fail)
                  go_wp2_with fail
                  all_goals
                    go_meet
                    exact ⟨rfl, below_drewN HBE.out _⟩
              · have t3 : decide (0 ≤ n) = false := by simpa using d3
                clear d1 d2 d3
                go_quiet (fail)
                go_wp2_with fail
                all_goals
                  go_meet
                  exact ⟨rfl, below_drewN HBE.out _⟩
            · have t2 : decide (cl < (nc : Int)) = false := by simpa using d2
              clear d1 d2
              go_quiet (fail)
              go_wp2_with fail
              all_goals
                go_meet
                exact ⟨rfl, below_drewN HBE.out _⟩
          · have t1 : decide (-2 ≤ cl) = false := by simpa using d1
            clear d1
            go_quiet (fail)
            go_wp2_with fail
            all_goals
              go_meet
              exact ⟨rfl, below_drewN HBE.out _⟩
        case rest =>
          obtain ⟨rfl, hbg⟩ := hcut
          clear HBE HBE2
          have R0 : Hid (EffRel nm W0 (.int .i64 ((0 : Nat) : Int)) wc) := Lib.hid ⟨0, Nat.zero_le _, rfl, hbg⟩
          clear hbg
          go_wp2_with fail
          go_loopw [16] (fun si wr => EffRel nm W0 si wr) (fun si _ => nm - (intOf si).toNat)
          case atStart => exact R0.out
          case round =>
            clear R0
            obtain ⟨wo, rfl⟩ : ∃ x, x = wr := ⟨wr, rfl⟩
            obtain ⟨k, hk, rfl, hb⟩ := hrel
            have HB := Lib.hid hb
            obtain ⟨p0, p1⟩ := CM.out wo hb
            by_cases hlt : k < nm
            · have tk : decide (k < nm) = true := by simpa using hlt
              rcases hms : ms k with ⟨ps, ls, rt, co, len, cp, gv⟩
              have hfi := FINE.out k hlt
              have hli := HL.out.2.2.2 k hlt
              have PCD : Hid (∀ w', BelB W0 w' → Picks w' co len cp gv) := Lib.hid fun w' h => by have := (P1.out w' h).code k hlt; rw [hms] at this; exact this
              obtain ⟨mb, mo, rfl, hmc⟩ := MCell_of (P1.out wo hb) (by omega)
              have hx := hmc k hlt
              rw [hms] at hfi hli hx
              have q4 : len ≤ 120 := hfi.1
              have QI : Hid (∀ i, i < len → (1 ≤ gv i 0 ∧ gv i 0 ≤ 35) ∧ namedB nc nm ((ps.size : Int) + ls.size) (fun i => (f i).size) (gv i 0) (gv i 1) (gv i 2) = true ∧ (gv i 0 = 22 ∨ gv i 0 = 23 → (Lit.int .i64 (gv i 1)).wf = true)) := Lib.hid hfi.2
              have q1 : ps.size ≤ 30 := hli.1
              have q2 : ls.size ≤ 30 := hli.2.1
              have MCS : Hid (∀ w', BelB W0 w' → (∀ i, i < nm → MCell mb (mo + i * 4) (ms i).ps (ms i).ls (ms i).rt (ms i).co (ms i).len (ms i).cp w') ∧ MCell mb (mo + k * 4) ps ls rt co len cp w') := Lib.hid fun w' h => by
                obtain ⟨mb2, mo2, h2, h3⟩ := MCell_of (P1.out w' h) (by omega)
                have h4 := Option.some.inj h2
                have h5 : mb2 = mb := (congrArg Addr.block h4).symm
                have h6 : mo2 = mo := (congrArg Addr.off h4).symm
                subst h5
                subst h6
                have h7 := h3 k hlt
                rw [hms] at h7
                exact ⟨h3, h7⟩
              obtain ⟨x0, x1, x2, x3⟩ := hx
              obtain ⟨wM, hwM⟩ : ∃ wM, wo.alloc (.cells #[.string ps, .string ls, .string rt, .slice co len cp] 62) = wM := ⟨_, rfl⟩
              have hbM : BelB W0 wM := by rw [← hwM]; exact Below.alloc hb hb.size _
              have Q : Hid (∀ w', BelB wM w' → BelB W0 w') := Lib.hid fun w' h => Below.trans hbM (Below.mono h hbM.size)
              have MB : Hid (∀ w', BelB wM w' → MBox ps ls rt co len cp wo.heap.size w') := Lib.hid fun w' h => mbox_of ps ls rt co len cp wo w' (by rw [hwM]; exact h)
              obtain ⟨kk, hkk⟩ : ∃ kk, ps ++ ls = kk := ⟨_, rfl⟩
              have KK1 : Hid (∀ w', BelB wM w' → Calls Tryd.prog 48 #[.agg #[.string ps, .string ls, .string rt, .slice co len cp]] w' (fun e w2 => e = .returned (.string kk) ∧ BelB wM w2)) := Lib.hid fun w' h =>
                (kinds_any ps ls rt co len cp w' (by omega) (by omega)).mono (by rintro e w2 ⟨rfl, h2⟩; exact ⟨by rw [hkk], Below.trans h (Below.mono h2 h.size)⟩)
              have KK2 : Hid (∀ w', BelB wM w' → Calls Tryd.prog 49 #[.agg #[.string ps, .string ls, .string rt, .slice co len cp]] w' (fun e w2 => e = .returned (.string kk) ∧ BelB wM w2)) := Lib.hid fun w' h =>
                (rkinds_any ps ls rt co len cp w' (by omega) (by omega)).mono (by rintro e w2 ⟨rfl, h2⟩; exact ⟨by rw [hkk], Below.trans h (Below.mono h2 h.size)⟩)
              have HM0 : Hid (BelB wM wM) := Lib.hid (Below.refl _ _)
              have HM1 : Hid (BelB wM wM.drew) := Lib.hid (below_drew (Below.refl _ _))
              have HMS := Lib.hid hms
              clear hkk hfi hli hmc hb hbM hms
              go_wp2_with fail
              try rw [hwM]
              clear hwM p0 p1 x0 x1 x2 x3
              go_cut [114] from 98 to 177 (fun s wx => s = .bool false ∧ BelB wM wx)
              case first =>
                obtain ⟨m0, m1, m2, m3⟩ := MB.out wM HM0.out
                clear P1 PCD QI MCS FINE HL
                go_region_held3 (fun w' => w'.cell? ⟨wo.heap.size, 0, none⟩ = some (.string ps) ∧ w'.cell? ⟨wo.heap.size, 1, none⟩ = some (.string ls) ∧ w'.cell? ⟨wo.heap.size, 2, none⟩ = some (.string rt) ∧ w'.cell? ⟨wo.heap.size, 3, none⟩ = some (.slice co len cp)) (first | exact MB.out _ HM1.out | (exact MB.out _ (by assumption)) | fail)
                  ((first
                    | (go_at_call 48; (with_reducible refine (KK1.out _ (by first | exact HM1.out | assumption)).mono ?_); rintro e wx ⟨rfl, hx⟩)
                    | (go_at_call 49; (with_reducible refine (KK2.out _ (by first | exact HM1.out | assumption)).mono ?_); rintro e wx ⟨rfl, hx⟩)
                    | fail))
                all_goals go_wp2_with fail
                all_goals
                  go_meet
                  exact ⟨rfl, by assumption⟩
              case rest =>
                obtain ⟨rfl, hbi⟩ := hcut
                have R3 : Hid (EffRel len wM (.int .i64 ((0 : Nat) : Int)) wc) := Lib.hid ⟨0, Nat.zero_le _, rfl, hbi⟩
                clear hbi KK1 KK2 HM0 HM1
                go_wp2_with fail
                go_loopw [18] (fun si wr => EffRel len wM si wr) (fun si _ => len - (intOf si).toNat)
                case atStart => exact R3.out
                case round =>
                  clear R3
                  obtain ⟨i, hi, rfl, hbi⟩ := hrel
                  obtain ⟨wi, rfl⟩ : ∃ x, x = wr := ⟨wr, rfl⟩
                  have HBI := Lib.hid hbi
                  have HBI2 : Hid (BelB wM wi.drew) := Lib.hid (below_drew hbi)
                  obtain ⟨p0, p1⟩ := CM.out wi (Q.out _ hbi)
                  obtain ⟨m0, m1, m2, m3⟩ := MB.out wi hbi
                  by_cases hil : i < len
                  · have ti : decide (i < len) = true := by simpa using hil
                    obtain ⟨hop, hnd, _⟩ := QI.out i hil
                    obtain ⟨⟨ea, eb, ec⟩, hev⟩ : ∃ v, effV f ms ps ls rt (gv i 0) (gv i 1) (gv i 2) = v := ⟨_, rfl⟩
                    have KE1 : Hid (∀ w', BelB wM w' → Calls Tryd.prog 50 #[.agg #[.slice ca nc cc, .slice (some ⟨mb, mo, none⟩) nm mc], .int .i64 k, .agg #[.int .i64 (gv i 0), .int .i64 (gv i 1), .int .i64 (gv i 2), .int .i64 (gv i 3)]] w' (fun e w2 => e = .returned (.tuple #[.string ea, .string eb, .bool ec]) ∧ BelB wM w2 ∧ BelB w' w2)) := Lib.hid fun w' h =>
                      (eff_all ca nc cc f mb mo nm mc ms k ps ls rt co len cp (gv i 0) (gv i 1) (gv i 2) (gv i 3) w' (P1.out w' (Q.out w' h)).cls (MCS.out w' (Q.out w' h)).1 (MCS.out w' (Q.out w' h)).2 hlt (by omega) (by omega) (by omega) (by omega) (fun j hj => by have := HL.out.2.2.1 j hj; omega) hop.1 hop.2 hnd).mono (by
                        rw [hev]
                        rintro e w2 ⟨rfl, h2⟩
                        exact ⟨rfl, Below.trans h (Below.mono h2 h.size), h2⟩)
                    have KE2 : Hid (∀ w', BelB wM w' → Calls Tryd.prog 51 #[.agg #[.slice ca nc cc, .slice (some ⟨mb, mo, none⟩) nm mc], .int .i64 k, .agg #[.int .i64 (gv i 0), .int .i64 (gv i 1), .int .i64 (gv i 2), .int .i64 (gv i 3)]] w' (fun e w2 => e = .returned (.tuple #[.string ea, .string eb, .bool ec]) ∧ BelB wM w2 ∧ BelB w' w2)) := Lib.hid fun w' h =>
                      (reff_all ca nc cc f mb mo nm mc ms k ps ls rt co len cp (gv i 0) (gv i 1) (gv i 2) (gv i 3) w' (P1.out w' (Q.out w' h)).cls (MCS.out w' (Q.out w' h)).1 (MCS.out w' (Q.out w' h)).2 hlt (by omega) (by omega) (by omega) (by omega) (fun j hj => by have := HL.out.2.2.1 j hj; omega) hop.1 hop.2 hnd).mono (by
                        rw [hev]
                        rintro e w2 ⟨rfl, h2⟩
                        exact ⟨rfl, Below.trans h (Below.mono h2 h.size), h2⟩)
                    have hlen := next_len len gv i
                    have KN1' : Hid (∀ w', BelB wM w' → Calls Tryd.prog 52 #[.agg #[.string ps, .string ls, .string rt, .slice co len cp], .int .i64 i] w' (NxQ wM (nextM len gv i) w')) := Lib.hid fun w' h =>
                      nx_of h (next_all ps ls rt co len cp gv i w' (PCD.out w' (Q.out w' h)) (by omega) fun j hj => (QI.out j hj).2.2)
                    have KN2' : Hid (∀ w', BelB wM w' → Calls Tryd.prog 53 #[.agg #[.string ps, .string ls, .string rt, .slice co len cp], .int .i64 i] w' (NxQ wM (nextM len gv i) w')) := Lib.hid fun w' h =>
                      nx_of h (rnext_all ps ls rt co len cp gv i w' (PCD.out w' (Q.out w' h)) (by omega) fun j hj => (QI.out j hj).2.2)
                    have KB1' : Hid (∀ w', BelB wM w' → Calls Tryd.prog 54 #[.agg #[.string ps, .string ls, .string rt, .slice co len cp], .int .i64 i] w' (BoolQ wM (backM len gv i))) := Lib.hid fun w' h =>
                      bq_of h (back_all ps ls rt co len cp gv i w' (PCD.out w' (Q.out w' h)) (by omega))
                    have KB2' : Hid (∀ w', BelB wM w' → Calls Tryd.prog 55 #[.agg #[.string ps, .string ls, .string rt, .slice co len cp], .int .i64 i] w' (BoolQ wM (backM len gv i))) := Lib.hid fun w' h =>
                      bq_of h (rback_all ps ls rt co len cp gv i w' (PCD.out w' (Q.out w' h)) (by omega))
                    obtain ⟨L, hL⟩ : ∃ L, nextM len gv i = L := ⟨_, rfl⟩
                    obtain ⟨bk, hbk⟩ : ∃ b, backM len gv i = b := ⟨_, rfl⟩
                    rw [hL] at hlen KN1' KN2'
                    rw [hbk] at KB1' KB2'
                    have KSI : Hid (∀ w' a1 n1 c1 a2 n2 c2, BelB wM w' → Row .i64 w' a1 n1 c1 L → Row .i64 w' a2 n2 c2 L → Calls Tryd.prog 28 #[.slice a1 n1 c1, .slice a2 n2 c2] w' (BoolQ wM true)) := Lib.hid fun w' a1 n1 c1 a2 n2 c2 h r1 r2 => si_of hlen h r1 r2
                    obtain ⟨lb, lo, rfl, h4⟩ := At4_of (PCD.out wi (Q.out _ hbi)) hil
                    have KN1 := KN1'
                    have KN2 := KN2'
                    have KB1 := KB1'
                    have KB2 := KB2'
                    have KP : Hid (∀ w', BelB wM w' → (w'.cell? ⟨w.heap.size, 0, none⟩ = some (.slice ca nc cc) ∧ w'.cell? ⟨w.heap.size, 1, none⟩ = some (.slice (some ⟨mb, mo, none⟩) nm mc)) ∧ w'.cell? ⟨wo.heap.size, 3, none⟩ = some (.slice (some ⟨lb, lo, none⟩) len cp) ∧ w'.cell? ⟨lb, lo + i * 4, none⟩ = some (.int .i64 (gv i 0)) ∧ w'.cell? ⟨lb, lo + i * 4 + 1, none⟩ = some (.int .i64 (gv i 1)) ∧ w'.cell? ⟨lb, lo + i * 4 + 2, none⟩ = some (.int .i64 (gv i 2)) ∧ w'.cell? ⟨lb, lo + i * 4 + 3, none⟩ = some (.int .i64 (gv i 3))) := Lib.hid fun w' h => by
                      obtain ⟨lb2, lo2, h2, h3⟩ := At4_of (PCD.out w' (Q.out w' h)) hil
                      have h6 := Option.some.inj h2
                      have h7 : lb2 = lb := (congrArg Addr.block h6).symm
                      have h8 : lo2 = lo := (congrArg Addr.off h6).symm
                      subst h7
                      subst h8
                      obtain ⟨_, _, _, m3⟩ := MB.out w' h
                      exact ⟨CM.out w' (Q.out w' h), m3, h3.k0, h3.k1, h3.k2, h3.k3⟩
                    clear KN1' KN2' KB1' KB2' hL hbk hlen hev hop hnd hbi PCD QI MCS FINE HL P1 HMS HBI h4
                    generalize gv i 0 = T at *
                    generalize gv i 1 = A at *
                    generalize gv i 2 = B at *
                    generalize gv i 3 = N at *
                    go_wp2_with fail
                    clear p0 p1 m0 m1 m2 m3
                    go_region_held3 (fun w' => (w'.cell? ⟨w.heap.size, 0, none⟩ = some (.slice ca nc cc) ∧ w'.cell? ⟨w.heap.size, 1, none⟩ = some (.slice (some ⟨mb, mo, none⟩) nm mc)) ∧ w'.cell? ⟨wo.heap.size, 3, none⟩ = some (.slice (some ⟨lb, lo, none⟩) len cp) ∧ w'.cell? ⟨lb, lo + i * 4, none⟩ = some (.int .i64 T) ∧ w'.cell? ⟨lb, lo + i * 4 + 1, none⟩ = some (.int .i64 A) ∧ w'.cell? ⟨lb, lo + i * 4 + 2, none⟩ = some (.int .i64 B) ∧ w'.cell? ⟨lb, lo + i * 4 + 3, none⟩ = some (.int .i64 N)) (first | exact KP.out _ HBI2.out | (exact KP.out _ (by assumption)) | fail)
                      ((first
                        | (go_at_call 50; (with_reducible refine (KE1.out _ (by first | exact HBI2.out | assumption)).mono ?_); rintro e wx ⟨rfl, hx, _⟩)
                        | fail))
                    have H4 : Hid (BelB wM wx.drew) := Lib.hid (below_drew hx)
                    clear hx HBI2 KE1
                    go_wp2_with fail
                    go_region_held3 (fun w' => (w'.cell? ⟨w.heap.size, 0, none⟩ = some (.slice ca nc cc) ∧ w'.cell? ⟨w.heap.size, 1, none⟩ = some (.slice (some ⟨mb, mo, none⟩) nm mc)) ∧ w'.cell? ⟨wo.heap.size, 3, none⟩ = some (.slice (some ⟨lb, lo, none⟩) len cp) ∧ w'.cell? ⟨lb, lo + i * 4, none⟩ = some (.int .i64 T) ∧ w'.cell? ⟨lb, lo + i * 4 + 1, none⟩ = some (.int .i64 A) ∧ w'.cell? ⟨lb, lo + i * 4 + 2, none⟩ = some (.int .i64 B) ∧ w'.cell? ⟨lb, lo + i * 4 + 3, none⟩ = some (.int .i64 N)) (first | exact KP.out _ H4.out | (exact KP.out _ (by assumption)) | fail)
                      ((first
                        | (go_at_call 51; (with_reducible refine (KE2.out _ (by first | exact H4.out | assumption)).mono ?_); rintro e wy ⟨rfl, hy, _⟩)
                        | fail))
                    have H5 : Hid (BelB wM wy.drew) := Lib.hid (below_drew hy)
                    clear hy H4 KE2 KP
                    go_wp2_with fail
                    go_region_held3 (fun w' => w'.cell? ⟨wo.heap.size, 0, none⟩ = some (.string ps) ∧ w'.cell? ⟨wo.heap.size, 1, none⟩ = some (.string ls) ∧ w'.cell? ⟨wo.heap.size, 2, none⟩ = some (.string rt) ∧ w'.cell? ⟨wo.heap.size, 3, none⟩ = some (.slice (some ⟨lb, lo, none⟩) len cp)) (first | exact MB.out _ H5.out | (exact MB.out _ (by assumption)) | fail)
                      ((first
                        | (go_at_call 52; (with_reducible refine (KN1.out _ (by first | exact H5.out | assumption)).mono ?_); rintro e wx ⟨an, nn1, cn1, rfl, hx, hsx, hrow⟩)
                        | (go_at_call 53; (with_reducible refine (KN2.out _ (by first | exact H5.out | assumption)).mono ?_); rintro e wx ⟨ar, nr1, cr1, rfl, hy, hsy, hrow2⟩)
                        | (go_at_call 28; (with_reducible refine (KSI.out _ _ _ _ _ _ _ (by first | exact H5.out | assumption) (by first | exact hrow | exact Row.belowB hrow hsy) (by first | exact hrow2 | exact Row.belowB hrow2 hsx)).mono ?_); rintro e wx ⟨rfl, hz⟩)
                        | (go_at_call 54; (with_reducible refine (KB1.out _ (by first | exact H5.out | assumption)).mono ?_); rintro e wx ⟨rfl, hz⟩)
                        | (go_at_call 55; (with_reducible refine (KB2.out _ (by first | exact H5.out | assumption)).mono ?_); rintro e wx ⟨rfl, hz⟩)
                        | fail))
                    all_goals go_wp2_with fail
                    all_goals
                      go_roundw
                      case rel => exact ⟨i + 1, by omega, by go_num, by assumption⟩
                      case measure => simp [intOf]; omega
                  · have ti : decide (i < len) = false := by simpa using hil
                    clear PCD QI MCS FINE HL P1 HMS HBI2
                    have HQ := Lib.hid (Q.out _ HBI.out)
                    clear hbi
                    go_wp2_with fail
                    go_roundw
                    case rel => exact ⟨k + 1, by omega, by go_num, HQ.out⟩
                    case measure => simp [intOf]; omega
            · have tk : decide (k < nm) = false := by simpa using hlt
              by_cases e1 : m < 0
              · have t1 : decide (m < 0) = true := by simpa using e1
                clear e1 hb FINE HL P1
                go_wp2_with fail
                go_ret
                exact ⟨rfl, BW.out _ HB.out⟩
              · have t1 : decide (m < 0) = false := by simpa using e1
                by_cases e2 : (nm : Int) ≤ m
                · have t2 : decide ((nm : Int) ≤ m) = true := by simpa using e2
                  clear e1 e2 hb FINE HL P1
                  go_wp2_with fail
                  go_ret
                  exact ⟨rfl, BW.out _ HB.out⟩
                · have t2 : decide ((nm : Int) ≤ m) = false := by simpa using e2
                  obtain ⟨j, rfl⟩ : ∃ j : Nat, m = j := ⟨m.toNat, by omega⟩
                  have hj : j < nm := by omega
                  rcases hms : ms j with ⟨ps, ls, rt, co, len, cp, gv⟩
                  have hfi := FINE.out j hj
                  rw [hms] at hfi
                  have q4 : len ≤ 120 := hfi.1
                  have QJ : Hid (∀ i, i < len → (gv i 0 = 22 ∨ gv i 0 = 23 → (Lit.int .i64 (gv i 1)).wf = true)) := Lib.hid fun i hi => (hfi.2 i hi).2.2
                  have PCD : Hid (∀ w', BelB W0 w' → Picks w' co len cp gv) := Lib.hid fun w' h => by have := (P1.out w' h).code j hj; rw [hms] at this; exact this
                  obtain ⟨mb, mo, rfl, hmc⟩ := MCell_of (P1.out wo hb) (by omega)
                  have hx := hmc j hj
                  rw [hms] at hx
                  have MK2 : Hid (∀ w', BelB W0 w' → (w'.cell? ⟨w.heap.size, 0, none⟩ = some (.slice ca nc cc) ∧ w'.cell? ⟨w.heap.size, 1, none⟩ = some (.slice (some ⟨mb, mo, none⟩) nm mc)) ∧ MCell mb (mo + j * 4) ps ls rt co len cp w') := Lib.hid fun w' h => by
                    obtain ⟨mb2, mo2, h2, h3⟩ := MCell_of (P1.out w' h) (by omega)
                    have h4 := Option.some.inj h2
                    have h5 : mb2 = mb := (congrArg Addr.block h4).symm
                    have h6 : mo2 = mo := (congrArg Addr.off h4).symm
                    subst h5
                    subst h6
                    have h7 := h3 j hj
                    rw [hms] at h7
                    exact ⟨CM.out w' h, h7⟩
                  obtain ⟨x0, x1, x2, x3⟩ := hx
                  have hlen := next_len len gv pc
                  have KN1' : Hid (∀ w', BelB W0 w' → Calls Tryd.prog 52 #[.agg #[.string ps, .string ls, .string rt, .slice co len cp], .int .i64 pc] w' (NxQ W0 (nextM len gv pc) w')) := Lib.hid fun w' h =>
                    nx_of h (next_all ps ls rt co len cp gv pc w' (PCD.out w' h) (by omega) QJ.out)
                  have KN2' : Hid (∀ w', BelB W0 w' → Calls Tryd.prog 53 #[.agg #[.string ps, .string ls, .string rt, .slice co len cp], .int .i64 pc] w' (NxQ W0 (nextM len gv pc) w')) := Lib.hid fun w' h =>
                    nx_of h (rnext_all ps ls rt co len cp gv pc w' (PCD.out w' h) (by omega) QJ.out)
                  have KB1' : Hid (∀ w', BelB W0 w' → Calls Tryd.prog 54 #[.agg #[.string ps, .string ls, .string rt, .slice co len cp], .int .i64 pc] w' (BoolQ W0 (backM len gv pc))) := Lib.hid fun w' h =>
                    bq_of h (back_all ps ls rt co len cp gv pc w' (PCD.out w' h) (by omega))
                  have KB2' : Hid (∀ w', BelB W0 w' → Calls Tryd.prog 55 #[.agg #[.string ps, .string ls, .string rt, .slice co len cp], .int .i64 pc] w' (BoolQ W0 (backM len gv pc))) := Lib.hid fun w' h =>
                    bq_of h (rback_all ps ls rt co len cp gv pc w' (PCD.out w' h) (by omega))
                  obtain ⟨L, hL⟩ : ∃ L, nextM len gv pc = L := ⟨_, rfl⟩
                  obtain ⟨bk, hbk⟩ : ∃ b, backM len gv pc = b := ⟨_, rfl⟩
                  rw [hL] at hlen KN1' KN2'
                  rw [hbk] at KB1' KB2'
                  have KSI : Hid (∀ w' a1 n1 c1 a2 n2 c2, BelB W0 w' → Row .i64 w' a1 n1 c1 L → Row .i64 w' a2 n2 c2 L → Calls Tryd.prog 28 #[.slice a1 n1 c1, .slice a2 n2 c2] w' (BoolQ W0 true)) := Lib.hid fun w' a1 n1 c1 a2 n2 c2 h r1 r2 => si_of hlen h r1 r2
                  have KN1 := KN1'
                  have KN2 := KN2'
                  have KB1 := KB1'
                  have KB2 := KB2'
                  have HD : Hid (BelB W0 wo.drew) := Lib.hid (below_drew hb)
                  clear KN1' KN2' KB1' KB2' hL hbk hlen hfi hmc hms e1 e2 hb PCD QJ FINE HL P1 HB
                  go_wp2_with fail
                  go_region_held3 (fun w' => (w'.cell? ⟨w.heap.size, 0, none⟩ = some (.slice ca nc cc) ∧ w'.cell? ⟨w.heap.size, 1, none⟩ = some (.slice (some ⟨mb, mo, none⟩) nm mc)) ∧ w'.cell? ⟨mb, mo + j * 4, none⟩ = some (.string ps) ∧ w'.cell? ⟨mb, mo + j * 4 + 1, none⟩ = some (.string ls) ∧ w'.cell? ⟨mb, mo + j * 4 + 2, none⟩ = some (.string rt) ∧ w'.cell? ⟨mb, mo + j * 4 + 3, none⟩ = some (.slice co len cp)) (first | exact MK2.out _ HD.out | (exact MK2.out _ (by assumption)) | fail)
                    ((first
                      | (go_at_call 52; (with_reducible refine (KN1.out _ (by first | exact HD.out | assumption)).mono ?_); rintro e wx ⟨an, nn1, cn1, rfl, hx, hsx, hrow⟩)
                      | (go_at_call 53; (with_reducible refine (KN2.out _ (by first | exact HD.out | assumption)).mono ?_); rintro e wx ⟨ar, nr1, cr1, rfl, hy, hsy, hrow2⟩)
                      | (go_at_call 28; (with_reducible refine (KSI.out _ _ _ _ _ _ _ (by first | exact HD.out | assumption) (by first | exact hrow | exact Row.belowB hrow hsy) (by first | exact hrow2 | exact Row.belowB hrow2 hsx)).mono ?_); rintro e wx ⟨rfl, hz⟩)
                      | (go_at_call 54; (with_reducible refine (KB1.out _ (by first | exact HD.out | assumption)).mono ?_); rintro e wx ⟨rfl, hz⟩)
                      | (go_at_call 55; (with_reducible refine (KB2.out _ (by first | exact HD.out | assumption)).mono ?_); rintro e wx ⟨rfl, hz⟩)
                      | fail))
                  all_goals go_wp2_with fail
                  all_goals
                    go_ret
                    exact ⟨rfl, BW.out _ (by assumption)⟩
      · have tC : (C != 0) = true := by simpa using hC
        clear hfine hC hbe HBE2
        have EF := Lib.hid (show (Instr.field 53 (.agg #[.int .i64 C, .slice ad nn cx]) 0).run Tryd.prog we = .ok (.int .i64 C) we from by kernel_rfl)
        go_wp2_with (rw [EF.out])
        go_wp2_with fail
        go_ret
        exact ⟨rfl, BW.out _ HBE.out⟩

end Go.Proofs.YtjffbojgdemooaaDoor

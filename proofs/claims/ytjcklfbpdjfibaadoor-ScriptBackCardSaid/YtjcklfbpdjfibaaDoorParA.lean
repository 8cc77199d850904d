/-
  Package script: Parse of any bytes.
-/
import Derived.Test.YtjcklfbpdjfibaaDoorParB
namespace Go.Proofs.YtjcklfbpdjfibaaDoor
open Go.RowKit

set_option maxHeartbeats 16000000 in
set_option maxRecDepth 100000 in
theorem parse_any (a : Nat → Addr) (b off n bc : Nat) (bs : List Nat) (w : World) (hS : Sents6 a w) (hS4 : Sents4 a w) (hr : Row .u8 w (some ⟨b, off, none⟩) n bc (intsR bs)) (hn : 0 < n) (hnl : n ≤ 2000) (hb8 : ∀ g ∈ bs, g < 256) :
    Calls Tryd.prog 67 #[.slice (some ⟨b, off, none⟩) n bc] w (ParseA bs w) := by
  have hlen : bs.length = n := by have := hr.len_eq; simpa [intsR] using this
  have hm := hr.max
  have HS := Lib.hid hS
  have HS4 := Lib.hid hS4
  have HR := Lib.hid hr
  have HB8 := Lib.hid hb8
  have d1 : decide ((16384 : Int) < (n : Int)) = false := by simp; omega
  obtain ⟨i0, hi, hz0, hz1, hz2⟩ := info_parts pickinfoG
  have HI := Lib.hid hi
  have HZ0 := Lib.hid hz0
  have HZ1 := Lib.hid hz1
  have HZ2 := Lib.hid hz2
  clear hS hS4 hr hb8 hi hz0 hz1 hz2
  go_enter Tryd.func67, Tryd.ntmps67
  go_wp2_with fail
  refine (new_reader _ n bc _).mono ?_
  rintro e w1 ⟨rfl, hbx, hb1⟩
  have hled := heap_alloc_new w1 (.cells #[.pointer (some ⟨w.heap.size, 0, none⟩)] 140)
  have hbx2 := hbx.stays ((Below.refl w1.heap.size w1).alloc (Nat.le_refl _) (.cells #[.pointer (some ⟨w.heap.size, 0, none⟩)] 140))
  have hb2 := hb1.alloc hb1.size (.cells #[.pointer (some ⟨w.heap.size, 0, none⟩)] 140)
  have hrl : w.heap.size < w1.heap.size := (Array.getElem?_eq_some_iff.1 hbx).1
  have hsz2 : (w1.alloc (.cells #[.pointer (some ⟨w.heap.size, 0, none⟩)] 140)).heap.size = w1.heap.size + 1 := by simp
  clear hbx hb1
  go_wp2_with fail
  obtain ⟨q0, hq⟩ : ∃ q0, w1.heap.size = q0 := ⟨_, rfl⟩
  rw [hq] at hled hrl hsz2 ⊢
  generalize (w1.alloc (.cells #[.pointer (some ⟨w.heap.size, 0, none⟩)] 140)) = w2 at *
  obtain ⟨B, hB⟩ : ∃ B, w2.heap.size = B := ⟨_, rfl⟩
  have R0 : Hid (PbRel w q0 w.heap.size B b off n bc bs (.slice none 0 0) (.int .i64 0) w2) := Lib.hid (.inl ⟨0, 0, fun _ _ => 0, Nat.zero_le _, Nat.zero_le _, rfl, rfl, Int.le_refl _, Int.le_refl _, hbx2, hled, World.ownsRow_nil _ _ _ _, hb2, by omega, Nat.le_refl _, by omega, by omega, by omega, by omega⟩)
  obtain ⟨r, hr⟩ : ∃ r, w.heap.size = r := ⟨_, rfl⟩
  rw [hr] at R0
  rw [hr]
  clear hq hB hr hled hbx2 hb2 hrl hsz2
  have HLEN := Lib.hid hlen
  have HM := Lib.hid hm
  clear hm
  go_loopw [6, 7] (fun sl sa wr => PbRel w q0 r B b off n bc bs sl sa wr) (fun _ _ wr => leftP r n wr)
  case atStart => exact R0.out
  case round =>
    rcases hrel with ⟨k, p, gv, hkp, hpn, hpre, rfl, hH0, hH1, hst⟩ | ⟨b', p, m, z, xs, rfl, hz0, hz1, hmm, hst⟩
    · clear R0
      have hm := HM.out
      have HST := Lib.hid hst
      have HML := Lib.hid (leftP_ok hst.box)
      have E0 := Lib.hid hpre
      have MK := Lib.hid (more_ok _ _ n bc p wr hst.box)
      have q := hst.cell
      clear hst hpre
      go_wp2_with fail
      refine MK.out.mono ?_
      rintro e wm ⟨rfl, nq, rfl⟩
      have h0 := HST.out.below (below_drewN (Below.refl _ _) nq)
      have H0 := Lib.hid h0
      clear q MK h0 HST
      generalize wr.drewN nq = W0 at *
      by_cases hlt : p < n
      · have t1 : decide (p < n) = true := by simpa using hlt
        have hlen := HLEN.out
        obtain ⟨H, hH⟩ : ∃ H, aheadOf gv k = H := ⟨_, rfl⟩
        rw [hH] at hH0 hH1 ⊢
        have HHH := Lib.hid hH
        clear hH
        go_wp2_with fail
        rcases num_cases bs (p) with ⟨d, k1, hT1, hud⟩ | hC1
        · have T1 := Lib.hid hT1
          obtain ⟨hkE1, hlk1, hpk1, _⟩ := took bs _ (p) d k1 HB8.out E0.out hT1
          rw [hlen] at hlk1
          have E1 := Lib.hid hkE1
          clear hT1 hkE1
          refine (read_ok H0.out bs d k1 HR.out (by omega) T1.out (by omega)).mono ?_
          rintro e W1 ⟨rfl, hsW1, hgW1⟩
          have HW1 := Lib.hid hsW1
          have HGW1 := Lib.hid hgW1
          clear hsW1 hgW1
          go_wp2_with fail
          rcases num_cases bs (p + k1) with ⟨K, k2, hT2, huK⟩ | hC2
          · have T2 := Lib.hid hT2
            obtain ⟨hkE2, hlk2, hpk2, _⟩ := took bs _ (p + k1) K k2 HB8.out E1.out hT2
            rw [hlen] at hlk2
            have E2 := Lib.hid hkE2
            clear hT2 hkE2
            refine (read_ok HW1.out bs K k2 HR.out (by omega) T2.out (by omega)).mono ?_
            rintro e W2 ⟨rfl, hsW2, hgW2⟩
            have HW2 := Lib.hid hsW2
            have HGW2 := Lib.hid hgW2
            clear hsW2 hgW2
            have hob := HW2.out.fresh
            have hW3 := HW2.out.below ((Below.refl W2.heap.size W2).alloc (Nat.le_refl _) (.cells #[.int .i64 (H + (d : Int)), .int .i64 K, .int .i64 0, .int .i64 0] 107))
            have HW3 := Lib.hid hW3
            have HPK := Lib.hid (PkB.new W2 (H + (d : Int)) K 0 0)
            have hcB : B ≤ W2.heap.size := HW2.out.ne.2.2.2.2.2
            have hrB : r < B := HW2.out.ne.2.2.2.1
            have HOB := Lib.hid hob
            clear hob hW3
            by_cases k3 : K = 3
            · have t3 : ((K : Int) == 3) = true := by simp; omega
              have HK3 := Lib.hid k3
              clear k3
              go_wp2_with fail
              generalize (W2.alloc (.cells #[.int .i64 (H + (d : Int)), .int .i64 K, .int .i64 0, .int .i64 0] 107)) = W3 at *
              rcases num_cases bs (p + k1 + k2) with ⟨A, k3, hT3, huA⟩ | hC3
              · have T3 := Lib.hid hT3
                obtain ⟨hkE3, hlk3, hpk3, _⟩ := took bs _ (p + k1 + k2) A k3 HB8.out E2.out hT3
                rw [hlen] at hlk3
                have E3 := Lib.hid hkE3
                clear hT3 hkE3
                refine (read_ok HW3.out bs A k3 HR.out (by omega) T3.out (by omega)).mono ?_
                rintro e W4 ⟨rfl, hsW4, hgW4⟩
                have HW4 := Lib.hid hsW4
                have HGW4 := Lib.hid hgW4
                clear hsW4 hgW4
                have HP4 := Lib.hid (HPK.out.kept HGW4.out (by omega))
                obtain ⟨b0, b1, b2, b3, f2, f3⟩ := HP4.out.cells
                have HW5 := Lib.hid (HW4.out.setBox (j := 2) hcB HOB.out (.int .i64 A))
                have HP5 := Lib.hid (HP4.out.setA A)
                obtain ⟨e0, e1, e2, e3, g2, g3⟩ := HP5.out.cells
                go_wp2_with fail
                clear b0 b1 b2 b3 f2 f3
                generalize (W4.setCell ⟨W2.heap.size, 2, none⟩ (.int .i64 A)) = W5 at *
                rcases num_cases bs (p + k1 + k2 + k3) with ⟨Bn, k4, hT4, huBn⟩ | hC4
                · have T4 := Lib.hid hT4
                  obtain ⟨hkE4, hlk4, hpk4, _⟩ := took bs _ (p + k1 + k2 + k3) Bn k4 HB8.out E3.out hT4
                  rw [hlen] at hlk4
                  have E4 := Lib.hid hkE4
                  clear hT4 hkE4
                  refine (read_ok HW5.out bs Bn k4 HR.out (by omega) T4.out (by omega)).mono ?_
                  rintro e W6 ⟨rfl, hsW6, hgW6⟩
                  have HW6 := Lib.hid hsW6
                  have HGW6 := Lib.hid hgW6
                  clear hsW6 hgW6
                  have HP6 := Lib.hid (HP5.out.kept HGW6.out (by omega))
                  have HW7 := Lib.hid (HW6.out.setBox (j := 3) hcB HOB.out (.int .i64 Bn))
                  have HP7 := Lib.hid (HP6.out.setB Bn)
                  obtain ⟨b0, b1, b2, b3, f2, f3⟩ := HP6.out.cells
                  obtain ⟨l0, l1, l2, l3, m2, m3⟩ := HP7.out.cells
                  go_upto_region 14 with (fail)
                  clear b0 b1 b2 b3 f2 f3
                  generalize (W6.setCell ⟨W2.heap.size, 3, none⟩ (.int .i64 Bn)) = W7 at *
                  have HEND : Hid (bs.take (p + k1 + k2 + k3 + k4) = printL (plus gv k (H + (d : Int)) K A Bn) (k + 1)) := Lib.hid (by
                    have hk3 := HK3.out
                    rw [plus_print gv k d K A Bn _ (by rw [HHH.out]), E4.out, if_pos hk3, if_pos (.inl hk3)]
                    simp)
                  have hoa := Lib.hid (HW7.out.own.alloc (.cells #[.int .i64 (H + (d : Int)), .int .i64 K, .int .i64 A, .int .i64 Bn] 107))
                  have HNW := Lib.hid (news_fourP W7 ((H + (d : Int))) (K) (A) (Bn))
                  have hoc : Hid (∀ u ∈ ([.int .i64 (H + (d : Int)), .int .i64 K, .int .i64 A, .int .i64 Bn] : List Value), u.oneCell' = true) := Lib.hid (by simp [Value.oneCell'])
                  have hn1 : Hid (k + 1 ≤ maxLen) := Lib.hid (by unfold maxLen; omega)
                  have hn2 : Hid ((k + 1) * 32 ≤ 140737488355328) := Lib.hid (by omega)
                  have hsz : Hid (B ≤ (W7.alloc (.cells #[.int .i64 (H + (d : Int)), .int .i64 K, .int .i64 A, .int .i64 Bn] 107)).heap.size) := Lib.hid (by have := HW7.out.ne.2.2.2.2.2; simp; omega)
                  go_wp2_with (at_builtin; refine wpList_append_own _ rfl (.tmp 44) (.tmp 46) 88 rfl B 107 i0 (.agg #[.int .i64 0, .int .i64 0, .int .i64 0, .int .i64 0]) 4 32 Tryd.underlying88 HI.out HZ0.out HZ1.out HZ2.out rfl (by decide) _ k (flatG gv k) rfl hoa.out ⟨W7.heap.size, 0, none⟩ 1 1 [.int .i64 (H + (d : Int)), .int .i64 K, .int .i64 A, .int .i64 Bn] rfl rfl HNW.out hoc.out hn1.out hn2.out hsz.out ?_; intro v5 w5 hown5 hgrow5 hnil5; clear hnil5)
                  have hps := HW7.out.push hown5 hgrow5
                  have HPS := Lib.hid hps
                  clear hps hown5 hgrow5
                  go_roundw
                  case rel => exact .inl ⟨k + 1, _, plus gv k (H + (d : Int)) (K) (A) (Bn), by omega, by omega, HEND.out, by rw [plus_ahead], by rw [plus_ahead]; omega, by rw [plus_ahead]; omega, by rw [plus_flat]; exact HPS.out.1⟩
                  case measure => rw [HML.out, leftP_ok HPS.out.1.box]; omega
                · have C4 := Lib.hid hC4
                  clear hC4
                  refine (read_bad a HW5.out bs HS.out HR.out hm (by omega) (by omega) (by omega) HB8.out C4.out).mono ?_
                  rintro e W6 ⟨rfl, ⟨p', b', hsW6⟩, hgW6⟩
                  have HW6 := Lib.hid hsW6
                  have HGW6 := Lib.hid hgW6
                  clear hsW6 hgW6
                  have HP6 := Lib.hid (HP5.out.kept HGW6.out (by omega))
                  have HW7 := Lib.hid (HW6.out.setBox (j := 3) hcB HOB.out (.int .i64 0))
                  have HP7 := Lib.hid (HP6.out.setB 0)
                  obtain ⟨b0, b1, b2, b3, f2, f3⟩ := HP6.out.cells
                  obtain ⟨l0, l1, l2, l3, m2, m3⟩ := HP7.out.cells
                  go_upto_region 14 with (fail)
                  clear b0 b1 b2 b3 f2 f3
                  generalize (W6.setCell ⟨W2.heap.size, 3, none⟩ (.int .i64 0)) = W7 at *
                  have hoa := Lib.hid (HW7.out.own.alloc (.cells #[.int .i64 (H + (d : Int)), .int .i64 K, .int .i64 A, .int .i64 0] 107))
                  have HNW := Lib.hid (news_fourP W7 ((H + (d : Int))) (K) (A) (0))
                  have hoc : Hid (∀ u ∈ ([.int .i64 (H + (d : Int)), .int .i64 K, .int .i64 A, .int .i64 0] : List Value), u.oneCell' = true) := Lib.hid (by simp [Value.oneCell'])
                  have hn1 : Hid (k + 1 ≤ maxLen) := Lib.hid (by unfold maxLen; omega)
                  have hn2 : Hid ((k + 1) * 32 ≤ 140737488355328) := Lib.hid (by omega)
                  have hsz : Hid (B ≤ (W7.alloc (.cells #[.int .i64 (H + (d : Int)), .int .i64 K, .int .i64 A, .int .i64 0] 107)).heap.size) := Lib.hid (by have := HW7.out.ne.2.2.2.2.2; simp; omega)
                  go_wp2_with (at_builtin; refine wpList_append_own _ rfl (.tmp 44) (.tmp 46) 88 rfl B 107 i0 (.agg #[.int .i64 0, .int .i64 0, .int .i64 0, .int .i64 0]) 4 32 Tryd.underlying88 HI.out HZ0.out HZ1.out HZ2.out rfl (by decide) _ k (flatG gv k) rfl hoa.out ⟨W7.heap.size, 0, none⟩ 1 1 [.int .i64 (H + (d : Int)), .int .i64 K, .int .i64 A, .int .i64 0] rfl rfl HNW.out hoc.out hn1.out hn2.out hsz.out ?_; intro v5 w5 hown5 hgrow5 hnil5; clear hnil5)
                  have hps := HW7.out.push hown5 hgrow5
                  have HPS := Lib.hid hps
                  clear hps hown5 hgrow5
                  go_roundw
                  case rel => exact .inr ⟨b', _, k + 1, _, _, rfl, by omega, by omega, by omega, HPS.out.1⟩
                  case measure => rw [HML.out, leftP_err HPS.out.1.box]; omega
              · have C3 := Lib.hid hC3
                clear hC3
                refine (read_bad a HW3.out bs HS.out HR.out hm (by omega) (by omega) (by omega) HB8.out C3.out).mono ?_
                rintro e W4 ⟨rfl, ⟨p', b', hsW4⟩, hgW4⟩
                have HW4 := Lib.hid hsW4
                have HGW4 := Lib.hid hgW4
                clear hsW4 hgW4
                have HP4 := Lib.hid (HPK.out.kept HGW4.out (by omega))
                obtain ⟨b0, b1, b2, b3, f2, f3⟩ := HP4.out.cells
                have HW5 := Lib.hid (HW4.out.setBox (j := 2) hcB HOB.out (.int .i64 0))
                have HP5 := Lib.hid (HP4.out.setA 0)
                obtain ⟨e0, e1, e2, e3, g2, g3⟩ := HP5.out.cells
                go_wp2_with fail
                clear b0 b1 b2 b3 f2 f3
                generalize (W4.setCell ⟨W2.heap.size, 2, none⟩ (.int .i64 0)) = W5 at *
                refine (read_err HW5.out).mono ?_
                rintro e wz ⟨rfl, rfl⟩
                have HW7 := Lib.hid (HW5.out.setBox (j := 3) hcB HOB.out (.int .i64 0))
                have HP7 := Lib.hid (HP5.out.setB 0)
                obtain ⟨l0, l1, l2, l3, m2, m3⟩ := HP7.out.cells
                go_upto_region 14 with (fail)
                clear e0 e1 e2 e3 g2 g3
                generalize (W5.setCell ⟨W2.heap.size, 3, none⟩ (.int .i64 0)) = W7 at *
                have hoa := Lib.hid (HW7.out.own.alloc (.cells #[.int .i64 (H + (d : Int)), .int .i64 K, .int .i64 0, .int .i64 0] 107))
                have HNW := Lib.hid (news_fourP W7 ((H + (d : Int))) (K) (0) (0))
                have hoc : Hid (∀ u ∈ ([.int .i64 (H + (d : Int)), .int .i64 K, .int .i64 0, .int .i64 0] : List Value), u.oneCell' = true) := Lib.hid (by simp [Value.oneCell'])
                have hn1 : Hid (k + 1 ≤ maxLen) := Lib.hid (by unfold maxLen; omega)
                have hn2 : Hid ((k + 1) * 32 ≤ 140737488355328) := Lib.hid (by omega)
                have hsz : Hid (B ≤ (W7.alloc (.cells #[.int .i64 (H + (d : Int)), .int .i64 K, .int .i64 0, .int .i64 0] 107)).heap.size) := Lib.hid (by have := HW7.out.ne.2.2.2.2.2; simp; omega)
                go_wp2_with (at_builtin; refine wpList_append_own _ rfl (.tmp 44) (.tmp 46) 88 rfl B 107 i0 (.agg #[.int .i64 0, .int .i64 0, .int .i64 0, .int .i64 0]) 4 32 Tryd.underlying88 HI.out HZ0.out HZ1.out HZ2.out rfl (by decide) _ k (flatG gv k) rfl hoa.out ⟨W7.heap.size, 0, none⟩ 1 1 [.int .i64 (H + (d : Int)), .int .i64 K, .int .i64 0, .int .i64 0] rfl rfl HNW.out hoc.out hn1.out hn2.out hsz.out ?_; intro v5 w5 hown5 hgrow5 hnil5; clear hnil5)
                have hps := HW7.out.push hown5 hgrow5
                have HPS := Lib.hid hps
                clear hps hown5 hgrow5
                go_roundw
                case rel => exact .inr ⟨b', _, k + 1, _, _, rfl, by omega, by omega, by omega, HPS.out.1⟩
                case measure => rw [HML.out, leftP_err HPS.out.1.box]; omega
            · by_cases k5 : K = 5
              · have t3 : ((K : Int) == 3) = false := by simp; omega
                have t5 : ((K : Int) == 5) = true := by simp; omega
                have HK3 := Lib.hid k3
                have HK5 := Lib.hid k5
                clear k3 k5
                go_wp2_with fail
                generalize (W2.alloc (.cells #[.int .i64 (H + (d : Int)), .int .i64 K, .int .i64 0, .int .i64 0] 107)) = W3 at *
                rcases num_cases bs (p + k1 + k2) with ⟨Bn, k4, hT4, huBn⟩ | hC4
                · have T4 := Lib.hid hT4
                  obtain ⟨hkE4, hlk4, hpk4, _⟩ := took bs _ (p + k1 + k2) Bn k4 HB8.out E2.out hT4
                  rw [hlen] at hlk4
                  have E4 := Lib.hid hkE4
                  clear hT4 hkE4
                  refine (read_ok HW3.out bs Bn k4 HR.out (by omega) T4.out (by omega)).mono ?_
                  rintro e W6 ⟨rfl, hsW6, hgW6⟩
                  have HW6 := Lib.hid hsW6
                  have HGW6 := Lib.hid hgW6
                  clear hsW6 hgW6
                  have HP6 := Lib.hid (HPK.out.kept HGW6.out (by omega))
                  have HW7 := Lib.hid (HW6.out.setBox (j := 3) hcB HOB.out (.int .i64 Bn))
                  have HP7 := Lib.hid (HP6.out.setB Bn)
                  obtain ⟨b0, b1, b2, b3, f2, f3⟩ := HP6.out.cells
                  obtain ⟨l0, l1, l2, l3, m2, m3⟩ := HP7.out.cells
                  go_upto_region 14 with (fail)
                  clear b0 b1 b2 b3 f2 f3
                  generalize (W6.setCell ⟨W2.heap.size, 3, none⟩ (.int .i64 Bn)) = W7 at *
                  have HEND : Hid (bs.take (p + k1 + k2 + k4) = printL (plus gv k (H + (d : Int)) K ((0 : Nat) : Int) Bn) (k + 1)) := Lib.hid (by
                    have hk3 := HK3.out
                    have hk5 := HK5.out
                    rw [plus_print gv k d K 0 Bn _ (by rw [HHH.out]), E4.out, if_neg hk3, if_pos (.inr hk5)]
                    simp)
                  have hoa := Lib.hid (HW7.out.own.alloc (.cells #[.int .i64 (H + (d : Int)), .int .i64 K, .int .i64 0, .int .i64 Bn] 107))
                  have HNW := Lib.hid (news_fourP W7 ((H + (d : Int))) (K) (0) (Bn))
                  have hoc : Hid (∀ u ∈ ([.int .i64 (H + (d : Int)), .int .i64 K, .int .i64 0, .int .i64 Bn] : List Value), u.oneCell' = true) := Lib.hid (by simp [Value.oneCell'])
                  have hn1 : Hid (k + 1 ≤ maxLen) := Lib.hid (by unfold maxLen; omega)
                  have hn2 : Hid ((k + 1) * 32 ≤ 140737488355328) := Lib.hid (by omega)
                  have hsz : Hid (B ≤ (W7.alloc (.cells #[.int .i64 (H + (d : Int)), .int .i64 K, .int .i64 0, .int .i64 Bn] 107)).heap.size) := Lib.hid (by have := HW7.out.ne.2.2.2.2.2; simp; omega)
                  go_wp2_with (at_builtin; refine wpList_append_own _ rfl (.tmp 44) (.tmp 46) 88 rfl B 107 i0 (.agg #[.int .i64 0, .int .i64 0, .int .i64 0, .int .i64 0]) 4 32 Tryd.underlying88 HI.out HZ0.out HZ1.out HZ2.out rfl (by decide) _ k (flatG gv k) rfl hoa.out ⟨W7.heap.size, 0, none⟩ 1 1 [.int .i64 (H + (d : Int)), .int .i64 K, .int .i64 0, .int .i64 Bn] rfl rfl HNW.out hoc.out hn1.out hn2.out hsz.out ?_; intro v5 w5 hown5 hgrow5 hnil5; clear hnil5)
                  have hps := HW7.out.push hown5 hgrow5
                  have HPS := Lib.hid hps
                  clear hps hown5 hgrow5
                  go_roundw
                  case rel => exact .inl ⟨k + 1, _, plus gv k (H + (d : Int)) (K) (0) (Bn), by omega, by omega, HEND.out, by rw [plus_ahead], by rw [plus_ahead]; omega, by rw [plus_ahead]; omega, by rw [plus_flat]; exact HPS.out.1⟩
                  case measure => rw [HML.out, leftP_ok HPS.out.1.box]; omega
                · have C4 := Lib.hid hC4
                  clear hC4
                  refine (read_bad a HW3.out bs HS.out HR.out hm (by omega) (by omega) (by omega) HB8.out C4.out).mono ?_
                  rintro e W6 ⟨rfl, ⟨p', b', hsW6⟩, hgW6⟩
                  have HW6 := Lib.hid hsW6
                  have HGW6 := Lib.hid hgW6
                  clear hsW6 hgW6
                  have HP6 := Lib.hid (HPK.out.kept HGW6.out (by omega))
                  have HW7 := Lib.hid (HW6.out.setBox (j := 3) hcB HOB.out (.int .i64 0))
                  have HP7 := Lib.hid (HP6.out.setB 0)
                  obtain ⟨b0, b1, b2, b3, f2, f3⟩ := HP6.out.cells
                  obtain ⟨l0, l1, l2, l3, m2, m3⟩ := HP7.out.cells
                  go_upto_region 14 with (fail)
                  clear b0 b1 b2 b3 f2 f3
                  generalize (W6.setCell ⟨W2.heap.size, 3, none⟩ (.int .i64 0)) = W7 at *
                  have hoa := Lib.hid (HW7.out.own.alloc (.cells #[.int .i64 (H + (d : Int)), .int .i64 K, .int .i64 0, .int .i64 0] 107))
                  have HNW := Lib.hid (news_fourP W7 ((H + (d : Int))) (K) (0) (0))
                  have hoc : Hid (∀ u ∈ ([.int .i64 (H + (d : Int)), .int .i64 K, .int .i64 0, .int .i64 0] : List Value), u.oneCell' = true) := Lib.hid (by simp [Value.oneCell'])
                  have hn1 : Hid (k + 1 ≤ maxLen) := Lib.hid (by unfold maxLen; omega)
                  have hn2 : Hid ((k + 1) * 32 ≤ 140737488355328) := Lib.hid (by omega)
                  have hsz : Hid (B ≤ (W7.alloc (.cells #[.int .i64 (H + (d : Int)), .int .i64 K, .int .i64 0, .int .i64 0] 107)).heap.size) := Lib.hid (by have := HW7.out.ne.2.2.2.2.2; simp; omega)
                  go_wp2_with (at_builtin; refine wpList_append_own _ rfl (.tmp 44) (.tmp 46) 88 rfl B 107 i0 (.agg #[.int .i64 0, .int .i64 0, .int .i64 0, .int .i64 0]) 4 32 Tryd.underlying88 HI.out HZ0.out HZ1.out HZ2.out rfl (by decide) _ k (flatG gv k) rfl hoa.out ⟨W7.heap.size, 0, none⟩ 1 1 [.int .i64 (H + (d : Int)), .int .i64 K, .int .i64 0, .int .i64 0] rfl rfl HNW.out hoc.out hn1.out hn2.out hsz.out ?_; intro v5 w5 hown5 hgrow5 hnil5; clear hnil5)
                  have hps := HW7.out.push hown5 hgrow5
                  have HPS := Lib.hid hps
                  clear hps hown5 hgrow5
                  go_roundw
                  case rel => exact .inr ⟨b', _, k + 1, _, _, rfl, by omega, by omega, by omega, HPS.out.1⟩
                  case measure => rw [HML.out, leftP_err HPS.out.1.box]; omega
              · have t3 : ((K : Int) == 3) = false := by simp; omega
                have t5 : ((K : Int) == 5) = false := by simp; omega
                have HEND : Hid (bs.take (p + k1 + k2) = printL (plus gv k (H + (d : Int)) K ((0 : Nat) : Int) ((0 : Nat) : Int)) (k + 1)) := Lib.hid (by
                  rw [plus_print gv k d K 0 0 _ (by rw [HHH.out]), E2.out, if_neg k3, if_neg (by omega)]
                  simp)
                clear k3 k5
                obtain ⟨e0, e1, e2, e3, g2, g3⟩ := HPK.out.cells
                go_upto_region 14 with (fail)
                generalize (W2.alloc (.cells #[.int .i64 (H + (d : Int)), .int .i64 K, .int .i64 0, .int .i64 0] 107)) = W7 at *
                have hoa := Lib.hid (HW3.out.own.alloc (.cells #[.int .i64 (H + (d : Int)), .int .i64 K, .int .i64 0, .int .i64 0] 107))
                have HNW := Lib.hid (news_fourP W7 ((H + (d : Int))) (K) (0) (0))
                have hoc : Hid (∀ u ∈ ([.int .i64 (H + (d : Int)), .int .i64 K, .int .i64 0, .int .i64 0] : List Value), u.oneCell' = true) := Lib.hid (by simp [Value.oneCell'])
                have hn1 : Hid (k + 1 ≤ maxLen) := Lib.hid (by unfold maxLen; omega)
                have hn2 : Hid ((k + 1) * 32 ≤ 140737488355328) := Lib.hid (by omega)
                have hsz : Hid (B ≤ (W7.alloc (.cells #[.int .i64 (H + (d : Int)), .int .i64 K, .int .i64 0, .int .i64 0] 107)).heap.size) := Lib.hid (by have := HW3.out.ne.2.2.2.2.2; simp; omega)
                go_wp2_with (at_builtin; refine wpList_append_own _ rfl (.tmp 44) (.tmp 46) 88 rfl B 107 i0 (.agg #[.int .i64 0, .int .i64 0, .int .i64 0, .int .i64 0]) 4 32 Tryd.underlying88 HI.out HZ0.out HZ1.out HZ2.out rfl (by decide) _ k (flatG gv k) rfl hoa.out ⟨W7.heap.size, 0, none⟩ 1 1 [.int .i64 (H + (d : Int)), .int .i64 K, .int .i64 0, .int .i64 0] rfl rfl HNW.out hoc.out hn1.out hn2.out hsz.out ?_; intro v5 w5 hown5 hgrow5 hnil5; clear hnil5)
                have hps := HW3.out.push hown5 hgrow5
                have HPS := Lib.hid hps
                clear hps hown5 hgrow5
                go_roundw
                case rel => exact .inl ⟨k + 1, _, plus gv k (H + (d : Int)) (K) (0) (0), by omega, by omega, HEND.out, by rw [plus_ahead], by rw [plus_ahead]; omega, by rw [plus_ahead]; omega, by rw [plus_flat]; exact HPS.out.1⟩
                case measure => rw [HML.out, leftP_ok HPS.out.1.box]; omega
          · have C2 := Lib.hid hC2
            clear hC2
            refine (read_bad a HW1.out bs HS.out HR.out hm (by omega) (by omega) (by omega) HB8.out C2.out).mono ?_
            rintro e W2 ⟨rfl, ⟨p', b', hsW2⟩, hgW2⟩
            have HW2 := Lib.hid hsW2
            have HGW2 := Lib.hid hgW2
            clear hsW2 hgW2
            have hW3 := HW2.out.below ((Below.refl W2.heap.size W2).alloc (Nat.le_refl _) (.cells #[.int .i64 (H + (d : Int)), .int .i64 0, .int .i64 0, .int .i64 0] 107))
            have HW3 := Lib.hid hW3
            have HPK := Lib.hid (PkB.new W2 (H + (d : Int)) 0 0 0)
            clear hW3
            obtain ⟨e0, e1, e2, e3, g2, g3⟩ := HPK.out.cells
            go_upto_region 14 with (fail)
            generalize (W2.alloc (.cells #[.int .i64 (H + (d : Int)), .int .i64 0, .int .i64 0, .int .i64 0] 107)) = W7 at *
            have hoa := Lib.hid (HW3.out.own.alloc (.cells #[.int .i64 (H + (d : Int)), .int .i64 0, .int .i64 0, .int .i64 0] 107))
            have HNW := Lib.hid (news_fourP W7 ((H + (d : Int))) (0) (0) (0))
            have hoc : Hid (∀ u ∈ ([.int .i64 (H + (d : Int)), .int .i64 0, .int .i64 0, .int .i64 0] : List Value), u.oneCell' = true) := Lib.hid (by simp [Value.oneCell'])
            have hn1 : Hid (k + 1 ≤ maxLen) := Lib.hid (by unfold maxLen; omega)
            have hn2 : Hid ((k + 1) * 32 ≤ 140737488355328) := Lib.hid (by omega)
            have hsz : Hid (B ≤ (W7.alloc (.cells #[.int .i64 (H + (d : Int)), .int .i64 0, .int .i64 0, .int .i64 0] 107)).heap.size) := Lib.hid (by have := HW3.out.ne.2.2.2.2.2; simp; omega)
            go_wp2_with (at_builtin; refine wpList_append_own _ rfl (.tmp 44) (.tmp 46) 88 rfl B 107 i0 (.agg #[.int .i64 0, .int .i64 0, .int .i64 0, .int .i64 0]) 4 32 Tryd.underlying88 HI.out HZ0.out HZ1.out HZ2.out rfl (by decide) _ k (flatG gv k) rfl hoa.out ⟨W7.heap.size, 0, none⟩ 1 1 [.int .i64 (H + (d : Int)), .int .i64 0, .int .i64 0, .int .i64 0] rfl rfl HNW.out hoc.out hn1.out hn2.out hsz.out ?_; intro v5 w5 hown5 hgrow5 hnil5; clear hnil5)
            have hps := HW3.out.push hown5 hgrow5
            have HPS := Lib.hid hps
            clear hps hown5 hgrow5
            go_roundw
            case rel => exact .inr ⟨b', _, k + 1, _, _, rfl, by omega, by omega, by omega, HPS.out.1⟩
            case measure => rw [HML.out, leftP_err HPS.out.1.box]; omega
        · have C1 := Lib.hid hC1
          clear hC1
          refine (read_bad a H0.out bs HS.out HR.out hm (by omega) (by omega) (by omega) HB8.out C1.out).mono ?_
          rintro e W1 ⟨rfl, ⟨p', b', hsW1⟩, hgW1⟩
          have HW1 := Lib.hid hsW1
          have HGW1 := Lib.hid hgW1
          clear hsW1 hgW1
          go_wp2_with fail
          refine (read_err HW1.out).mono ?_
          rintro e wz ⟨rfl, rfl⟩
          have hW3 := HW1.out.below ((Below.refl W1.heap.size W1).alloc (Nat.le_refl _) (.cells #[.int .i64 H, .int .i64 0, .int .i64 0, .int .i64 0] 107))
          have HW3 := Lib.hid hW3
          have HPK := Lib.hid (PkB.new W1 H 0 0 0)
          clear hW3
          obtain ⟨e0, e1, e2, e3, g2, g3⟩ := HPK.out.cells
          go_upto_region 14 with (fail)
          generalize (W1.alloc (.cells #[.int .i64 H, .int .i64 0, .int .i64 0, .int .i64 0] 107)) = W7 at *
          have hoa := Lib.hid (HW3.out.own.alloc (.cells #[.int .i64 H, .int .i64 0, .int .i64 0, .int .i64 0] 107))
          have HNW := Lib.hid (news_fourP W7 (H) (0) (0) (0))
          have hoc : Hid (∀ u ∈ ([.int .i64 H, .int .i64 0, .int .i64 0, .int .i64 0] : List Value), u.oneCell' = true) := Lib.hid (by simp [Value.oneCell'])
          have hn1 : Hid (k + 1 ≤ maxLen) := Lib.hid (by unfold maxLen; omega)
          have hn2 : Hid ((k + 1) * 32 ≤ 140737488355328) := Lib.hid (by omega)
          have hsz : Hid (B ≤ (W7.alloc (.cells #[.int .i64 H, .int .i64 0, .int .i64 0, .int .i64 0] 107)).heap.size) := Lib.hid (by have := HW3.out.ne.2.2.2.2.2; simp; omega)
          go_wp2_with (at_builtin; refine wpList_append_own _ rfl (.tmp 44) (.tmp 46) 88 rfl B 107 i0 (.agg #[.int .i64 0, .int .i64 0, .int .i64 0, .int .i64 0]) 4 32 Tryd.underlying88 HI.out HZ0.out HZ1.out HZ2.out rfl (by decide) _ k (flatG gv k) rfl hoa.out ⟨W7.heap.size, 0, none⟩ 1 1 [.int .i64 H, .int .i64 0, .int .i64 0, .int .i64 0] rfl rfl HNW.out hoc.out hn1.out hn2.out hsz.out ?_; intro v5 w5 hown5 hgrow5 hnil5; clear hnil5)
          have hps := HW3.out.push hown5 hgrow5
          have HPS := Lib.hid hps
          clear hps hown5 hgrow5
          go_roundw
          case rel => exact .inr ⟨b', _, k + 1, _, _, rfl, by omega, by omega, by omega, HPS.out.1⟩
          case measure => rw [HML.out, leftP_err HPS.out.1.box]; omega
      · have t1 : decide (p < n) = false := by simpa using hlt
        have hlen := HLEN.out
        have HBS : Hid (bs = printL gv k) := Lib.hid (by rw [← E0.out, List.take_of_length_le (by omega)])
        have EO := Lib.hid (err_ok _ _ n bc p W0 H0.out.box)
        have q := H0.out.cell
        have HS0 : Hid (Sents4 a W0) := Lib.hid (HS4.out.below H0.out.bel)
        obtain ⟨oa, oc, hv⟩ := own_shape H0.out.own
        have ho := H0.out.own
        rw [hv] at ho
        obtain ⟨_, _, he1, hpk⟩ := picks_ownG (gv := gv) ho (fun i j hi hj => flatG_get gv k i j hi hj)
        cases he1
        have HPK := Lib.hid hpk
        have HB0 := Lib.hid H0.out.bel
        clear ho hpk H0
        subst hv
        go_wp2_with fail
        refine EO.out.mono ?_
        rintro e wz ⟨rfl, rfl⟩
        by_cases h400 : k ≤ 400
        · obtain ⟨j, h1, h2, h3⟩ := first_bad gv k
          have MA := Lib.hid (may_list4 a _ k oc gv j _ HS0.out HPK.out h400 h1 h2 h3)
          have HFK : Hid (j = k → FairP gv k) := Lib.hid fun e => by subst e; exact h2
          clear h1 h2 h3
          go_wp2_with fail
          refine MA.out.mono ?_
          rintro e w9 ⟨hb9, ⟨hj, rfl⟩ | ⟨hlt9, b', rfl, _, _⟩⟩
          · have FIN : Hid (ParseA bs w (.returned (.tuple #[.slice oa k oc, .nilIface])) w9) := Lib.hid ⟨HB0.out.trans (hb9.mono HB0.out.size), .inl ⟨k, gv, oa, oc, h400, HFK.out hj, HBS.out, rfl, HPK.out.below hb9⟩⟩
            clear hb9 q EO hj
            go_wp2_with fail
            go_ret2
            exact FIN.out
          · have FIN : Hid (ParseA bs w (.returned (.tuple #[.slice none 0 0, .iface 164 (.pointer (some ⟨b', 0, none⟩))])) w9) := Lib.hid ⟨HB0.out.trans (hb9.mono HB0.out.size), .inr ⟨_, _, rfl⟩⟩
            clear hb9 q EO
            go_wp2_with fail
            go_ret2
            exact FIN.out
        · have MA := Lib.hid (may_many4 a oa k oc _ HS0.out HPK.out.max HPK.out.le (by omega))
          have FIN : Hid (ParseA bs w (.returned (.tuple #[.slice none 0 0, .iface 211 (.pointer (some (a 0)))])) W0) := Lib.hid ⟨HB0.out, .inr ⟨_, _, rfl⟩⟩
          obtain ⟨x, hx⟩ : ∃ x, a 0 = x := ⟨_, rfl⟩
          rw [hx] at MA FIN
          clear hx
          go_wp2_with fail
          refine MA.out.mono ?_
          rintro e w9 ⟨rfl, rfl⟩
          go_wp2_with fail
          go_ret2
          exact FIN.out
    · clear R0
      have HST := Lib.hid hst
      have MK := Lib.hid (more_err _ _ n bc p b' wr hst.box)
      have q := hst.cell
      clear hst
      go_wp2_with fail
      refine MK.out.mono ?_
      rintro e wm ⟨rfl, nq, rfl⟩
      have h0 := HST.out.below (below_drewN (Below.refl _ _) nq)
      have H0 := Lib.hid h0
      clear q MK h0 HST
      generalize wr.drewN nq = W0 at *
      have EO := Lib.hid (err_err _ _ n bc p b' W0 H0.out.box)
      have q := H0.out.cell
      have FIN : Hid (ParseA bs w (.returned (.tuple #[.slice none 0 0, .iface 164 (.pointer (some ⟨b', 0, none⟩))])) W0) := Lib.hid ⟨H0.out.bel, .inr ⟨_, _, rfl⟩⟩
      clear H0
      go_wp2_with fail
      refine EO.out.mono ?_
      rintro e wz ⟨rfl, rfl⟩
      go_wp2_with fail
      go_ret2
      exact FIN.out

end Go.Proofs.YtjcklfbpdjfibaaDoor

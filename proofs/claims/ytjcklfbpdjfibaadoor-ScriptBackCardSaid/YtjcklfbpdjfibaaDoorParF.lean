/-
  Package script: Parse of the printed text of any picks that may be.
-/
import Derived.Test.YtjcklfbpdjfibaaDoorPar0
import Derived.Test.YtjcklfbpdjfibaaDoorS6
namespace Go.Proofs.YtjcklfbpdjfibaaDoor
open Go.RowKit

def PfRel (w : World) (q0 r B : Nat) (ba : Option Addr) (n bc : Nat) (gv : Nat → Nat → Int) (len : Nat) (sl sa : Value) (wr : World) : Prop :=
  ∃ k : Nat, k ≤ len ∧ (printL gv k).length ≤ n ∧ sa = .int .i64 (aheadOf gv k) ∧ St w q0 r B ba n bc (printL gv k).length .nilIface sl k (flatG gv k) wr

def ParseF (gv : Nat → Nat → Int) (len : Nat) (w : World) (e : Ending) (w' : World) : Prop :=
  Below w.heap.size w w' ∧ ∃ (oa : Option Addr) (oc : Nat), e = .returned (.tuple #[.slice oa len oc, .nilIface]) ∧ Picks w' oa len oc gv

theorem printL_upto (gv : Nat → Nat → Int) (k len : Nat) (h : k ≤ len) : (printL gv k).length ≤ (printL gv len).length := by
  rcases Nat.lt_or_ge k len with h1 | h1
  · exact Nat.le_of_lt (printL_mono gv k len h1)
  · obtain rfl : k = len := by omega
    exact Nat.le_refl _

set_option maxHeartbeats 16000000 in
set_option maxRecDepth 100000 in
theorem parse_full (a : Nat → Addr) (ba : Option Addr) (n bc len : Nat) (gv : Nat → Nat → Int) (w : World) (hS : Sents6 a w) (hS4 : Sents4 a w) (hr : Row .u8 w ba n bc (intsR (printL gv len))) (hl : len ≤ 400) (hf : FairP gv len) (hn : n = (printL gv len).length) (_hm : bc ≤ maxLen) :
    Calls Tryd.prog 67 #[.slice ba n bc] w (ParseF gv len w) := by
  rw [show printL gv len = (printL gv len).take n by rw [hn, List.take_length]] at hr
  have HS := Lib.hid hS
  have HS4 := Lib.hid hS4
  have HR := Lib.hid hr
  have HF := Lib.hid hf
  have HN := Lib.hid hn
  have hnl : n ≤ 16000 := by have := printL_le gv len; omega
  have d1 : decide ((16384 : Int) < (n : Int)) = false := by simp; omega
  obtain ⟨i0, hi, hz0, hz1, hz2⟩ := info_parts pickinfoG
  have HI := Lib.hid hi
  have HZ0 := Lib.hid hz0
  have HZ1 := Lib.hid hz1
  have HZ2 := Lib.hid hz2
  clear hS hS4 hr hf hi hz0 hz1 hz2 hn
  go_enter Tryd.func67, Tryd.ntmps67
  go_wp2_with fail
  refine (new_reader _ n bc _).mono ?_
  rintro e w1 ⟨rfl, hbx, hb1⟩
  have hled := heap_alloc_new w1 (.cells #[.pointer (some ⟨w.heap.size, 0, none⟩)] 140)
  have hbx2 := hbx.stays ((Below.refl w1.heap.size w1).alloc (Nat.le_refl _) (.cells #[.pointer (some ⟨w.heap.size, 0, none⟩)] 140))
  have hb2 := hb1.alloc hb1.size (.cells #[.pointer (some ⟨w.heap.size, 0, none⟩)] 140)
  have hrl : w.heap.size < w1.heap.size := (Array.getElem?_eq_some_iff.1 hbx).1
  have hsz2 : (w1.alloc (.cells #[.pointer (some ⟨w.heap.size, 0, none⟩)] 140)).heap.size = w1.heap.size + 1 := by simp
  clear hbx hb1
  go_wp2_with fail
  obtain ⟨q0, hq⟩ : ∃ q0, w1.heap.size = q0 := ⟨_, rfl⟩
  rw [hq] at hled hrl hsz2 ⊢
  generalize (w1.alloc (.cells #[.pointer (some ⟨w.heap.size, 0, none⟩)] 140)) = w2 at *
  obtain ⟨B, hB⟩ : ∃ B, w2.heap.size = B := ⟨_, rfl⟩
  have R0 : Hid (PfRel w q0 w.heap.size B ba n bc gv len (.slice none 0 0) (.int .i64 0) w2) := Lib.hid (⟨0, Nat.zero_le _, Nat.zero_le _, rfl, hbx2, hled, World.ownsRow_nil _ _ _ _, hb2, by omega, Nat.le_refl _, by omega, by omega, by omega, by omega⟩)
  obtain ⟨r, hr⟩ : ∃ r, w.heap.size = r := ⟨_, rfl⟩
  rw [hr] at R0
  rw [hr]
  have HRR := Lib.hid hr
  clear hq hB hr hled hbx2 hb2 hrl hsz2
  go_loopw [6, 7] (fun sl sa wr => PfRel w q0 r B ba n bc gv len sl sa wr) (fun _ _ wr => leftP r n wr)
  case atStart => exact R0.out
  case round =>
    obtain ⟨k, hk, hpn, rfl, hst⟩ := hrel
    · clear R0
      have HST := Lib.hid hst
      have HML := Lib.hid (leftP_ok hst.box)
      have MK := Lib.hid (more_ok _ _ n bc (printL gv k).length wr hst.box)
      have q := hst.cell
      clear hst
      go_wp2_with fail
      refine MK.out.mono ?_
      rintro e wm ⟨rfl, nq, rfl⟩
      have h0 := HST.out.below (below_drewN (Below.refl _ _) nq)
      have H0 := Lib.hid h0
      clear q MK h0 HST
      generalize wr.drewN nq = W0 at *
      by_cases hlt : (printL gv k).length < n
      · have t1 : decide ((printL gv k).length < n) = true := by simpa using hlt
        have hkl : k < len := by
          rcases Nat.lt_or_ge k len with h | h
          · exact h
          · obtain rfl : k = len := by omega
            have := HN.out
            omega
        obtain ⟨n1, n2, n3, n4, n5, n6, n7, n8, n9, n10, n11⟩ := fair_nums HF.out hkl
        obtain ⟨d, hd⟩ : ∃ d : Nat, gv k 0 - aheadOf gv k = d := ⟨(gv k 0 - aheadOf gv k).toNat, by omega⟩
        obtain ⟨K, hK⟩ : ∃ K : Nat, gv k 1 = K := ⟨(gv k 1).toNat, by omega⟩
        obtain ⟨A, hA⟩ : ∃ A : Nat, gv k 2 = A := ⟨(gv k 2).toNat, by omega⟩
        obtain ⟨Bn, hBn⟩ : ∃ Bn : Nat, gv k 3 = Bn := ⟨(gv k 3).toNat, by omega⟩
        obtain ⟨r1, r2, r3, r4, r5, x3, x5, x0⟩ := pick_reads gv len n k d K A Bn HF.out hkl hd hK hA hBn hpn
        have hle : (printL gv (k + 1)).length ≤ n := by rw [HN.out]; exact printL_upto gv (k + 1) len (by omega)
        have C12 : Hid ((printL gv k).length + (encF 9 d).length + (encF 9 K).length ≤ n) := Lib.hid (by
          by_cases k3 : K = 3
          · have := x3 k3; omega
          · by_cases k5 : K = 5
            · have := x5 k5; omega
            · have := x0 k3 k5; omega)
        have C3 : Hid (K = 3 → (printL gv k).length + (encF 9 d).length + (encF 9 K).length + (encF 9 A).length + (encF 9 Bn).length ≤ n) := Lib.hid fun h => by have := x3 h; omega
        have C5 : Hid (K = 5 → (printL gv k).length + (encF 9 d).length + (encF 9 K).length + (encF 9 Bn).length ≤ n) := Lib.hid fun h => by have := x5 h; omega
        clear hle
        have R1 := Lib.hid r1
        have R2 := Lib.hid r2
        have R3 := Lib.hid r3
        have R4 := Lib.hid r4
        have R5 := Lib.hid r5
        have X3 := Lib.hid x3
        have X5 := Lib.hid x5
        have X0 := Lib.hid x0
        have hH1 : aheadOf gv k ≤ 1048576 := by omega
        clear r1 r2 r3 r4 r5 x3 x5 x0
        have HNX : Hid (aheadOf gv (k + 1) = aheadOf gv k + (d : Int)) := Lib.hid (by show gv k 0 = _; omega)
        have HFL : Hid (flatG gv (k + 1) = flatG gv k ++ [.int .i64 (aheadOf gv k + (d : Int)), .int .i64 K, .int .i64 A, .int .i64 Bn]) := Lib.hid (by
          rw [flatG, fourG, hK, hA, hBn, show gv k 0 = aheadOf gv k + (d : Int) by omega])
        have he1 := enc_pos 9 d
        have hdl : d ≤ 1048576 := by omega
        rw [hK] at n4 n5 n8 n11
        rw [hA] at n6 n7 n8
        rw [hBn] at n9 n10 n11
        have N8 := Lib.hid n8
        have N11 := Lib.hid n11
        clear hd hK hA hBn n8 n11 n1 n2
        generalize aheadOf gv k = H at *
        generalize hP : (printL gv k).length = p at *
        have HPP := Lib.hid hP
        clear hP
        go_wp2_with fail
        by_cases c1 : p + (encF 9 d).length ≤ n
        · refine (read_ok H0.out ((printL gv len).take n) d _ HR.out (by omega) (R1.out.1 c1) (by omega)).mono ?_
          rintro e W1 ⟨rfl, hsW1, hgW1⟩
          have HW1 := Lib.hid hsW1
          have HGW1 := Lib.hid hgW1
          clear hsW1 hgW1
          go_wp2_with fail
          by_cases c2 : p + (encF 9 d).length + (encF 9 K).length ≤ n
          · refine (read_ok HW1.out ((printL gv len).take n) K _ HR.out (by omega) ((R2.out c1).1 c2) (by omega)).mono ?_
            rintro e W2 ⟨rfl, hsW2, hgW2⟩
            have HW2 := Lib.hid hsW2
            have HGW2 := Lib.hid hgW2
            clear hsW2 hgW2
            have hob := HW2.out.fresh
            have hW3 := HW2.out.below ((Below.refl W2.heap.size W2).alloc (Nat.le_refl _) (.cells #[.int .i64 (H + (d : Int)), .int .i64 K, .int .i64 0, .int .i64 0] 107))
            have HW3 := Lib.hid hW3
            have HPK := Lib.hid (PkB.new W2 (H + (d : Int)) K 0 0)
            have hcB : B ≤ W2.heap.size := HW2.out.ne.2.2.2.2.2
            have hrB : r < B := HW2.out.ne.2.2.2.1
            have HOB := Lib.hid hob
            clear hob hW3
            by_cases k3 : K = 3
            · have t3 : ((K : Int) == 3) = true := by simp; omega
              have HK3 := Lib.hid k3
              clear k3
              go_wp2_with fail
              generalize (W2.alloc (.cells #[.int .i64 (H + (d : Int)), .int .i64 K, .int .i64 0, .int .i64 0] 107)) = W3 at *
              by_cases c3 : p + (encF 9 d).length + (encF 9 K).length + (encF 9 A).length ≤ n
              · refine (read_ok HW3.out ((printL gv len).take n) A _ HR.out (by omega) ((R3.out HK3.out c2).1 c3) (by omega)).mono ?_
                rintro e W4 ⟨rfl, hsW4, hgW4⟩
                have HW4 := Lib.hid hsW4
                have HGW4 := Lib.hid hgW4
                clear hsW4 hgW4
                have HP4 := Lib.hid (HPK.out.kept HGW4.out (by omega))
                obtain ⟨b0, b1, b2, b3, f2, f3⟩ := HP4.out.cells
                have HW5 := Lib.hid (HW4.out.setBox (j := 2) hcB HOB.out (.int .i64 A))
                have HP5 := Lib.hid (HP4.out.setA A)
                obtain ⟨e0, e1, e2, e3, g2, g3⟩ := HP5.out.cells
                go_wp2_with fail
                clear b0 b1 b2 b3 f2 f3
                generalize (W4.setCell ⟨W2.heap.size, 2, none⟩ (.int .i64 A)) = W5 at *
                by_cases c4 : p + (encF 9 d).length + (encF 9 K).length + (encF 9 A).length + (encF 9 Bn).length ≤ n
                · refine (read_ok HW5.out ((printL gv len).take n) Bn _ HR.out (by omega) ((R4.out HK3.out c3).1 c4) (by omega)).mono ?_
                  rintro e W6 ⟨rfl, hsW6, hgW6⟩
                  have HW6 := Lib.hid hsW6
                  have HGW6 := Lib.hid hgW6
                  clear hsW6 hgW6
                  have HP6 := Lib.hid (HP5.out.kept HGW6.out (by omega))
                  have HW7 := Lib.hid (HW6.out.setBox (j := 3) hcB HOB.out (.int .i64 Bn))
                  have HP7 := Lib.hid (HP6.out.setB Bn)
                  clear e0 e1 e2 e3 g2 g3
                  obtain ⟨b0, b1, b2, b3, f2, f3⟩ := HP6.out.cells
                  obtain ⟨e0, e1, e2, e3, g2, g3⟩ := HP7.out.cells
                  go_upto_region 14 with (fail)
                  clear b0 b1 b2 b3 f2 f3
                  generalize (W6.setCell ⟨W2.heap.size, 3, none⟩ (.int .i64 Bn)) = W7 at *
                  have HEND : Hid ((printL gv (k + 1)).length = p + (encF 9 d).length + (encF 9 K).length + (encF 9 A).length + (encF 9 Bn).length) := Lib.hid (by rw [X3.out HK3.out])
                  have hoa := Lib.hid (HW7.out.own.alloc (.cells #[.int .i64 (H + (d : Int)), .int .i64 K, .int .i64 A, .int .i64 Bn] 107))
                  have HNW := Lib.hid (news_fourP W7 ((H + (d : Int))) (K) (A) (Bn))
                  have hoc : Hid (∀ u ∈ ([.int .i64 (H + (d : Int)), .int .i64 K, .int .i64 A, .int .i64 Bn] : List Value), u.oneCell' = true) := Lib.hid (by simp [Value.oneCell'])
                  have hn1 : Hid (k + 1 ≤ maxLen) := Lib.hid (by unfold maxLen; omega)
                  have hn2 : Hid ((k + 1) * 32 ≤ 140737488355328) := Lib.hid (by omega)
                  have hsz : Hid (B ≤ (W7.alloc (.cells #[.int .i64 (H + (d : Int)), .int .i64 K, .int .i64 A, .int .i64 Bn] 107)).heap.size) := Lib.hid (by have := HW7.out.ne.2.2.2.2.2; simp; omega)
                  go_wp2_with (at_builtin; refine wpList_append_own _ rfl (.tmp 44) (.tmp 46) 88 rfl B 107 i0 (.agg #[.int .i64 0, .int .i64 0, .int .i64 0, .int .i64 0]) 4 32 Tryd.underlying88 HI.out HZ0.out HZ1.out HZ2.out rfl (by decide) _ k (flatG gv k) rfl hoa.out ⟨W7.heap.size, 0, none⟩ 1 1 [.int .i64 (H + (d : Int)), .int .i64 K, .int .i64 A, .int .i64 Bn] rfl rfl HNW.out hoc.out hn1.out hn2.out hsz.out ?_; intro v5 w5 hown5 hgrow5 hnil5; clear hnil5)
                  have hps := HW7.out.push hown5 hgrow5
                  have HPS := Lib.hid hps
                  clear hps hown5 hgrow5
                  go_roundw
                  case rel => exact ⟨k + 1, by omega, by have := HEND.out; omega, by rw [HNX.out], by rw [HFL.out, HEND.out]; exact HPS.out.1⟩
                  case measure => rw [HML.out, leftP_ok HPS.out.1.box]; omega
                · exfalso; have q1 := C3.out HK3.out; omega
              · exfalso; have q1 := C3.out HK3.out; omega
            · by_cases k5 : K = 5
              · have t3 : ((K : Int) == 3) = false := by simp; omega
                have t5 : ((K : Int) == 5) = true := by simp; omega
                have HK5 := Lib.hid k5
                have hA0 : (A : Int) = 0 := N8.out (by omega)
                have HA0 := Lib.hid hA0
                clear hA0 k5
                go_wp2_with fail
                generalize (W2.alloc (.cells #[.int .i64 (H + (d : Int)), .int .i64 K, .int .i64 0, .int .i64 0] 107)) = W3 at *
                by_cases c3 : p + (encF 9 d).length + (encF 9 K).length + (encF 9 Bn).length ≤ n
                · refine (read_ok HW3.out ((printL gv len).take n) Bn _ HR.out (by omega) ((R5.out HK5.out c2).1 c3) (by omega)).mono ?_
                  rintro e W6 ⟨rfl, hsW6, hgW6⟩
                  have HW6 := Lib.hid hsW6
                  have HGW6 := Lib.hid hgW6
                  clear hsW6 hgW6
                  have HP6 := Lib.hid (HPK.out.kept HGW6.out (by omega))
                  have HW7 := Lib.hid (HW6.out.setBox (j := 3) hcB HOB.out (.int .i64 Bn))
                  have HP7 := Lib.hid (HP6.out.setB Bn)
                  obtain ⟨b0, b1, b2, b3, f2, f3⟩ := HP6.out.cells
                  obtain ⟨e0, e1, e2, e3, g2, g3⟩ := HP7.out.cells
                  go_upto_region 14 with (fail)
                  clear b0 b1 b2 b3 f2 f3
                  generalize (W6.setCell ⟨W2.heap.size, 3, none⟩ (.int .i64 Bn)) = W7 at *
                  have HEND : Hid ((printL gv (k + 1)).length = p + (encF 9 d).length + (encF 9 K).length + (encF 9 Bn).length) := Lib.hid (by rw [X5.out HK5.out])
                  have hfl := HFL.out
                  rw [HA0.out] at hfl
                  have HFL := Lib.hid hfl
                  clear hfl
                  have hoa := Lib.hid (HW7.out.own.alloc (.cells #[.int .i64 (H + (d : Int)), .int .i64 K, .int .i64 0, .int .i64 Bn] 107))
                  have HNW := Lib.hid (news_fourP W7 ((H + (d : Int))) (K) (0) (Bn))
                  have hoc : Hid (∀ u ∈ ([.int .i64 (H + (d : Int)), .int .i64 K, .int .i64 0, .int .i64 Bn] : List Value), u.oneCell' = true) := Lib.hid (by simp [Value.oneCell'])
                  have hn1 : Hid (k + 1 ≤ maxLen) := Lib.hid (by unfold maxLen; omega)
                  have hn2 : Hid ((k + 1) * 32 ≤ 140737488355328) := Lib.hid (by omega)
                  have hsz : Hid (B ≤ (W7.alloc (.cells #[.int .i64 (H + (d : Int)), .int .i64 K, .int .i64 0, .int .i64 Bn] 107)).heap.size) := Lib.hid (by have := HW7.out.ne.2.2.2.2.2; simp; omega)
                  go_wp2_with (at_builtin; refine wpList_append_own _ rfl (.tmp 44) (.tmp 46) 88 rfl B 107 i0 (.agg #[.int .i64 0, .int .i64 0, .int .i64 0, .int .i64 0]) 4 32 Tryd.underlying88 HI.out HZ0.out HZ1.out HZ2.out rfl (by decide) _ k (flatG gv k) rfl hoa.out ⟨W7.heap.size, 0, none⟩ 1 1 [.int .i64 (H + (d : Int)), .int .i64 K, .int .i64 0, .int .i64 Bn] rfl rfl HNW.out hoc.out hn1.out hn2.out hsz.out ?_; intro v5 w5 hown5 hgrow5 hnil5; clear hnil5)
                  have hps := HW7.out.push hown5 hgrow5
                  have HPS := Lib.hid hps
                  clear hps hown5 hgrow5
                  go_roundw
                  case rel => exact ⟨k + 1, by omega, by have := HEND.out; omega, by rw [HNX.out], by rw [HFL.out, HEND.out]; exact HPS.out.1⟩
                  case measure => rw [HML.out, leftP_ok HPS.out.1.box]; omega
                · exfalso; have q1 := C5.out HK5.out; omega
              · have t3 : ((K : Int) == 3) = false := by simp; omega
                have t5 : ((K : Int) == 5) = false := by simp; omega
                have hA0 : (A : Int) = 0 := N8.out (by omega)
                have hB0 : (Bn : Int) = 0 := N11.out (by omega) (by omega)
                have hfl := HFL.out
                rw [hA0, hB0] at hfl
                have HFL := Lib.hid hfl
                have HEND : Hid ((printL gv (k + 1)).length = p + (encF 9 d).length + (encF 9 K).length) := Lib.hid (by rw [X0.out k3 k5])
                clear hfl hA0 hB0
                obtain ⟨e0, e1, e2, e3, g2, g3⟩ := HPK.out.cells
                go_upto_region 14 with (fail)
                generalize (W2.alloc (.cells #[.int .i64 (H + (d : Int)), .int .i64 K, .int .i64 0, .int .i64 0] 107)) = W7 at *
                have hoa := Lib.hid (HW3.out.own.alloc (.cells #[.int .i64 (H + (d : Int)), .int .i64 K, .int .i64 0, .int .i64 0] 107))
                have HNW := Lib.hid (news_fourP W7 ((H + (d : Int))) (K) (0) (0))
                have hoc : Hid (∀ u ∈ ([.int .i64 (H + (d : Int)), .int .i64 K, .int .i64 0, .int .i64 0] : List Value), u.oneCell' = true) := Lib.hid (by simp [Value.oneCell'])
                have hn1 : Hid (k + 1 ≤ maxLen) := Lib.hid (by unfold maxLen; omega)
                have hn2 : Hid ((k + 1) * 32 ≤ 140737488355328) := Lib.hid (by omega)
                have hsz : Hid (B ≤ (W7.alloc (.cells #[.int .i64 (H + (d : Int)), .int .i64 K, .int .i64 0, .int .i64 0] 107)).heap.size) := Lib.hid (by have := HW3.out.ne.2.2.2.2.2; simp; omega)
                go_wp2_with (at_builtin; refine wpList_append_own _ rfl (.tmp 44) (.tmp 46) 88 rfl B 107 i0 (.agg #[.int .i64 0, .int .i64 0, .int .i64 0, .int .i64 0]) 4 32 Tryd.underlying88 HI.out HZ0.out HZ1.out HZ2.out rfl (by decide) _ k (flatG gv k) rfl hoa.out ⟨W7.heap.size, 0, none⟩ 1 1 [.int .i64 (H + (d : Int)), .int .i64 K, .int .i64 0, .int .i64 0] rfl rfl HNW.out hoc.out hn1.out hn2.out hsz.out ?_; intro v5 w5 hown5 hgrow5 hnil5; clear hnil5)
                have hps := HW3.out.push hown5 hgrow5
                have HPS := Lib.hid hps
                clear hps hown5 hgrow5
                go_roundw
                case rel => exact ⟨k + 1, by omega, by have := HEND.out; omega, by rw [HNX.out], by rw [HFL.out, HEND.out]; exact HPS.out.1⟩
                case measure => rw [HML.out, leftP_ok HPS.out.1.box]; omega
          · exfalso; have q1 := C12.out; omega
        · exfalso; have q1 := C12.out; omega
      · have t1 : decide ((printL gv k).length < n) = false := by simpa using hlt
        have hkl : k = len := by
          rcases Nat.lt_or_ge k len with h | h
          · have h1 := printL_mono gv k len h
            have := HN.out
            omega
          · omega
        have HKL := Lib.hid hkl
        have hk4 : k ≤ 400 := by omega
        clear hkl
        have EO := Lib.hid (err_ok _ _ n bc (printL gv k).length W0 H0.out.box)
        have q := H0.out.cell
        have HS0 : Hid (Sents4 a W0) := Lib.hid (HS4.out.below H0.out.bel)
        obtain ⟨oa, oc, hv⟩ := own_shape H0.out.own
        have ho := H0.out.own
        rw [hv] at ho
        obtain ⟨_, _, he1, hpk⟩ := picks_ownG (gv := gv) ho (fun i j hi hj => flatG_get gv k i j hi hj)
        cases he1
        have HPK := Lib.hid hpk
        have HB0 := Lib.hid H0.out.bel
        have HFK : Hid (FairP gv k) := Lib.hid fun i hi => HF.out i (by omega)
        clear ho hpk H0
        subst hv
        go_wp2_with fail
        refine EO.out.mono ?_
        rintro e wz ⟨rfl, rfl⟩
        go_wp2_with fail
        refine (may_list4 a _ k oc gv k _ HS0.out HPK.out (by omega) (Nat.le_refl _) HFK.out (fun h => absurd h (Nat.lt_irrefl _))).mono ?_
        rintro e w9 ⟨hb9, ⟨_, rfl⟩ | ⟨hlt9, _⟩⟩
        · have FIN : Hid (ParseF gv len w (.returned (.tuple #[.slice oa k oc, .nilIface])) w9) := Lib.hid (by rw [← HKL.out]; exact ⟨HB0.out.trans (hb9.mono HB0.out.size), oa, oc, rfl, HPK.out.below hb9⟩)
          clear hb9 q EO
          go_wp2_with fail
          go_ret2
          exact FIN.out
        · exact absurd hlt9 (Nat.lt_irrefl _)

end Go.Proofs.YtjcklfbpdjfibaaDoor

/-
  MovesAtOnce: the law's own count of rounds.
-/
import Derived.Test.YtflbjfcmnopfaaaDoorMvP
import Derived.Test.YtflbjfcmnopfaaaDoorMvZ
namespace Go.Proofs.YtflbjfcmnopfaaaDoor
open Go.RowKit

def RdRel (l : List (Int × Int)) (len : Nat) (w : World) (s4 s3 : Value) (wr : World) : Prop :=
  ∃ i : Nat, i ≤ len ∧ s4 = .int .i64 i ∧ s3 = .int .i64 (roundsF l i : Nat) ∧ ∃ q, wr = w.drewN q
def StRel (l : List (Int × Int)) (len i rc : Nat) (w : World) (s7 s5 s6 s3 : Value) (wr : World) : Prop :=
  ∃ (st k : Nat) (fi : Bool), s3 = .int .i64 rc ∧ st ≤ len + 1 ∧ k < len ∧ s7 = .int .i64 st ∧ s5 = .int .i64 k ∧ s6 = .bool fi ∧ stepR l i (len + 1 - st) k fi st = firstR l i ∧ ∃ q, wr = w.drewN q
def NxRel (l : List (Int × Int)) (y : Int) (len : Nat) (w : World) (s9 s8 : Value) (wr : World) : Prop :=
  ∃ j : Nat, j ≤ len ∧ s9 = .int .i64 j ∧ s8 = .int .i64 (nxtF l y j) ∧ ∃ q, wr = w.drewN q

theorem rounds_le (l : List (Int × Int)) : ∀ i, roundsF l i ≤ i
  | 0 => Nat.le_refl _
  | i + 1 => by
    have := rounds_le l i
    show roundsF l i + _ ≤ _
    split <;> omega

theorem stepR_next {l : List (Int × Int)} {i f k : Nat} {fi : Bool} {st : Nat} {nx : Int} (h : nxtF l (l.getD k (0, 0)).2 l.length = nx) : stepR l i (f + 1) k fi st = if nx < 0 then false else if nx = i then decide (0 < st) && fi else stepR l i f nx.toNat (fi && decide ((i : Int) < nx)) (st + 1) := by
  rw [← h]
  rfl

set_option maxHeartbeats 4000000 in
set_option maxRecDepth 100000 in
theorem rounds_any (a : Option Addr) (len cap : Nat) (l : List (Int × Int)) (w : World) (hr : MAny w a len cap l) (h60 : len ≤ 60) :
    Calls Tryd.prog 67 #[.slice a len cap] w fun e w' => e = .returned (.int .i64 (roundsF l len : Nat)) ∧ ∃ q, w' = w.drewN q := by
  have hle := hr.le
  have hmax := hr.max
  unfold maxLen at hmax
  have HL := Lib.hid hr.len_eq
  have HR := Lib.hid hr
  have R0 : Hid (RdRel l len w (.int .i64 0) (.int .i64 0) w) := Lib.hid ⟨0, Nat.zero_le _, rfl, rfl, 0, rfl⟩
  clear hr
  go_enter Tryd.func67, Tryd.ntmps67
  go_wp2_with fail
  go_loopw [4, 3] (fun s4 s3 wr => RdRel l len w s4 s3 wr) (fun s4 _ _ => len - (intOf s4).toNat)
  case atStart => exact R0.out
  case round =>
    clear R0
    obtain ⟨i, hi, rfl, rfl, qo, rfl⟩ := hrel
    by_cases hlt : i < len
    · have t1 : decide (i < len) = true := by simpa using hlt
      have S0 : Hid (StRel l len i (roundsF l i) w (.int .i64 0) (.int .i64 i) (.bool true) (.int .i64 (roundsF l i : Nat)) (w.drewN qo)) := Lib.hid ⟨0, i, true, rfl, Nat.zero_le _, hlt, rfl, rfl, rfl, by unfold firstR; rw [HL.out]; rfl, qo, rfl⟩
      have hrn : roundsF l (i + 1) = roundsF l i + (if firstR l i = true then 1 else 0) := rfl
      have HRN := Lib.hid hrn
      have HRL := Lib.hid (rounds_le l i)
      generalize roundsF l i = rc at *
      clear hrn
      go_wp2_with fail
      go_loopw [7, 5, 6, 3] (fun s7 s5 s6 s3 wr => StRel l len i rc w s7 s5 s6 s3 wr) (fun s7 _ _ _ _ => len + 1 - (intOf s7).toNat)
      case atStart => exact S0.out
      case round =>
        clear S0
        obtain ⟨st, k, fi, rfl, hst, hk, rfl, rfl, rfl, hs, qm, rfl⟩ := hrel
        by_cases hle2 : st ≤ len
        · have t2 : decide (st ≤ len) = true := by simpa using hle2
          obtain ⟨f, hf⟩ : ∃ f, len + 1 - st = f + 1 := ⟨len - st, by omega⟩
          have hf2 : f = len + 1 - (st + 1) := by omega
          rw [hf] at hs
          obtain ⟨nx, hnx⟩ : ∃ nx, nxtF l (l.getD k (0, 0)).2 l.length = nx := ⟨_, rfl⟩
          rw [stepR_next hnx] at hs
          have hnl := nxtF_le l (l.getD k (0, 0)).2 l.length
          rw [hnx, HL.out] at hnl
          rw [HL.out] at hnx
          obtain ⟨b, off, rfl, hbl, hc⟩ := HR.out.at_ (by omega)
          have cy := (hc k hk).2
          rw [← Nat.add_assoc] at cy
          generalize hyy : (l.getD k (0, 0)).2 = y at *
          have N0 : Hid (NxRel l y len w (.int .i64 0) (.int .i64 (-1)) (w.drewN qm)) := Lib.hid ⟨0, Nat.zero_le _, rfl, rfl, qm, rfl⟩
          have HS := Lib.hid hs
          have HNX := Lib.hid hnx
          have HNL := Lib.hid hnl
          have HF := Lib.hid hf2
          clear hs hnx hnl hyy hf hf2
          go_wp2_with fail
          go_loopw [9, 8] (fun s9 s8 wr => NxRel l y len w s9 s8 wr) (fun s9 _ _ => len - (intOf s9).toNat)
          case atStart => exact N0.out
          case round =>
            clear N0
            obtain ⟨j, hj, rfl, rfl, qi, rfl⟩ := hrel
            by_cases hjl : j < len
            · have t3 : decide (j < len) = true := by simpa using hjl
              have cx := (hc j hjl).1
              rw [Nat.add_zero] at cx
              have hn1 := nxtF_next l y j
              generalize (l.getD j (0, 0)).1 = x at *
              generalize nxtF l y j = nj at *
              have HN1 := Lib.hid hn1
              clear hn1
              by_cases hxy : x = y
              · have t4 : (x == y) = true := by simpa using hxy
                have HXY := Lib.hid hxy
                clear hxy
                go_wp2_with fail
                go_quiet (fail)
                all_goals
                  go_wp2_with fail
                  go_roundw
                  case rel => exact ⟨j + 1, by omega, by go_num, by rw [HN1.out, if_pos HXY.out], _, rfl⟩
                  case measure => simp [intOf]; omega
              · have t4 : (x == y) = false := by simpa using hxy
                have HXY := Lib.hid hxy
                clear hxy
                go_wp2_with fail
                go_quiet (fail)
                all_goals
                  go_wp2_with fail
                  go_roundw
                  case rel => exact ⟨j + 1, by omega, by go_num, by rw [HN1.out, if_neg HXY.out], _, rfl⟩
                  case measure => simp [intOf]; omega
            · obtain rfl : j = len := by omega
              have t3 : decide (j < j) = false := by simp
              rw [HNX.out]
              have hs := HS.out
              have hnl := HNL.out
              by_cases h0 : nx < 0
              · have t4 : decide (nx < 0) = true := by simpa using h0
                rw [if_pos h0] at hs
                have HF2 := Lib.hid hs
                clear hs hnl
                go_wp2_with fail
                go_roundw
                case rel => exact ⟨i + 1, by omega, by go_num, by rw [HRN.out, ← HF2.out]; simp, _, rfl⟩
                case measure => simp [intOf]; omega
              · have t4 : decide (nx < 0) = false := by simpa using h0
                rw [if_neg h0] at hs
                by_cases h1 : nx = (i : Int)
                · subst h1
                  have t5 : ((i : Int) == (i : Int)) = true := by simp
                  rw [if_pos rfl] at hs
                  by_cases h2 : 0 < st
                  · have t6 : decide ((st : Int) > 0) = true := by simpa using h2
                    rw [decide_eq_true h2, Bool.true_and] at hs
                    cases fi with
                    | true =>
                      have hi2 : i < j := hlt
                      have hrl := HRL.out
                      have HF2 := Lib.hid hs
                      have s1 : IntKind.i64.wrap ((rc : Int) + 1) = ((rc + 1 : Nat) : Int) := (IntWalk.i64_in _ (by omega)).trans (by omega)
                      clear hs hnl
                      go_wp2_with fail
                      go_roundw
                      case rel => exact ⟨i + 1, by omega, by go_num, by rw [HRN.out, ← HF2.out]; go_num, _, rfl⟩
                      case measure => simp [intOf]; omega
                    | false =>
                      have HF2 := Lib.hid hs
                      clear hs hnl
                      go_wp2_with fail
                      go_roundw
                      case rel => exact ⟨i + 1, by omega, by go_num, by rw [HRN.out, ← HF2.out]; simp, _, rfl⟩
                      case measure => simp [intOf]; omega
                  · have t6 : decide ((st : Int) > 0) = false := by simpa using h2
                    rw [decide_eq_false h2, Bool.false_and] at hs
                    have HF2 := Lib.hid hs
                    clear hs hnl
                    go_wp2_with fail
                    go_roundw
                    case rel => exact ⟨i + 1, by omega, by go_num, by rw [HRN.out, ← HF2.out]; simp, _, rfl⟩
                    case measure => simp [intOf]; omega
                · have t5 : (nx == (i : Int)) = false := by simpa using h1
                  rw [if_neg h1] at hs
                  obtain ⟨k2, rfl⟩ : ∃ k2 : Nat, nx = k2 := ⟨nx.toNat, by omega⟩
                  rw [Int.toNat_natCast, HF.out] at hs
                  have hk2 : k2 < j := by omega
                  obtain ⟨fj, hfj⟩ : ∃ fj, (fi && decide ((i : Int) < (k2 : Int))) = fj := ⟨_, rfl⟩
                  rw [hfj] at hs
                  have HS2 := Lib.hid hs
                  clear hs hnl h0
                  have HH1 := Lib.hid h1
                  clear h1
                  cases fi with
                  | true =>
                    rw [Bool.true_and] at hfj
                    by_cases h3 : i < k2
                    · have t7 : decide (k2 > i) = true := by simpa using h3
                      have e : fj = true := by rw [← hfj]; simpa using h3
                      subst e
                      clear hfj h3
                      go_wp2_with fail
                      go_roundw
                      case rel => exact ⟨st + 1, k2, true, rfl, by omega, hk2, by go_num, rfl, rfl, HS2.out, _, rfl⟩
                      case measure => simp [intOf]; omega
                    · have t7 : decide (k2 > i) = false := by simpa using h3
                      have e : fj = false := by rw [← hfj]; simpa using h3
                      subst e
                      clear hfj h3
                      go_wp2_with fail
                      go_roundw
                      case rel => exact ⟨st + 1, k2, false, rfl, by omega, hk2, by go_num, rfl, rfl, HS2.out, _, rfl⟩
                      case measure => simp [intOf]; omega
                  | false =>
                    rw [Bool.false_and] at hfj
                    subst hfj
                    go_wp2_with fail
                    go_roundw
                    case rel => exact ⟨st + 1, k2, false, rfl, by omega, hk2, by go_num, rfl, rfl, HS2.out, _, rfl⟩
                    case measure => simp [intOf]; omega
        · have t2 : decide (st ≤ len) = false := by simpa using hle2
          rw [show len + 1 - st = 0 by omega] at hs
          have hs2 : false = firstR l i := hs
          have HF2 := Lib.hid hs2
          clear hs hs2
          go_wp2_with fail
          go_roundw
          case rel => exact ⟨i + 1, by omega, by go_num, by rw [HRN.out, ← HF2.out]; simp, _, rfl⟩
          case measure => simp [intOf]; omega
    · obtain rfl : i = len := by omega
      have t1 : decide (i < i) = false := by simp
      go_wp2_with fail
      go_ret
      exact ⟨rfl, _, rfl⟩

end Go.Proofs.YtflbjfcmnopfaaaDoor

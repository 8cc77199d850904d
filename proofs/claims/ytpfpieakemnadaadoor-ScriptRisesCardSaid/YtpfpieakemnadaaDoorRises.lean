/-
  The law on picks that rise: true, whatever comes.
-/
import Derived.Test.YtpfpieakemnadaaDoorRis0
import Derived.Test.YtpfpieakemnadaaDoorSFirst
import Derived.Test.YtpfpieakemnadaaDoorScrNew
import Derived.Test.YtpfpieakemnadaaDoorOne
import Derived.Deep.CutBlock
namespace Go.Proofs.YtpfpieakemnadaaDoor
open Go.RowKit

theorem low3_i64 (a : Int) : bits BinOp.and IntKind.i64 a 7 = a % 8 := by
  have key : (BitVec.ofInt 64 a &&& BitVec.ofInt 64 7).toNat = (a % ((2 ^ 64 : Nat) : Int)).toNat % 2 ^ 3 := by
    have hm : BitVec.ofInt 64 7 = BitVec.ofNat 64 (2 ^ 3 - 1) := by decide
    rw [BitVec.toNat_and, hm, BitVec.toNat_ofNat, BitVec.toNat_ofInt, Nat.mod_eq_of_lt (by omega), Nat.and_two_pow_sub_one_eq_mod]
  show IntKind.i64.wrap ((BitVec.ofInt 64 a &&& BitVec.ofInt 64 7).toNat : Nat) = _
  rw [key, IntKind.wrap_i64]
  have e64 : (2 : Nat) ^ 64 = 18446744073709551616 := by decide
  have e10 : (2 : Nat) ^ 3 = 8 := by decide
  rw [e64, e10]
  omega
theorem low1_i64 (a : Int) : bits BinOp.and IntKind.i64 a 1 = a % 2 := by
  have key : (BitVec.ofInt 64 a &&& BitVec.ofInt 64 1).toNat = (a % ((2 ^ 64 : Nat) : Int)).toNat % 2 ^ 1 := by
    have hm : BitVec.ofInt 64 1 = BitVec.ofNat 64 (2 ^ 1 - 1) := by decide
    rw [BitVec.toNat_and, hm, BitVec.toNat_ofNat, BitVec.toNat_ofInt, Nat.mod_eq_of_lt (by omega), Nat.and_two_pow_sub_one_eq_mod]
  show IntKind.i64.wrap ((BitVec.ofInt 64 a &&& BitVec.ofInt 64 1).toNat : Nat) = _
  rw [key, IntKind.wrap_i64]
  have e64 : (2 : Nat) ^ 64 = 18446744073709551616 := by decide
  have e10 : (2 : Nat) ^ 1 = 2 := by decide
  rw [e64, e10]
  omega

/-- A pick's block that was just made. -/
theorem news_four (w : World) (x y : Int) : ∀ j u, ([.int .i64 x, .int .i64 y, .int .i64 0, .int .i64 0] : List Value)[j]? = some u → (w.alloc (.cells #[.int .i64 x, .int .i64 y, .int .i64 0, .int .i64 0] 94)).cell? ((⟨w.heap.size, 0, none⟩ : Addr).add j) = some u := by
  intro j u hu
  have hj : j < 4 := by
    have := (List.getElem?_eq_some_iff.1 hu).1
    simpa using this
  have e : (⟨w.heap.size, 0, none⟩ : Addr).add j = ⟨w.heap.size, j, none⟩ := by
    unfold Addr.add
    split
    · rename_i h0; rw [h0]
    · simp
  rw [e, cell_of_row _ w.heap.size j _ 94 (0, 0) (heap_alloc_new w _), ← hu]
  match j, hj with
  | 0, _ => rfl
  | 1, _ => rfl
  | 2, _ => rfl
  | 3, _ => rfl

theorem picks_own {B : Nat} {w : World} {v : Value} {zs : List Int} {n : Nat} (h : w.ownsRow B 94 4 v n (flatR zs n)) : ∃ a cap, v = .slice a n cap ∧ Picks w a n cap (gvR zs) := by
  have hx := h
  rcases h.2 with ⟨rfl, h0⟩ | ⟨g, cap, cur, rfl, hb, hg, hnc, hcm, hcs, ht⟩
  · subst h0
    exact ⟨none, 0, rfl, ⟨Nat.le_refl _, Nat.zero_le _, fun _ => rfl, fun ad h => (by cases h)⟩⟩
  · refine ⟨_, cap, rfl, ⟨hnc, hcm, fun h => (by cases h), fun ad had i j hi hj => ?_⟩⟩
    cases had
    have e : (⟨g, 0, none⟩ : Addr).add (i * 4 + j) = ⟨g, i * 4 + j, none⟩ := by
      unfold Addr.add
      split
      · rename_i h0; rw [h0]
      · simp
    rw [e, cell_of_row w g _ cur 94 (0, 0) hg]
    have h1 := flatR_get zs n i j hi hj
    rw [← ht, List.getElem?_take_of_lt (by omega)] at h1
    simpa using h1

/-- A made list of picks: all zero. -/
def madeW (w : World) (n : Nat) : World := w.alloc (.cells (madeCells #[.int .i64 0, .int .i64 0, .int .i64 0, .int .i64 0] (n * 4)) 94)

theorem made_run (w : World) (n : Nat) (hn : n * 32 ≤ 281474976710656 ∧ n ≤ maxLen) :
    (Instr.makeSlice 95 (.int .i64 (n : Int)) (.int .i64 (n : Int))).run Tryd.prog w = .ok (.slice (some ⟨w.heap.size, 0, none⟩) n n) (madeW w n) := by
  obtain ⟨i0, hi, hz0, hz1, hz2⟩ := info_parts pickinfo
  have h1 : ((i0.bytes : Nat) : Int) * (n : Int) ≤ 281474976710656 := by rw [hz2]; omega
  have h2 : (n : Int) ≤ 9223372036854775807 := by have := hn.2; unfold maxLen at this; omega
  have h := run_make (P := Tryd.prog) w 95 94 i0 _ Tryd.underlying95 hi hz0 .i64 .i64 (n : Int) (n : Int) (by omega) (Int.le_refl _) h1 h2
  rw [Int.toNat_natCast, hz1] at h
  exact h

theorem made_below (w : World) (n : Nat) : Below w.heap.size w (madeW w n) := (Below.refl _ _).alloc (Nat.le_refl _) _

theorem made_cell (n j : Nat) (h : j < n) : (madeCells #[.int .i64 0, .int .i64 0, .int .i64 0, .int .i64 0] n)[j]? = some (Value.int .i64 0) := by
  unfold madeCells
  have hm : j % 4 < 4 := Nat.mod_lt _ (by decide)
  simp [h]
  match j % 4, hm with
  | 0, _ => rfl
  | 1, _ => rfl
  | 2, _ => rfl
  | 3, _ => rfl

theorem made_picks (w : World) (n : Nat) (hn : n ≤ maxLen) : Picks (madeW w n) (some ⟨w.heap.size, 0, none⟩) n n (fun _ _ => 0) := by
  refine ⟨Nat.le_refl _, hn, fun h => (by cases h), fun ad had i j hi hj => ?_⟩
  cases had
  have e : (⟨w.heap.size, 0, none⟩ : Addr).add (i * 4 + j) = ⟨w.heap.size, i * 4 + j, none⟩ := by
    unfold Addr.add
    split
    · rename_i h0; rw [h0]
    · simp
  rw [e]
  unfold madeW
  rw [cell_of_row _ w.heap.size _ _ 94 (0, 0) (heap_alloc_new w _)]
  exact made_cell (n * 4) (i * 4 + j) (by omega)

def RisRel (w0 : World) (B : Nat) (zs : List Int) (len : Nat) (sl st sb si : Value) (wr : World) : Prop :=
  ∃ (i : Nat), i ≤ len ∧ si = .int .i64 i ∧ st = .int .i64 (atS zs i) ∧ sb = .int .i64 (badR zs i) ∧ wr.ownsRow B 94 4 sl i (flatR zs i) ∧ Below B w0 wr

set_option maxHeartbeats 8000000 in
set_option maxRecDepth 100000 in
theorem rises_law (a : Nat → Addr) (ad : Option Addr) (len cap : Nat) (zs : List Int) (z : Int) (w : World) (hl : Row .i64 w ad len cap zs) (hS : Sents a w) (h50 : len ≤ 50) :
    Calls Tryd.prog 14 #[.slice ad len cap, .int .i64 z] w (TruePost w) := by
  have e1 := low3_i64 z
  obtain ⟨m, hm⟩ : ∃ m : Nat, z % 8 = (m : Int) := ⟨(z % 8).toNat, by omega⟩
  have hm1 : m < 8 := by omega
  rw [hm] at e1
  have H := Lib.hid hS
  have HR := Lib.hid hl
  obtain ⟨i0, hi, hz0, hz1, hz2⟩ := info_parts pickinfo
  have HI := Lib.hid hi
  have HZ0 := Lib.hid hz0
  have HZ1 := Lib.hid hz1
  have HZ2 := Lib.hid hz2
  clear hl hS hm hi hz0 hz1 hz2
  have d1 : decide ((50 : Int) < (len : Int)) = false := by simp; omega
  go_enter Tryd.func14, Tryd.ntmps14
  go_wp2_with fail
  refine (sfirst a _ H.out).mono ?_
  rintro e w1 ⟨rfl, hb1⟩
  have HB1 := Lib.hid hb1
  have HS1 := Lib.hid (H.out.below hb1)
  have HR1 := Lib.hid (Row_cells HR.out hb1)
  clear hb1 HR H
  have R0 : Hid (RisRel w1 w1.heap.size zs len (.slice none 0 0) (.int .i64 100) (.int .i64 (-1)) (.int .i64 ((0 : Nat) : Int)) w1) := Lib.hid ⟨0, Nat.zero_le _, rfl, rfl, rfl, World.ownsRow_nil _ _ _ _, Below.refl _ _⟩
  go_wp2_with fail
  go_loopw [6, 7, 8, 9] (fun sl st sb si wr => RisRel w1 w1.heap.size zs len sl st sb si wr) (fun _ _ _ si _ => len - (intOf si).toNat)
  case atStart => exact R0.out
  case round =>
    obtain ⟨i, hi, rfl, rfl, rfl, hown, hb⟩ := hrel
    clear R0
    have HO := Lib.hid hown
    have HB := Lib.hid hb
    clear hown hb
    by_cases hlt : i < len
    · have t1 : decide (i < len) = true := by simpa using hlt
      obtain ⟨lb, lo, rfl, hc⟩ := Row_at HR1.out (by omega)
      have hblk : lb < w1.heap.size := Row_lt HR1.out (by omega) ⟨lb, lo, none⟩ rfl
      have cx : wr.cell? ⟨lb, lo + i, none⟩ = some (.int .i64 (zs.getD i 0)) := (HB.out.cell (p := ⟨lb, lo + i, none⟩) hblk).trans (hc i hlt)
      have hnx : atS zs (i + 1) = if atS zs i + (zs.getD i 0).tmod 50 < 0 then 0 else atS zs i + (zs.getD i 0).tmod 50 := by rw [atS]
      have b0 := atS_nonneg zs i
      have b1 := atS_le zs i
      have b2 := tmod_50 (zs.getD i 0)
      have b3 := badR_lo zs i
      have hbd : badR zs (i + 1) = if 0 < i ∧ atS zs (i + 1) < atS zs i ∧ badR zs i < 0 then (i : Int) else badR zs i := by rw [badR]
      have hfl : flatR zs (i + 1) = flatR zs i ++ [.int .i64 (atS zs (i + 1)), .int .i64 (1 + ((i % 2 : Nat) : Int)), .int .i64 0, .int .i64 0] := flatR_next zs i
      have hpv : 0 < i → gvR zs (i - 1) 0 = atS zs i := fun h => by
        obtain ⟨k, rfl⟩ : ∃ k, i = k + 1 := ⟨i - 1, by omega⟩
        rfl
      have HPV := Lib.hid hpv
      have hfg : ∀ n k, k < n → (flatR zs n)[k * 4 + 0]? = some (.int .i64 (gvR zs k 0)) := fun n k hk => flatR_get zs n k 0 hk (by omega)
      have HFG := Lib.hid hfg
      have hsl : gvR zs i 0 = atS zs (i + 1) := rfl
      have HSL := Lib.hid hsl
      have hfle := flatR_len zs i
      have HFLE := Lib.hid hfle
      have a1 : IntKind.i64.wrap (atS zs i + (zs.getD i 0).tmod 50) = atS zs i + (zs.getD i 0).tmod 50 := IntWalk.i64_in _ (by omega)
      have l1 := low1_i64 (i : Int)
      have l2 : (i : Int) % 2 = ((i % 2 : Nat) : Int) := by omega
      rw [l2] at l1
      have l3 : i % 2 < 2 := Nat.mod_lt _ (by decide)
      have a2 : IntKind.i64.wrap (1 + ((i % 2 : Nat) : Int)) = 1 + ((i % 2 : Nat) : Int) := IntWalk.i64_in _ (by omega)
      have HNX := Lib.hid hnx
      have HBD := Lib.hid hbd
      have HFL := Lib.hid hfl
      clear hnx hbd hfl hpv hfg hsl hfle hc l2
      generalize hye : atS zs (i + 1) = y at *
      have HYE := Lib.hid hye
      clear hye
      generalize atS zs i = x at *
      generalize badR zs i = bd at *
      generalize (zs.getD i 0) = v at *
      generalize i % 2 = p at *
      go_upto_if 36 with (fail)
      go_cut [7] (fun st wx => st = .int .i64 y ∧ wr = wx)
      case first =>
        go_wp2_with fail
        all_goals
          go_meet
          refine ⟨?_, rfl⟩
          rw [HNX.out]
          first
            | rw [if_pos (by omega)]
            | rw [if_neg (by omega)]
      case rest =>
        obtain ⟨rfl, rfl⟩ := hcut
        have hy0 : 0 ≤ y := by have := HNX.out; split at this <;> omega
        have hy1 : y ≤ 3000 := by have := HNX.out; split at this <;> omega
        clear cx a1
        have hn1 : Hid (i + 1 ≤ maxLen) := Lib.hid (by unfold maxLen; omega)
        have hn2 : Hid ((i + 1) * 32 ≤ 140737488355328) := Lib.hid (by omega)
        have HN := Lib.hid (news_four wr y (1 + (p : Int)))
        have hoc : Hid (∀ u ∈ ([.int .i64 y, .int .i64 (1 + (p : Int)), .int .i64 0, .int .i64 0] : List Value), u.oneCell' = true) := Lib.hid (by simp [Value.oneCell'])
        have hoa := Lib.hid (HO.out.alloc (.cells #[.int .i64 y, .int .i64 (1 + (p : Int)), .int .i64 0, .int .i64 0] 94))
        have hsz : Hid (w1.heap.size ≤ (wr.alloc (.cells #[.int .i64 y, .int .i64 (1 + (p : Int)), .int .i64 0, .int .i64 0] 94)).heap.size) := Lib.hid (by have := HB.out.size; simp; omega)
        go_upto_region 14 with (at_builtin; refine wpList_append_own _ rfl (.tmp 37) (.tmp 43) 95 rfl w1.heap.size 94 i0 (.agg #[.int .i64 0, .int .i64 0, .int .i64 0, .int .i64 0]) 4 32 Tryd.underlying95 HI.out HZ0.out HZ1.out HZ2.out rfl (by decide) _ i (flatR zs i) rfl hoa.out ⟨wr.heap.size, 0, none⟩ 1 1 [.int .i64 y, .int .i64 (1 + (p : Int)), .int .i64 0, .int .i64 0] rfl rfl HN.out hoc.out hn1.out hn2.out hsz.out ?_; intro v5 w5 hown5 hgrow5 hnil5)
        have hown6 : w5.ownsRow w1.heap.size 94 4 v5 (i + 1) (flatR zs (i + 1)) := by rw [HFL.out]; exact hown5
        have hb5 : Below w1.heap.size w1 w5 := (HB.out.alloc HB.out.size _).grown hgrow5 hsz.out (fun k hk => (HO.out.lt k (show _ = some k from hk)).1)
        obtain ⟨g, cp, rfl⟩ : ∃ g cp, v5 = .slice (some ⟨g, 0, none⟩) (i + 1) cp := by
          rcases hown6.2 with ⟨_, h0⟩ | ⟨g, cp, cur, hv, _⟩
          · omega
          · exact ⟨g, cp, hv⟩
        have HO5 := Lib.hid hown6
        have HB5 := Lib.hid hb5
        have cI : w5.cell? ⟨g, i * 4, none⟩ = some (.int .i64 y) := by
          have := hown6.cellAt (i * 4 + 0) (by omega)
          rw [HFG.out (i + 1) i (by omega), HSL.out] at this
          exact this
        clear hown5 hown6 hb5 hgrow5 hnil5
        by_cases hi0 : 0 < i
        · have t2 : decide (0 < i) = true := by simpa using hi0
          obtain ⟨k, hk⟩ : ∃ k, i = k + 1 := ⟨i - 1, by omega⟩
          have cK : w5.cell? ⟨g, k * 4, none⟩ = some (.int .i64 x) := by
            have := HO5.out.cellAt (k * 4 + 0) (by omega)
            rw [HFG.out (i + 1) k (by omega)] at this
            have e := HPV.out hi0
            rw [show i - 1 = k by omega] at e
            rw [e] at this
            exact this
          have a4 : IntKind.i64.wrap ((i : Int) - 1) = (k : Int) := by rw [IntWalk.i64_in _ (by omega)]; omega
          have hki : k < i + 1 := by omega
          have HK := Lib.hid hk
          have HI0 := Lib.hid hi0
          clear hk hi0
          by_cases hyx : y < x
          · have t3 : decide (y < x) = true := by simpa using hyx
            have HYX := Lib.hid hyx
            clear hyx
            by_cases hbn : bd < 0
            · have t4 : decide (bd < 0) = true := by simpa using hbn
              have HBN := Lib.hid hbn
              clear hbn
              go_wp2_with fail
              go_quiet (fail)
              all_goals go_wp2_with fail
              all_goals
                go_roundw
                case rel => exact ⟨i + 1, by omega, by go_num, by rw [HYE.out], by rw [HBD.out, if_pos ⟨HI0.out, HYX.out, HBN.out⟩], HO5.out, below_drewN HB5.out nq⟩
                case measure => simp [intOf]; omega
            · have t4 : decide (bd < 0) = false := by simp; omega
              have HBN := Lib.hid hbn
              clear hbn
              go_wp2_with fail
              go_quiet (fail)
              all_goals go_wp2_with fail
              all_goals
                go_roundw
                case rel => exact ⟨i + 1, by omega, by go_num, by rw [HYE.out], by rw [HBD.out, if_neg (fun h => absurd h.2.2 (by have := HBN.out; omega))], HO5.out, below_drewN HB5.out nq⟩
                case measure => simp [intOf]; omega
          · have t3 : decide (y < x) = false := by simp; omega
            have HYX := Lib.hid hyx
            clear hyx
            go_wp2_with fail
            go_quiet (fail)
            all_goals go_wp2_with fail
            all_goals
              go_roundw
              case rel => exact ⟨i + 1, by omega, by go_num, by rw [HYE.out], by rw [HBD.out, if_neg (fun h => absurd h.2.1 (by have := HYX.out; omega))], HO5.out, below_drewN HB5.out nq⟩
              case measure => simp [intOf]; omega
        · have t2 : decide (0 < i) = false := by simpa using hi0
          have HI0 := Lib.hid hi0
          clear hi0
          go_wp2_with fail
          go_quiet (fail)
          all_goals go_wp2_with fail
          all_goals
            go_roundw
            case rel => exact ⟨i + 1, by omega, by go_num, by rw [HYE.out], by rw [HBD.out, if_neg (fun h => absurd h.1 (by have := HI0.out; omega))], HO5.out, below_drewN HB5.out nq⟩
            case measure => simp [intOf]; omega
    · obtain rfl : i = len := by omega
      have t1 : decide (i < i) = false := by simp
      obtain ⟨pa, pc, rfl, hpk⟩ := picks_own HO.out
      have HP := Lib.hid hpk
      have HS2 := Lib.hid (HS1.out.below HB.out)
      have HB2 : Hid (Below w.heap.size w wr) := Lib.hid (HB1.out.trans (HB.out.mono HB1.out.size))
      clear hpk HO HB HB1 HS1
      have hcode : ∀ k, k < i → ¬ (0 < k ∧ atS zs (k + 1) < atS zs k) → codeAt (gvR zs) k = 0 := fun k hk hn => by rw [code_R zs k (by omega), if_neg hn]
      have hM : 397 + m ≤ maxLen := by unfold maxLen; omega
      by_cases hbd : badR zs i < 0
      · have hall := badR_none zs i hbd
        have HML := Lib.hid (may_list a pa i pc (gvR zs) i _ HS2.out HP.out (by omega) (Nat.le_refl _) (fun k hk => hcode k hk (hall k hk)) (fun h => absurd h (Nat.lt_irrefl _)))
        have t2 : decide (badR zs i < 0) = true := by simpa using hbd
        have t3 : decide (0 ≤ badR zs i) = false := by simp; omega
        clear hall hcode
        generalize badR zs i = bd at *
        clear hbd
        go_wp2_with fail
        refine HML.out.mono ?_
        rintro e w3 ⟨hb3, ⟨_, rfl⟩ | ⟨hlt2, _⟩⟩
        · have HB3 : Hid (Below w.heap.size w w3) := Lib.hid (HB2.out.trans (hb3.mono HB2.out.size))
          have HS3 := Lib.hid (HS2.out.below hb3)
          clear hb3 HML
          have hmk := made_run w3 (397 + m) ⟨by omega, by unfold maxLen; omega⟩
          have hmk2 : (Instr.makeSlice 95 (.int .i64 (397 + (m : Int))) (.int .i64 (397 + (m : Int)))).run Tryd.prog w3 = .ok (.slice (some ⟨w3.heap.size, 0, none⟩) (397 + m) (397 + m)) (madeW w3 (397 + m)) := by
            have e : ((397 + m : Nat) : Int) = 397 + (m : Int) := by omega
            rw [e] at hmk
            exact hmk
          have EM := Lib.hid hmk2
          have hbm := made_below w3 (397 + m)
          have HPM := Lib.hid (made_picks w3 (397 + m) (by unfold maxLen; omega))
          have HSM := Lib.hid (HS3.out.below hbm)
          have HBM : Hid (Below w.heap.size w (madeW w3 (397 + m))) := Lib.hid (HB3.out.trans (hbm.mono HB3.out.size))
          clear hmk hmk2 hbm
          have a9 : IntKind.i64.wrap (397 + (m : Int)) = 397 + (m : Int) := IntWalk.i64_in _ (by omega)
          by_cases hn : 397 + m ≤ 400
          · have t9 : decide (400 < 397 + (m : Int)) = false := by simp; omega
            have c0 : codeAt (fun _ _ => (0 : Int)) 0 = 2 := rfl
            have HM2 := Lib.hid (may_list a (some ⟨w3.heap.size, 0, none⟩) (397 + m) (397 + m) (fun _ _ => 0) 0 _ HSM.out HPM.out hn (by omega) (fun k hk => absurd hk (Nat.not_lt_zero k)) (fun _ => by rw [c0]; decide))
            clear c0
            go_wp2_with (rw [EM.out])
            refine HM2.out.mono ?_
            rintro e w5 ⟨hb5, ⟨h0, _⟩ | ⟨_, b, rfl, hbb, hat⟩⟩
            · omega
            · have HB5 : Hid (Below w.heap.size w w5) := Lib.hid (HBM.out.trans (hb5.mono HBM.out.size))
              have HS5 := Lib.hid (HSM.out.below hb5)
              have HAT : Hid (AtBox a b 1 0 w5) := Lib.hid hat
              clear hb5 hat HM2 EM HPM HSM HBM
              go_wp2_with fail
              refine (placed_any 102 0 _ (by decide)).mono ?_
              rintro e w6 ⟨g, rfl, hc6, hb6⟩
              have HB6 : Hid (Below w.heap.size w w6) := Lib.hid (HB5.out.trans (hb6.mono HB5.out.size))
              have SM := Lib.hid (same_around a b 1 0 g 1 _ (HS5.out.below hb6) (by decide) (HAT.out.below hb6) (row_one hc6 (Nat.le_refl _) (by unfold maxLen; omega) rfl))
              clear hb6 hc6
              go_wp2_with fail
              refine SM.out.mono ?_
              rintro e w7 ⟨rfl, hb7⟩
              go_wp2_with fail
              go_ret
              exact ⟨rfl, HB6.out.trans (hb7.mono HB6.out.size)⟩
          · have t9 : decide (400 < 397 + (m : Int)) = true := by simp; omega
            have HM2 := Lib.hid (may_many a (some ⟨w3.heap.size, 0, none⟩) (397 + m) (397 + m) _ HSM.out (by unfold maxLen; omega) (Nat.le_refl _) (by omega))
            have HIS := Lib.hid (is_plain a 0 _ HSM.out (by decide))
            obtain ⟨x, hx⟩ : ∃ x, a 0 = x := ⟨_, rfl⟩
            rw [hx] at HM2 HIS
            clear hx
            go_wp2_with (rw [EM.out])
            refine HM2.out.mono ?_
            rintro e w' ⟨rfl, rfl⟩
            go_wp2_with fail
            refine HIS.out.mono ?_
            rintro e w7 ⟨rfl, hb7⟩
            go_wp2_with fail
            go_ret
            exact ⟨rfl, HBM.out.trans (hb7.mono HBM.out.size)⟩
        · omega
      · obtain ⟨b, hb0, hbi, hb1, hb2, hball⟩ := badR_some zs i (by omega)
        have hcb : codeAt (gvR zs) b = 5 := by rw [code_R zs b (by omega), if_pos ⟨hb1, hb2⟩]
        have HML := Lib.hid (may_list a pa i pc (gvR zs) b _ HS2.out HP.out (by omega) (by omega) (fun k hk => hcode k (by omega) (hball k hk)) (fun _ => by rw [hcb]; decide))
        have HCB := Lib.hid hcb
        have HBI := Lib.hid hbi
        rw [hb0]
        have t2 : decide ((b : Int) < 0) = false := by simp
        have t3 : decide ((0 : Int) ≤ (b : Int)) = true := by simp
        clear hball hcode hb0 hcb hb1 hb2 hbd hbi
        go_wp2_with fail
        refine HML.out.mono ?_
        rintro e w2 ⟨hb3, ⟨h0, _⟩ | ⟨_, q, rfl, hq, hat⟩⟩
        · have := HBI.out; omega
        · rw [HCB.out] at hat
          have HBB : Hid (Below w.heap.size w w2) := Lib.hid (HB2.out.trans (hb3.mono HB2.out.size))
          have HSB := Lib.hid (HS2.out.below hb3)
          have HAT : Hid (AtBox a q 4 (b : Int) w2) := Lib.hid hat
          clear hb3 hat HML
          go_wp2_with fail
          refine (placed_any 105 (b : Int) _ (by decide)).mono ?_
          rintro e w4 ⟨g, rfl, hc4, hb4⟩
          have hwf : (Lit.int .i64 (b : Int)).wf = true := by
            have := HBI.out
            simp [Lit.wf, IntKind.min, IntKind.max, IntKind.signed, IntKind.bits]
            omega
          have HB4 : Hid (Below w.heap.size w w4) := Lib.hid (HBB.out.trans (hb4.mono HBB.out.size))
          have HS4 := Lib.hid (HSB.out.below hb4)
          have SM := Lib.hid (same_around a q 4 (b : Int) g 1 _ HS4.out (by decide) (HAT.out.below hb4) (row_one hc4 (Nat.le_refl _) (by unfold maxLen; omega) hwf))
          clear hb4 hc4 hwf
          go_wp2_with fail
          refine SM.out.mono ?_
          rintro e w3 ⟨rfl, hb3⟩
          have HB3 : Hid (Below w.heap.size w w3) := Lib.hid (HB4.out.trans (hb3.mono HB4.out.size))
          have HS3 := Lib.hid (HS4.out.below hb3)
          clear hb3
          have hmk := made_run w3 (397 + m) ⟨by omega, by unfold maxLen; omega⟩
          have hmk2 : (Instr.makeSlice 95 (.int .i64 (397 + (m : Int))) (.int .i64 (397 + (m : Int)))).run Tryd.prog w3 = .ok (.slice (some ⟨w3.heap.size, 0, none⟩) (397 + m) (397 + m)) (madeW w3 (397 + m)) := by
            have e : ((397 + m : Nat) : Int) = 397 + (m : Int) := by omega
            rw [e] at hmk
            exact hmk
          have EM := Lib.hid hmk2
          have hbm := made_below w3 (397 + m)
          have HPM := Lib.hid (made_picks w3 (397 + m) (by unfold maxLen; omega))
          have HSM := Lib.hid (HS3.out.below hbm)
          have HBM : Hid (Below w.heap.size w (madeW w3 (397 + m))) := Lib.hid (HB3.out.trans (hbm.mono HB3.out.size))
          clear hmk hmk2 hbm
          have a9 : IntKind.i64.wrap (397 + (m : Int)) = 397 + (m : Int) := IntWalk.i64_in _ (by omega)
          by_cases hn : 397 + m ≤ 400
          · have t9 : decide (400 < 397 + (m : Int)) = false := by simp; omega
            have c0 : codeAt (fun _ _ => (0 : Int)) 0 = 2 := rfl
            have HM2 := Lib.hid (may_list a (some ⟨w3.heap.size, 0, none⟩) (397 + m) (397 + m) (fun _ _ => 0) 0 _ HSM.out HPM.out hn (by omega) (fun k hk => absurd hk (Nat.not_lt_zero k)) (fun _ => by rw [c0]; decide))
            clear c0
            go_wp2_with (rw [EM.out])
            refine HM2.out.mono ?_
            rintro e w5 ⟨hb5, ⟨h0, _⟩ | ⟨_, b, rfl, hbb, hat⟩⟩
            · omega
            · have HB5 : Hid (Below w.heap.size w w5) := Lib.hid (HBM.out.trans (hb5.mono HBM.out.size))
              have HS5 := Lib.hid (HSM.out.below hb5)
              have HAT : Hid (AtBox a b 1 0 w5) := Lib.hid hat
              clear hb5 hat HM2 EM HPM HSM HBM
              go_wp2_with fail
              refine (placed_any 102 0 _ (by decide)).mono ?_
              rintro e w6 ⟨g, rfl, hc6, hb6⟩
              have HB6 : Hid (Below w.heap.size w w6) := Lib.hid (HB5.out.trans (hb6.mono HB5.out.size))
              have SM := Lib.hid (same_around a b 1 0 g 1 _ (HS5.out.below hb6) (by decide) (HAT.out.below hb6) (row_one hc6 (Nat.le_refl _) (by unfold maxLen; omega) rfl))
              clear hb6 hc6
              go_wp2_with fail
              refine SM.out.mono ?_
              rintro e w7 ⟨rfl, hb7⟩
              go_wp2_with fail
              go_ret
              exact ⟨rfl, HB6.out.trans (hb7.mono HB6.out.size)⟩
          · have t9 : decide (400 < 397 + (m : Int)) = true := by simp; omega
            have HM2 := Lib.hid (may_many a (some ⟨w3.heap.size, 0, none⟩) (397 + m) (397 + m) _ HSM.out (by unfold maxLen; omega) (Nat.le_refl _) (by omega))
            have HIS := Lib.hid (is_plain a 0 _ HSM.out (by decide))
            obtain ⟨x, hx⟩ : ∃ x, a 0 = x := ⟨_, rfl⟩
            rw [hx] at HM2 HIS
            clear hx
            go_wp2_with (rw [EM.out])
            refine HM2.out.mono ?_
            rintro e w' ⟨rfl, rfl⟩
            go_wp2_with fail
            refine HIS.out.mono ?_
            rintro e w7 ⟨rfl, hb7⟩
            go_wp2_with fail
            go_ret
            exact ⟨rfl, HBM.out.trans (hb7.mono HBM.out.size)⟩

/-- A list that is too long: the law says what first says. -/
theorem rises_long (a : Nat → Addr) (ad : Option Addr) (len cap : Nat) (z : Int) (w : World) (hS : Sents a w) (hm : cap ≤ maxLen) (hl : len ≤ cap) (h50 : ¬ len ≤ 50) :
    Calls Tryd.prog 14 #[.slice ad len cap, .int .i64 z] w (TruePost w) := by
  have H := Lib.hid hS
  clear hS
  unfold maxLen at hm
  have d1 : decide ((50 : Int) < (len : Int)) = true := by simp; omega
  go_enter Tryd.func14, Tryd.ntmps14
  go_wp2_with fail
  refine (sfirst a _ H.out).mono ?_
  rintro e w1 ⟨rfl, hB1⟩
  have B1 := Lib.hid hB1
  clear hB1
  go_wp2_with fail
  go_ret
  exact ⟨rfl, B1.out⟩

theorem rises_main (ad : Option Addr) (len cap : Nat) (zs : List Int) (z : Int) (w : World) (hl : Row .i64 w ad len cap zs) (hz : (Lit.int .i64 z).wf = true) (hL : laidMetH Tryd.prog Rows.scriptRisesRow.laid w) :
    Calls Tryd.prog 14 #[.slice ad len cap, .int .i64 z] w (TruePost w) := by
  obtain ⟨a, hS⟩ := sents_of_laid (show (sentTexts.map mkSent : List (String × DataW Unit)) = Rows.scriptRisesRow.laid from rfl) (by kernel_rfl) hL
  by_cases h : len ≤ 50
  · exact rises_law a ad len cap zs z w hl hS h
  · exact rises_long a ad len cap z w hS hl.max hl.le h

end Go.Proofs.YtpfpieakemnadaaDoor

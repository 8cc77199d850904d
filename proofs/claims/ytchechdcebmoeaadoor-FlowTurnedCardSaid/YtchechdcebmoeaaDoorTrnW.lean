/-
  The law on a graph turned round twice.
-/
import Derived.Test.YtchechdcebmoeaaDoorLgtG
import Derived.Test.YtchechdcebmoeaaDoorFwF
import Derived.Test.YtchechdcebmoeaaDoorPrdW
import Derived.Test.YtchechdcebmoeaaDoorTabB
import Derived.Deep.RegionHeld3
namespace Go.Proofs.YtchechdcebmoeaaDoor
open Go.RowKit

/-- The edges that lead to a place, of the first k. -/
def filtP (g : List (List Int)) (i k : Nat) : List Int := ((g.getD i []).take k).filter fun x => decide (0 ≤ x ∧ x < (g.length : Int))
theorem filtP_all (g : List (List Int)) (i : Nat) : filtP g i (degW g i) = inG g i := by unfold filtP inG degW; rw [List.take_length]
theorem filtP_next (g : List (List Int)) (i k : Nat) (h : k < degW g i) : filtP g i (k + 1) = if 0 ≤ edgeW g i k ∧ edgeW g i k < (g.length : Int) then filtP g i k ++ [edgeW g i k] else filtP g i k := by
  unfold filtP
  rw [take_edge g i k h, List.filter_append]
  by_cases hx : 0 ≤ edgeW g i k ∧ edgeW g i k < (g.length : Int)
  · rw [if_pos hx, List.filter_cons_of_pos (by simpa using hx)]; simp
  · rw [if_neg hx, List.filter_cons_of_neg (by simpa using hx)]; simp
theorem filtP_len (g : List (List Int)) (i k : Nat) : (filtP g i k).length ≤ degW g i := by
  unfold filtP degW
  refine Nat.le_trans (List.length_filter_le _ _) ?_
  rw [List.length_take]; omega
theorem filtP_in (g : List (List Int)) (i k : Nat) : ∀ x ∈ filtP g i k, 0 ≤ x ∧ x < (g.length : Int) := fun x hx => by
  have := (List.mem_filter.1 hx).2
  simpa using this

def Trn1 (n : Nat) (W : World) (s6 : Value) (wr : World) : Prop := ∃ i : Nat, i ≤ n ∧ s6 = .int .i64 i ∧ Below W.heap.size W wr
def Trn2 (g : List (List Int)) (i : Nat) (W : World) (s7 s8 : Value) (wr : World) : Prop :=
  ∃ k : Nat, k ≤ degW g i ∧ s8 = .int .i64 k ∧ wr.ownsRow W.heap.size 3 1 s7 (filtP g i k).length ((filtP g i k).map (Value.int .i64)) ∧ Below W.heap.size W wr

theorem own_baseT {B B' : Nat} {w : World} {e size n : Nat} {v : Value} {xs : List Value} (h : w.ownsRow B e size v n xs) (hb : B' ≤ B) : w.ownsRow B' e size v n xs := by
  refine ⟨h.1, ?_⟩
  rcases h.2 with h1 | ⟨g, cap, cur, h1, h2, h3⟩
  · exact .inl h1
  · exact .inr ⟨g, cap, cur, h1, Nat.le_trans hb h2, h3⟩

set_option maxHeartbeats 8000000 in
set_option maxRecDepth 100000 in
theorem turned_law (a : Option Addr) (len cap : Nat) (g : List (List Int)) (w : World) (hg : Grfs w a len cap g) (hT : TabOk w) :
    Calls Tryd.prog 10 #[.slice a len cap] w (TruePost w) := by
  have K1 := Lib.hid (ffirst w hT)
  unfold TruePost at K1
  have hle := hg.grf.le
  have hmax := hg.grf.max
  unfold maxLen at hmax
  have hnl : g.length = len := hg.grf.len_eq
  have HN := Lib.hid hnl
  have HG := Lib.hid hg
  obtain ⟨i0, hi, hz0, hz1, hz2⟩ := info_parts intinfoW
  have HI := Lib.hid hi
  have HZ0 := Lib.hid hz0
  have HZ1 := Lib.hid hz1
  have HZ2 := Lib.hid hz2
  clear hT hi hz0 hz1 hz2 hg hnl
  go_enter Tryd.func10, Tryd.ntmps10
  go_wp2_with fail
  refine K1.out.mono ?_
  rintro e w1 ⟨rfl, hb1⟩
  have HB1 := Lib.hid hb1
  have KL := Lib.hid (lightG_any a len cap g w1 ⟨HG.out.grf.below hb1, HG.out.size⟩)
  unfold LgtPost at KL
  clear hb1 K1
  go_wp2_with fail
  refine KL.out.mono ?_
  rintro e w1' ⟨d, rfl, rfl, hd⟩
  cases d with
  | false =>
    clear KL hd
    go_wp2_with fail
    go_ret
    exact ⟨rfl, HB1.out⟩
  | true =>
    have hsm := hd rfl
    have HSM := Lib.hid hsm
    have hl60 : len ≤ 60 := by rw [← HN.out]; exact hsm.len
    have hg1 := HG.out.grf.below HB1.out
    have KA := Lib.hid (preds_any a cap g w1 (by rw [HN.out]; exact hg1) (by rw [HN.out]; omega) (fun v => by have := hsm.deg v; omega))
    unfold PredPost at KA
    rw [HN.out] at KA
    clear KL hd hsm hg1
    go_wp2_with fail
    refine KA.out.mono ?_
    rintro e w2 ⟨vs, rfl, hS2, hb2⟩
    have hgA := hS2.grf (by unfold maxLen; omega) (fun j hj x hx => by
      obtain ⟨f, hf, rfl, _⟩ := (predF_mem g j x).1 hx
      rw [HN.out] at hf
      exact wf64 (by omega) (by omega))
    have htl : (turnG g).length = len := by rw [turnG_len, HN.out]
    have hta : (List.range len).map (predF g) = turnG g := by unfold turnG; rw [HN.out]
    rw [hta] at hgA
    have htd : ∀ v, degW (turnG g) v ≤ 1000000 := fun v => by
      by_cases hv : v < g.length
      · unfold degW; rw [turnG_at g hv]
        have := predG_len g g.length 0 v
        have h2 : (predF g v).length ≤ g.length + 1 := this
        have := HN.out
        omega
      · rw [deg_out _ (by rw [turnG_len]; omega)]; omega
    have KB := Lib.hid (preds_any (some ⟨w1.heap.size, 0, none⟩) len (turnG g) w2 (by rw [htl]; exact hgA) (by rw [htl]; omega) htd)
    unfold PredPost at KB
    rw [htl] at KB
    have HB2 := Lib.hid (HB1.out.trans (hb2.mono HB1.out.size))
    clear hS2 hb2 hgA htl hta htd KA
    go_wp2_with fail
    refine KB.out.mono ?_
    rintro e w3 ⟨us, rfl, hS3, hb3⟩
    have HB3 := Lib.hid (HB2.out.trans (hb3.mono HB2.out.size))
    have HS3 := Lib.hid hS3
    have R0 : Hid (Trn1 len w3 (.int .i64 0) w3) := Lib.hid ⟨0, Nat.zero_le _, rfl, Below.refl _ _⟩
    clear hS3 hb3 KB
    go_wp2_with fail
    go_loopw [6] (fun s6 wr => Trn1 len w3 s6 wr) (fun s6 _ => len - (intOf s6).toNat)
    case atStart => exact R0.out
    case round =>
      clear R0
      obtain ⟨i, hi, rfl, hB⟩ := hrel
      by_cases hlt : i < len
      · have t1 : decide ((i : Int) < len) = true := by simp; omega
        have t1' : decide (i < len) = true := by simpa using hlt
        obtain ⟨gb, go, rfl, hgb, hgc⟩ := HG.out.grf.at_ (by omega)
        obtain ⟨ra, rc, cg0, hrow⟩ := hgc i hlt
        have hbw : Below w.heap.size w wr := HB3.out.trans (hB.mono HB3.out.size)
        have hrl := hrow.le
        have hrm := hrow.max
        unfold maxLen at hrm
        have hdeg := HSM.out.deg i
        have HRW := Lib.hid hrow
        have HCG := Lib.hid cg0
        have HGB := Lib.hid hgb
        have R1 : Hid (Trn2 g i wr (.slice none 0 0) (.int .i64 0) wr) := Lib.hid ⟨0, Nat.zero_le _, rfl, World.ownsRow_nil _ _ _ _, Below.refl _ _⟩
        have HBW := Lib.hid hbw
        have HBO := Lib.hid hB
        clear hgc hrow cg0 hbw hB hgb
        go_wp2_with fail
        obtain ⟨W4, rfl⟩ : ∃ W4 : World, W4 = wr := ⟨_, rfl⟩
        go_loopw [7, 8] (fun s7 s8 wr => Trn2 g i W4 s7 s8 wr) (fun _ s8 _ => degW g i - (intOf s8).toNat)
        case atStart => exact R1.out
        case round =>
          clear R1
          obtain ⟨k, hk, rfl, hown, hB⟩ := hrel
          have hbw : Below w.heap.size w wr := HBW.out.trans (hB.mono HBW.out.size)
          have cg := (hbw.cell (p := ⟨gb, go + i, none⟩) HGB.out).trans HCG.out
          obtain ⟨va, vc, rfl⟩ := own_shapeM hown
          have hfl := filtP_len g i k
          by_cases hkl : k < degW g i
          · have t2 : decide ((k : Int) < degW g i) = true := by simp; omega
            have t2' : decide (k < degW g i) = true := by simpa using hkl
            obtain ⟨rb, ro, rfl, hrc⟩ := Row_at (Row_cells HRW.out hbw) (by omega)
            have ck := hrc k hkl
            obtain ⟨y, hy⟩ : ∃ y, (g.getD i []).getD k 0 = y := ⟨_, rfl⟩
            rw [hy] at ck
            have hfn := filtP_next g i k hkl
            rw [show edgeW g i k = y from hy, HN.out] at hfn
            clear hrc hy hbw
            by_cases hin : 0 ≤ y ∧ y < (len : Int)
            · rw [if_pos hin] at hfn
              have t3 : decide (y ≥ 0) = true := by simp; omega
              have t3' : decide (0 ≤ y) = true := by simp; omega
              have t4 : decide (y < (len : Int)) = true := by simp; omega
              obtain ⟨q, hq⟩ : ∃ q, (filtP g i k).length = q := ⟨_, rfl⟩
              rw [hq] at hown hfl
              have FIN : Hid (∀ va5 vc5 w5, w5.ownsRow W4.heap.size 3 1 (.slice va5 (q + 1) vc5) (q + 1) ((filtP g i k).map (Value.int .i64) ++ [.int .i64 y]) → (wr.alloc (.cells #[.int .i64 y] 3)).grownBy w5 (Value.slice va q vc).ownBlock → Trn2 g i W4 (.slice va5 (q + 1) vc5) (.int .i64 ((k + 1 : Nat) : Int)) w5) := Lib.hid fun va5 vc5 w5 ho hg => by
                refine ⟨k + 1, by omega, rfl, ?_, (hB.alloc hB.size _).grown hg (by have := hB.size; rw [World.size_alloc]; omega) (fun z hz => (own_block_lt hown z hz))⟩
                rw [hfn, List.length_append, List.map_append, hq]
                exact ho
              have HOW := Lib.hid hown
              have HNW := Lib.hid (cell_one_new wr (.int .i64 y) 3)
              have HM1 := Lib.hid (show q + 1 ≤ maxLen by unfold maxLen; omega)
              have HM2 := Lib.hid (show (q + 1) * 8 ≤ 140737488355328 by omega)
              have HB9 := Lib.hid (show W4.heap.size ≤ (wr.alloc (.cells #[.int .i64 y] 3)).heap.size by have := hB.size; rw [World.size_alloc]; omega)
              rw [hq]
              clear hown hB hfn hq hin
              go_wp2_with (at_builtin; refine wpList_append_own _ rfl (.tmp 69) (.tmp 77) 26 rfl W4.heap.size 3 i0 (.int .i64 0) 1 8 Tryd.underlying26 HI.out HZ0.out HZ1.out HZ2.out rfl (by decide) (.slice va q vc) q _ rfl (HOW.out.alloc _) ⟨wr.heap.size, 0, none⟩ 1 1 [.int .i64 y] rfl rfl HNW.out (by simp [Value.oneCell']) HM1.out HM2.out HB9.out ?_; intro v5 w5 hown5 hgrow5 hnil5; obtain ⟨va5, vc5, rfl⟩ := own_shapeM hown5; replace hown5 := Lib.hid (FIN.out va5 vc5 w5 hown5 hgrow5); clear hgrow5 hnil5)
              go_roundw
              case rel => obtain ⟨k2, h1, h2, h3⟩ := hown5.out; exact ⟨k2, h1, by rw [← h2]; go_num, h3⟩
              case measure => simp [intOf]; omega
            · rw [if_neg hin] at hfn
              have FIN : Hid (Trn2 g i W4 (.slice va (filtP g i k).length vc) (.int .i64 ((k + 1 : Nat) : Int)) wr) := Lib.hid ⟨k + 1, by omega, rfl, by rw [hfn]; exact hown, hB⟩
              clear hown hB hfn
              by_cases hy0 : y < 0
              · have t3 : decide (y ≥ 0) = false := by simpa using hy0
                have t3' : decide (0 ≤ y) = false := by simpa using hy0
                clear hin hy0
                go_wp2_with fail
                go_roundw
                case rel => obtain ⟨k2, h1, h2, h3⟩ := FIN.out; exact ⟨k2, h1, by rw [← h2]; go_num, h3⟩
                case measure => simp [intOf]; omega
              · have t3 : decide (y ≥ 0) = true := by simp; omega
                have t3' : decide (0 ≤ y) = true := by simp; omega
                have t4 : decide (y < (len : Int)) = false := by simp; omega
                clear hin hy0
                go_wp2_with fail
                go_roundw
                case rel => obtain ⟨k2, h1, h2, h3⟩ := FIN.out; exact ⟨k2, h1, by rw [← h2]; go_num, h3⟩
                case measure => simp [intOf]; omega
          · obtain rfl : k = degW g i := by omega
            have t2 : decide ((degW g i : Int) < degW g i) = false := by simp
            have t2' : decide (degW g i < degW g i) = false := by simp
            rw [filtP_all] at hown hfl
            have hb3 : Below w3.heap.size w3 wr := HBO.out.trans (hB.mono HBO.out.size)
            have hwfz : ∀ x ∈ inG g i, (Lit.int .i64 x).wf = true := fun x hx => by
              have := filtP_in g i (degW g i) x (by rw [filtP_all]; exact hx)
              have := HN.out
              exact wf64 (by omega) (by omega)
            obtain ⟨va2, vc2, hv2, hrz⟩ := row_of_owns hown hwfz
            have e2 := Value.slice.inj hv2
            obtain ⟨rfl, rfl⟩ : va = va2 ∧ vc = vc2 := ⟨e2.1, e2.2.2⟩
            have heq : predF (turnG g) i = sortU (inG g i) := turned_twice g (by rw [HN.out]; exact hlt) _ (sortU_pair _) (fun z => sortU_mem z _)
            obtain ⟨ba, bc, hbv, hrb⟩ := HS3.out.fam.row hlt (fun x hx => by
              rw [heq] at hx
              exact hwfz x ((sortU_mem x _).1 hx))
            have cb0 := HS3.out.cell hlt
            rw [hbv] at cb0
            have hb3' : Below w3.heap.size w3 wr := hb3
            have cb := (hb3.cell (p := ⟨w2.heap.size, i, none⟩) HS3.out.lt).trans cb0
            have hrb2 := Row_cells hrb hb3
            rw [heq] at cb hrb2
            have hsl := sortU_len (inG g i)
            obtain ⟨m, hm⟩ : ∃ m, (inG g i).length = m := ⟨_, rfl⟩
            obtain ⟨sn, hsn⟩ : ∃ sn, (sortU (inG g i)).length = sn := ⟨_, rfl⟩
            try rw [filtP_all, hm]
            rw [hm] at hrz hfl hsl
            rw [hsn] at cb hrb2 hsl
            have KS : Hid (∀ w', Below wr.heap.size wr w' → Calls Tryd.prog 23 #[.slice va m vc] w' (fun e w'' => ∃ sa sc, e = .returned (.slice sa sn sc) ∧ Row .i64 w'' sa sn sc (sortU (inG g i)) ∧ Below wr.heap.size wr w'')) := Lib.hid fun w' hb' => by
              refine (sorted_any va m vc (inG g i) w' (Row_cells hrz hb') (by omega)).mono ?_
              rintro e w'' ⟨v, rfl, h1, h2⟩
              obtain ⟨sa, sc, rfl, h3⟩ := row_of_owns h1 (fun x hx => hwfz x ((sortU_mem x _).1 hx))
              rw [hsn] at h3 ⊢
              exact ⟨sa, sc, rfl, h3, hb'.trans (h2.mono hb'.size)⟩
            have KI : Hid (∀ (w' : World) (sa : Option Addr) (sc : Nat), Row .i64 w' sa sn sc (sortU (inG g i)) → Below wr.heap.size wr w' → Calls Tryd.prog 28 #[.slice ba sn bc, .slice sa sn sc] w' (fun e w'' => e = .returned (.bool true) ∧ Below wr.heap.size wr w'')) := Lib.hid fun w' sa sc h1 hb' => by
              refine (same_ints ba sa sn bc sn sc _ _ w' (Row_cells hrb2 hb') h1 (by omega)).mono ?_
              rintro e w'' ⟨rfl, n, rfl⟩
              exact ⟨by simp, below_drewN hb' n⟩
            have HM1 : Hid (Below wr.heap.size wr wr.drew) := Lib.hid (below_drew (Below.refl _ _))
            have KEEP : Hid (∀ w', Below wr.heap.size wr w' → w'.cell? ⟨w2.heap.size, i, none⟩ = some (.slice ba sn bc)) := Lib.hid fun w' hb' => (hb'.cell (World.block_lt_of_cell? wr _ cb)).trans cb
            have HBB := Lib.hid hb3'
            clear hown hB hfl hb3 hb3' hbw hwfz hv2 hrz e2 heq hbv hrb cb0 hrb2 hsl hm hsn
            go_upto_region 17 with (fail)
            go_region_held3 (fun w' => w'.cell? ⟨w2.heap.size, i, none⟩ = some (.slice ba sn bc)) (first | exact KEEP.out _ HM1.out | (exact KEEP.out _ (by assumption)) | fail)
              ((first
                | (go_at_call 23; (with_reducible refine (KS.out _ (by first | exact HM1.out | assumption)).mono ?_); rintro e wx ⟨sa, sc, rfl, hsr, hsb⟩)
                | (go_at_call 28; (with_reducible refine (KI.out _ _ _ (by assumption) (by first | exact HM1.out | assumption)).mono ?_); rintro e wx2 ⟨rfl, hsb2⟩)
                | fail))
            all_goals
              have FIN := Lib.hid (HBB.out.trans (hsb2.mono HBB.out.size))
              clear hsr hsb hsb2 KS KI KEEP cb
              go_wp2_with fail
              go_roundw
              case rel => exact ⟨i + 1, by omega, by go_num, FIN.out⟩
              case measure => simp [intOf]; omega
      · obtain rfl : len = i := by omega
        have t1 : decide ((len : Int) < len) = false := by simp
        have t1' : decide (len < len) = false := by simp
        have HBB := Lib.hid (HB3.out.trans (hB.mono HB3.out.size))
        clear hB
        go_wp2_with fail
        go_ret
        exact ⟨rfl, HBB.out⟩

theorem turned_main (a : Option Addr) (len cap : Nat) (g : List (List Int)) (w : World) (hg : Grfs w a len cap g) (hL : laidMetH Tryd.prog Rows.flowTurnedRow.laid w) :
    Calls Tryd.prog 10 #[.slice a len cap] w (TruePost w) := turned_law a len cap g w hg (tab_of_laid hL)

end Go.Proofs.YtchechdcebmoeaaDoor

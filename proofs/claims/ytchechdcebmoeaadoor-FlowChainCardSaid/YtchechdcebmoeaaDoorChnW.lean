/-
  The law on a chain.
-/
import Derived.Test.YtchechdcebmoeaaDoorChnP
import Derived.Test.YtchechdcebmoeaaDoorFwF
import Derived.Test.YtchechdcebmoeaaDoorTabB
namespace Go.Proofs.YtchechdcebmoeaaDoor
open Go.RowKit

def Chn1 (N : Nat) (W : World) (s7 : Value) (wr : World) : Prop :=
  ∃ i : Nat, i + 1 ≤ N ∧ s7 = .int .i64 i ∧ ∃ vs, Rws W.heap.size W.heap.size N vs (row1F i) wr ∧ Below W.heap.size W wr
def Chn2 (N len : Nat) (t : Nat → Option Nat) (W : World) (s8 s9 : Value) (wr : World) : Prop :=
  ∃ i : Nat, i ≤ N ∧ i ≤ len ∧ s9 = .int .i64 i ∧ s8 = .int .i64 (cntT t i : Nat) ∧ ∃ vs, Rws W.heap.size W.heap.size N vs (rowF N t i) wr ∧ Below W.heap.size W wr
def Chn3 (N : Nat) (s12 : Value) (w5 wr : World) : Prop := ∃ i : Nat, i ≤ N ∧ s12 = .int .i64 i ∧ wr = w5

set_option maxHeartbeats 8000000 in
set_option maxRecDepth 100000 in
theorem chain_law (n : Int) (a : Option Addr) (len cap : Nat) (zs : List Int) (w : World) (_hn : (Lit.int .i64 n).wf = true) (hl : Row .i64 w a len cap zs) (hT : TabOk w) :
    Calls Tryd.prog 11 #[.int .i64 n, .slice a len cap] w (TruePost w) := by
  have K1 := Lib.hid (ffirst w hT)
  unfold TruePost at K1
  have hle := hl.le
  have hmax := hl.max
  have hll := hl.len_eq
  unfold maxLen at hmax
  have HL := Lib.hid hl
  obtain ⟨r, hr⟩ : ∃ r, n.tmod 50 = r := ⟨_, rfl⟩
  have hrb := rem_bounds n (N := 50) (by omega)
  have hrb : -50 < r ∧ r < 50 := by rw [← hr]; exact hrb
  have hqb := rem_again (r := r) (N := 50) (by omega) (by omega)
  have hqb : 0 ≤ (r + 50).tmod 50 ∧ (r + 50).tmod 50 < 50 := hqb
  obtain ⟨N, hN⟩ : ∃ N : Nat, (r + 50).tmod 50 = (N : Int) - 2 := ⟨((r + 50).tmod 50 + 2).toNat, by omega⟩
  have hN1 : 2 ≤ N ∧ N ≤ 51 := by omega
  have w1 : IntKind.i64.wrap (r + 50) = r + 50 := IntWalk.i64_in _ (by omega)
  have w2 : IntKind.i64.wrap ((N : Int) - 2 + 2) = (N : Int) := (IntWalk.i64_in _ (by omega)).trans (by omega)
  obtain ⟨i1, hj, hy0, hy1, hy2⟩ := info_parts rowinfoM
  have HJ := Lib.hid hj
  have HY0 := Lib.hid hy0
  have HY1 := Lib.hid hy1
  have HY2 := Lib.hid hy2
  obtain ⟨i0, hi, hz0, hz1, hz2⟩ := info_parts intinfoW
  have HI := Lib.hid hi
  have HZ0 := Lib.hid hz0
  have HZ1 := Lib.hid hz1
  have HZ2 := Lib.hid hz2
  have HM := Lib.hid (show N ≤ maxLen by unfold maxLen; omega)
  have HMB := Lib.hid (show 24 * N ≤ 281474976710656 by omega)
  have hNa := hN1.1
  have hNb := hN1.2
  have hra := hrb.1
  have hrc := hrb.2
  clear _hn hl hT hqb hi hz0 hz1 hz2 hj hy0 hy1 hy2 hN1 hrb
  go_enter Tryd.func11, Tryd.ntmps11
  go_wp2_with fail
  refine K1.out.mono ?_
  rintro e w3 ⟨rfl, hb3⟩
  have HB3 := Lib.hid hb3
  clear hb3 K1
  by_cases h50 : 50 < len
  · have t0 : decide ((len : Int) > 50) = true := by simp; omega
    go_wp2_with fail
    go_ret
    exact ⟨rfl, HB3.out⟩
  · have t0 : decide ((len : Int) > 50) = false := by simp; omega
    go_wp2_with (at_make; refine wpList_make_len _ rfl (.tmp 27) (.tmp 27) 80 rfl w3.heap.size 26 i1 (.slice none 0 0) 24 Tryd.underlying80 HJ.out HY0.out HY1.out HY2.out rfl .i64 .i64 _ _ N N rfl rfl (by simp) (by simp) (Nat.le_refl _) HMB.out HM.out (Nat.le_refl _) ?_; intro w6 hown6 hg6; have hS6 := Lib.hid (rws_made hown6); have hB6 := Lib.hid (Below.grown (Below.refl _ w3) hg6 (Nat.le_refl _) (by simp)); clear hown6 hg6)
    clear w1 w2 hr hN hrb hqb
    have R0 : Hid (Chn1 N w3 (.int .i64 0) w6) := Lib.hid ⟨0, by omega, rfl, _, hS6.out.congr (fun j _ => by unfold row1F; rw [if_neg (Nat.not_lt_zero j)]), hB6.out⟩
    clear hS6 hB6
    go_loopw [7] (fun s7 wr => Chn1 N w3 s7 wr) (fun s7 _ => N - (intOf s7).toNat)
    case atStart => exact R0.out
    case round =>
      clear R0
      obtain ⟨i, hi, rfl, vs, hS, hB⟩ := hrel
      have wsi : wrap64 ((i : Int) + 1) = (i : Int) + 1 := wrap64_id (by omega) (by omega)
      have wsj : IntKind.i64.wrap ((i : Int) + 1) = (i : Int) + 1 := IntWalk.i64_in _ (by omega)
      by_cases hlt : i + 1 < N
      · have t1 : decide ((i : Int) + 1 < N) = true := by simp; omega
        have hin : i < N := by omega
        obtain ⟨f1, ⟨v0, f2⟩, f3⟩ := hS.put (x := ((i + 1 : Nat) : Int)) hin (by unfold row1F; rw [if_neg (Nat.lt_irrefl i)])
        have FIN := Lib.hid (f3.congr fun j _ => row1F_next i j)
        have HBB := Lib.hid ((hB.alloc hB.size (.cells #[.int .i64 ((i + 1 : Nat) : Int)] 3)).setCell (p := ⟨w3.heap.size, i, none⟩) (Nat.le_refl _) (.slice (some ⟨wr.heap.size, 0, none⟩) 1 1))
        clear hS hB f3
        rw [show ((i + 1 : Nat) : Int) = (i : Int) + 1 by omega] at f1 f2 FIN HBB
        go_wp2_with fail
        go_roundw
        case rel => exact ⟨i + 1, by omega, by go_num, _, FIN.out, HBB.out⟩
        case measure => simp [intOf]; omega
      · have t1 : decide ((i : Int) + 1 < N) = false := by simp; omega
        obtain ⟨t, ht⟩ : ∃ t, tF zs len N = t := ⟨_, rfl⟩
        have htl : ∀ j x, t j = some x → x ≤ j := fun j x h => tF_le zs len N j x (by rw [ht]; exact h)
        have R1 : Hid (Chn2 N len t w3 (.int .i64 0) (.int .i64 0) wr) := Lib.hid ⟨0, by omega, by omega, rfl, rfl, _, hS.congr (fun j hj => by rw [show i = N - 1 by omega]; exact row1F_all (by omega) t j hj), hB⟩
        have HTL := Lib.hid htl
        have HTT := Lib.hid ht
        clear hS hB htl ht hlt hi
        go_wp2_with fail
        clear wsi wsj t1
        go_loopw [8, 9] (fun s8 s9 wr => Chn2 N len t w3 s8 s9 wr) (fun _ s9 _ => N - (intOf s9).toNat)
        case atStart => exact R1.out
        case round =>
          clear R1
          obtain ⟨i, hi, hi2, rfl, rfl, vs, hS, hB⟩ := hrel
          have hcl := cnt_le t i
          by_cases hin : i < len ∧ i < N
          · have t1 : decide ((i : Int) < len) = true := by simp; omega
            have t1' : decide (i < len) = true := by simp; omega
            have t2 : decide ((i : Int) < N) = true := by simp; omega
            have t2' : decide (i < N) = true := by simp; omega
            have hi1 := hin.1
            have hi3 := hin.2
            have hbw : Below w.heap.size w wr := HB3.out.trans (hB.mono HB3.out.size)
            obtain ⟨lb, lo, rfl, hlc⟩ := Row_at (Row_cells HL.out hbw) (by omega)
            have cx := hlc i hi1
            obtain ⟨x, hx⟩ : ∃ x, zs.getD i 0 = x := ⟨_, rfl⟩
            rw [hx] at cx
            have hb1 := rem_bounds x (N := N) (by omega)
            obtain ⟨q, hq⟩ : ∃ q, x.tmod N = q := ⟨_, rfl⟩
            rw [hq] at hb1
            have hb2 := rem_again (r := q) (N := N) (by omega) hb1.1
            obtain ⟨s, hs⟩ : ∃ s : Nat, (q + N).tmod N = (s : Int) := ⟨((q + N).tmod N).toNat, by omega⟩
            rw [hs] at hb2
            have htf : t i = if s ≤ i then some s else none := by
              rw [← HTT.out, tF, if_pos hin, hx, hq, hs, Int.toNat_natCast]
            have wq : IntKind.i64.wrap (q + (N : Int)) = q + N := IntWalk.i64_in _ (by omega)
            have z1 : ((N : Int) == 0) = false := by simp; omega
            have z2 : ¬ (N : Int) = 0 := by omega
            have z3 : ¬ N = 0 := by omega
            have hqa := hb1.1
            have hqb := hb1.2
            have hsb := hb2.2
            clear hin hx hb1 hb2 hlc hbw
            by_cases hsi : s ≤ i
            · rw [if_pos hsi] at htf
              have t3 : decide ((s : Int) ≤ i) = true := by simp; omega
              have t3' : decide (s ≤ i) = true := by simpa using hsi
              obtain ⟨ga, gc, hv, hgc, hgm⟩ := hS.fam.shape hi3
              have co := hS.cell hi3
              have how := hS.fam.own i hi3
              have hrl := rowF_len N t i i
              rw [hv] at co how
              obtain ⟨k, hk⟩ : ∃ k, (rowF N t i i).length = k := ⟨_, rfl⟩
              rw [hk] at hv co how hgc hrl
              have FIN : Hid (∀ va vc w5, w5.ownsRow w3.heap.size 3 1 (.slice va (k + 1) vc) (k + 1) ((rowF N t i i).map (Value.int .i64) ++ [.int .i64 (s : Int)]) → (wr.alloc (.cells #[.int .i64 (s : Int)] 3)).grownBy w5 (Value.slice ga k gc).ownBlock →
                  ((Value.slice va (k + 1) vc).ownBlock = (Value.slice ga k gc).ownBlock ∨ (Value.slice va (k + 1) vc).ownBlock = some (wr.alloc (.cells #[.int .i64 (s : Int)] 3)).heap.size) →
                  (w5.frozen? ⟨w3.heap.size, i, none⟩ = false ∧ w5.cell? ⟨w3.heap.size, i, none⟩ = some (.slice ga k gc)) ∧ ∃ vs, Rws w3.heap.size w3.heap.size N vs (rowF N t (i + 1)) (w5.setCell ⟨w3.heap.size, i, none⟩ (.slice va (k + 1) vc)) ∧ Below w3.heap.size w3 (w5.setCell ⟨w3.heap.size, i, none⟩ (.slice va (k + 1) vc))) := Lib.hid fun va vc w5 ho hg hat => by
                have hg2 : (wr.alloc (.cells #[.int .i64 (s : Int)] 3)).grownBy w5 (vs i).ownBlock := by rw [hv]; exact hg
                obtain ⟨f1, f2, f3⟩ := hS.app (w1 := wr.alloc (.cells #[.int .i64 (s : Int)] 3)) (w5 := w5) (v' := .slice va (k + 1) vc) (x := (s : Int)) hi3 (fun k hk => Below.heap_alloc _ _ _ hk) (by rw [World.size_alloc]; omega) (by rw [hk]; exact ho) hg2 (by rw [hv]; exact hat)
                refine ⟨⟨f1, by rw [f2, hv]⟩, _, f3.congr fun j _ => rowF_some htf j, ?_⟩
                exact hS.below rfl hB hi3 ((Below.refl _ wr).alloc (by have := hS.lt; omega) _) hg2
              have HOW := Lib.hid how
              have HNW := Lib.hid (cell_one_new wr (.int .i64 (s : Int)) 3)
              have HM1 := Lib.hid (show k + 1 ≤ maxLen by unfold maxLen; omega)
              have HM2 := Lib.hid (show (k + 1) * 8 ≤ 140737488355328 by omega)
              have HB9 := Lib.hid (show w3.heap.size ≤ (wr.alloc (.cells #[.int .i64 (s : Int)] 3)).heap.size by have := hS.lt; rw [World.size_alloc]; omega)
              have HCN : Hid (cntT t (i + 1) = cntT t i + 1) := Lib.hid (by simp [cntT, htf])
              generalize cntT t i = C at *
              clear hS hB hv how hk htf hsi
              go_wp2_with (at_builtin; refine wpList_append_own_at _ rfl (.tmp 70) (.tmp 72) 26 rfl w3.heap.size 3 i0 (.int .i64 0) 1 8 Tryd.underlying26 HI.out HZ0.out HZ1.out HZ2.out rfl (by decide) (.slice ga k gc) k _ rfl (HOW.out.alloc _) ⟨wr.heap.size, 0, none⟩ 1 1 [.int .i64 (s : Int)] rfl rfl HNW.out (by simp [Value.oneCell']) HM1.out HM2.out HB9.out ?_; intro v5 w5 hown5 hgrow5 hnil5 hat5; obtain ⟨va5, vc5, rfl⟩ := own_shapeM hown5; replace hown5 := Lib.hid (FIN.out va5 vc5 w5 hown5 hgrow5 hat5); have fz := hown5.out.1.1; have cz := hown5.out.1.2; clear hgrow5 hnil5 hat5)
              go_roundw
              case rel => exact ⟨i + 1, by omega, by omega, by go_num, by rw [HCN.out]; go_num, hown5.out.2⟩
              case measure => simp [intOf]; omega
            · rw [if_neg hsi] at htf
              have t3 : decide ((s : Int) ≤ i) = false := by simp; omega
              have t3' : decide (s ≤ i) = false := by simpa using hsi
              have FIN := Lib.hid (hS.congr fun j _ => (rowF_none (N := N) htf j).symm)
              have HBB := Lib.hid hB
              have HCN : Hid (cntT t (i + 1) = cntT t i) := Lib.hid (by simp [cntT, htf])
              generalize cntT t i = C at *
              clear hS hB htf hsi
              go_wp2_with fail
              go_roundw
              case rel => exact ⟨i + 1, by omega, by omega, by go_num, by rw [HCN.out], vs, FIN.out, HBB.out⟩
              case measure => simp [intOf]; omega
          · have hnone : ∀ j, i ≤ j → j < N → t j = none := fun j h1 h2 => by
              rw [← HTT.out, tF, if_neg (by omega)]
            have hchn := chn_of (N := N) (i := i) (t := t) (by omega) HTL.out hnone
            have hcnt := cnt_end (t := t) (i := i) N (by omega) hnone
            have hwalk := chain_walk hchn
            have hgrf := hS.grf (by unfold maxLen; omega) (fun j hj => rowF_wf (by omega) HTL.out i j hj)
            obtain ⟨g, hg⟩ : ∃ g, (List.range N).map (rowF N t i) = g := ⟨_, rfl⟩
            rw [hg] at hchn hwalk hgrf
            have hlen : g.length = N := hchn.len
            have hdeg : ∀ v, degW g v ≤ 2 := fun v => by
              by_cases hv : v < N
              · rw [← hg]; unfold degW; simp [List.getD, hv]; exact rowF_len N t i v
              · unfold degW; rw [← hg]; simp [List.getD, hv]
            have hmu := muW_max g 2 hdeg
            rw [hlen] at hmu
            have hdeg2 : ∀ v, degW g v ≤ 1000000 := fun v => by have := hdeg v; omega
            have hne : g ≠ [] := fun e => by rw [e] at hlen; simp at hlen; omega
            have KO0 := orderW_any (some ⟨w3.heap.size, 0, none⟩) N g (muW g beginW + 1) wr (by rw [hlen]; exact hgrf) (by rw [hlen]; omega) (Nat.le_refl _) (by omega) hdeg2
            unfold OrderWPost at KO0
            have hrev : (walkW g).left.reverse = List.range N := by rw [hwalk.1, chL_rev]
            have hleft : (walkW g).left.length = N := by
              have := congrArg List.length hrev
              simpa using this
            rw [hrev, hleft, hlen] at KO0
            have KO := Lib.hid KO0
            have hloops : (pairsZ (dedE (walkW g).loops)).length = cntT t i := by
              rw [hwalk.2, dedE_nodup _ (chE_nodup t N 0)]
              have h1 := chE_len t N 0 (Nat.zero_le _)
              have h2 : cntT t 0 = 0 := rfl
              have h3 : (pairsZ (chE t N 0)).length = (chE t N 0).length := by simp [pairsZ]
              omega
            have KL : Hid (∀ w', Below wr.heap.size wr w' → Calls Tryd.prog 55 #[.slice (some ⟨w3.heap.size, 0, none⟩) N N] w' fun e w'' => ∃ va vc, e = .returned (.slice va (cntT t i) vc) ∧ Below w'.heap.size w' w'') := Lib.hid fun w' hb' => by
              have h := loops_any (some ⟨w3.heap.size, 0, none⟩) N g (muW g beginW + 1) w' (by rw [hlen]; exact hgrf.below hb') (by rw [hlen]; omega) (Nat.le_refl _) (by omega) hdeg2 (.inr (walk_ok g (by rw [hlen]; omega)))
              rw [hlen] at h
              refine h.mono ?_
              rintro e w'' ⟨bs, v, rfl, hkv, hb⟩
              obtain ⟨va, vc, rfl⟩ := own_shapeM hkv.own
              rw [hloops]
              exact ⟨va, vc, rfl, hb⟩
            have HBW : Hid (Below w.heap.size w wr) := Lib.hid (HB3.out.trans (hB.mono HB3.out.size))
            clear hS hB hnone hchn hcnt hwalk hgrf hg hlen hdeg hmu hdeg2 hne KO0 hrev hleft hloops HTL HTT
            have hcl2 : cntT t i ≤ 51 := by omega
            generalize cntT t i = C at *
            have two : decide ((i : Int) < len) = false ∧ decide (i < len) = false ∨ (decide ((i : Int) < len) = true ∧ decide (i < len) = true) ∧ decide ((i : Int) < N) = false ∧ decide (i < N) = false := by
              by_cases h1 : i < len
              · exact .inr ⟨⟨by simp; omega, by simp; omega⟩, by simp; omega, by simp; omega⟩
              · exact .inl ⟨by simp; omega, by simp; omega⟩
            clear hin hi hi2
            rcases two with ⟨t1, t1'⟩ | ⟨⟨t1, t1'⟩, t2, t2'⟩
            all_goals
              go_wp2_with fail
              refine KO.out.mono ?_
              rintro e w5 ⟨v, rfl, hov, hb5⟩
              have hov2 : w5.ownsRow wr.heap.size 3 1 v N (((List.range N).map fun x : Nat => (x : Int)).map (Value.int .i64)) := by rw [List.map_map]; exact hov
              obtain ⟨oa, oc, rfl, hor⟩ := row_of_owns hov2 (fun x hx => by
                obtain ⟨y, hy, rfl⟩ := List.mem_map.1 hx
                have := List.mem_range.1 hy
                exact wf64 (by omega) (by omega))
              have HOR := Lib.hid hor
              have HB5 := Lib.hid hb5
              have hol := hor.le
              have hom := hor.max
              unfold maxLen at hom
              have R3 : Hid (Chn3 N (.int .i64 0) w5 w5) := Lib.hid ⟨0, by omega, rfl, rfl⟩
              clear hov hov2 hor hb5 KO
              try clear t2 t2'
              clear t1 t1'
              go_wp2_with fail
              go_loopw [12] (fun s12 wr => Chn3 N s12 w5 wr) (fun s12 _ => N - (intOf s12).toNat)
              case atStart => exact R3.out
              case round =>
                clear R3
                obtain ⟨j, hj, rfl, rfl⟩ := hrel
                by_cases hjn : j < N
                · have t1 : decide ((j : Int) < N) = true := by simp; omega
                  have t1' : decide (j < N) = true := by simpa using hjn
                  obtain ⟨lb, lo, rfl, hlc⟩ := Row_at HOR.out (by omega)
                  have cj := hlc j hjn
                  rw [show ((List.range N).map fun x : Nat => (x : Int)).getD j 0 = (j : Int) by simp [List.getD, hjn]] at cj
                  clear hlc
                  go_wp2_with fail
                  go_roundw
                  case rel => exact ⟨j + 1, by omega, by go_num, rfl⟩
                  case measure => simp [intOf]; omega
                · have t1 : decide ((j : Int) < N) = false := by simp; omega
                  have t1' : decide (j < N) = false := by simpa using hjn
                  have KL2 := Lib.hid (KL.out _ HB5.out)
                  clear KL
                  go_wp2_with fail
                  refine KL2.out.mono ?_
                  rintro e w9 ⟨va, vc, rfl, hb9⟩
                  have FIN := Lib.hid (HBW.out.trans ((HB5.out.mono HBW.out.size).trans (hb9.mono (Nat.le_trans HBW.out.size HB5.out.size))))
                  clear hb9 KL2
                  go_wp2_with fail
                  go_ret
                  exact ⟨by simp, FIN.out⟩

theorem chain_main (n : Int) (a : Option Addr) (len cap : Nat) (zs : List Int) (w : World) (hn : (Lit.int .i64 n).wf = true) (hl : Row .i64 w a len cap zs) (hL : laidMetH Tryd.prog Rows.flowChainRow.laid w) :
    Calls Tryd.prog 11 #[.int .i64 n, .slice a len cap] w (TruePost w) := chain_law n a len cap zs w hn hl (tab_of_laid hL)

end Go.Proofs.YtchechdcebmoeaaDoor

/-
  The document's order and loops, by a contract.
-/
import Derived.Test.YtchechdcebmoeaaDoorWlkP
import Derived.Deep.RegionHeld3
import Derived.Deep.QuietTactic
import Derived.BigQuiet
namespace Go.Proofs.YtchechdcebmoeaaDoor
open Go.RowKit

def WalkPost (g : List (List Int)) (w : World) (e : Ending) (w' : World) : Prop :=
  ∃ oa oc la lc, e = .returned (.tuple #[.slice oa (walkW g).left.reverse.length oc, .slice la (dedE (walkW g).loops).length lc]) ∧ Row .i64 w' oa (walkW g).left.reverse.length oc ((walkW g).left.reverse.map fun x : Nat => (x : Int)) ∧
    Grf w' la (dedE (walkW g).loops).length lc (pairL (dedE (walkW g).loops)) ∧ Below w.heap.size w w'

/-- What has been turned so far. -/
def WlkRel (l : List Nat) (m : Nat) (W : World) (s5 s6 : Value) (wr : World) : Prop :=
  ∃ r : Nat, r ≤ m ∧ ((r = 0 ∧ s6 = .int .i64 (-1)) ∨ ∃ r' : Nat, r = r' + 1 ∧ s6 = .int .i64 (r' : Int)) ∧ wr.ownsRow W.heap.size 3 1 s5 (m - r) ((l.drop r).reverse.map fun (v : Nat) => Value.int .i64 (v : Int)) ∧ Below W.heap.size W wr

theorem wlk_next {l : List Nat} {r' : Nat} (h : r' < l.length) : (l.drop r').reverse = (l.drop (r' + 1)).reverse ++ [l.getD r' 0] := by
  rw [List.drop_eq_getElem_cons h, List.reverse_cons]
  simp [List.getD, h]

set_option maxHeartbeats 4000000 in
set_option maxRecDepth 100000 in
theorem walk_any (ga : Option Addr) (gc : Nat) (g : List (List Int)) (w : World) (hg : Grf w ga g.length gc g) (hn : g.length ≤ 60) (hN2 : muW g beginW + 1 ≤ 10000) (hd : ∀ v, degW g v ≤ 1000000) :
    Calls Tryd.prog 48 #[.slice ga g.length gc] w (WalkPost g w) := by
  have hle := hg.le
  have hmax := hg.max
  unfold maxLen at hmax
  by_cases h0 : g.length = 0
  · have e : g = [] := List.eq_nil_of_length_eq_zero h0
    have t0 : ((g.length : Int) == 0) = true := beq_iff_eq.2 (by omega)
    have FIN : Hid (WalkPost g w (.returned (.tuple #[.slice none 0 0, .slice none 0 0])) w) := Lib.hid (by
      subst e
      exact ⟨none, 0, none, 0, rfl, ⟨rfl, Nat.le_refl _, Nat.zero_le _, fun _ => rfl, (fun ad e => by cases e), fun z hz => by simp [walkW] at hz⟩, ⟨rfl, Nat.le_refl _, Nat.zero_le _, fun h => absurd h (Nat.lt_irrefl 0)⟩, Below.refl _ _⟩)
    obtain ⟨n, hnn⟩ : ∃ n, g.length = n := ⟨_, rfl⟩
    rw [hnn] at t0 hle ⊢
    clear hg hd e h0 hN2 hnn hn
    go_enter Tryd.func48, Tryd.ntmps48
    go_wp2_with fail
    exact bodyPost_ret (v := .tuple #[.slice none 0 0, .slice none 0 0]) (by simp [results, Tryd.results48, go_sem]) rfl FIN.out
  · have t0 : ((g.length : Int) == 0) = false := beq_eq_false_iff_ne.2 (by omega)
    have hpos : 0 < g.length := by omega
    have OK := ord_ok g hpos
    have WK := walk_ok g hpos
    have hsz := WK.size
    obtain ⟨s', hs', e1, e2, _⟩ := ref_walk g hpos (fun i => clnR g.length [] (g.getD i [])) (fun _ _ => rfl)
    have HS := Lib.hid hs'
    have HL0 : Hid (0 < s'.left.length) := Lib.hid (by rw [e1]; have := OK.first.1; simpa using this)
    have HL : Hid (s'.left.length ≤ 10000) := Lib.hid (by rw [e1]; omega)
    have HLO : Hid (s'.loops.length ≤ 10000) := Lib.hid (by rw [e2]; have := dedE_len (walkW g).loops; omega)
    have HSM : Hid (∀ e ∈ s'.loops, e.1 ≤ 1000000 ∧ e.2 ≤ 1000000) := Lib.hid fun e he => by
      rw [e2] at he
      have := OK.small e he
      omega
    have HLT : Hid (∀ v ∈ s'.left, v ≤ 1000000) := Lib.hid fun v hv => by
      rw [e1] at hv
      have := OK.lt v (List.mem_reverse.2 hv)
      omega
    unfold WalkPost
    rw [← e1, ← e2]
    have KC0 : Hid (∀ w', Below w.heap.size w w' → Calls Tryd.prog 108 #[.slice ga g.length gc] w' (CleanPost g w')) := Lib.hid fun w' hb => clean_any ga gc g w' (hg.below hb) (by omega) hd
    unfold CleanPost at KC0
    have HDG : Hid (∀ v, degW (cleanG g) v ≤ 1000000) := Lib.hid fun v => by
      by_cases hv : v < g.length
      · unfold degW
        rw [cleanG_at g hv]
        have := clnI_len g.length (g.getD v [])
        have := hd v
        unfold degW at this
        omega
      · unfold degW
        rw [show (cleanG g).getD v [] = [] from by simp [List.getD, List.getElem?_eq_none (by rw [cleanG_len]; omega : (cleanG g).length ≤ v)]]
        simp
    have HCE : Hid (∀ i, i < g.length → (cleanG g).getD i [] = (clnR g.length [] (g.getD i [])).map fun j : Nat => (j : Int)) := Lib.hid fun i hi => by rw [cleanG_at g hi, clnI_eq]
    obtain ⟨n, hnn⟩ : ∃ n, g.length = n := ⟨_, rfl⟩
    have HCL : Hid (∀ i, i < n → ∀ j ∈ clnR n [] (g.getD i []), j < n) := Lib.hid fun i _ j hj => clnR_lt _ _ _ j hj
    rw [hnn] at t0 hle hn hpos HS KC0 HCE ⊢
    generalize cleanG g = G at *
    have MKB := Lib.hid (mk_boolW n (by omega))
    have KC := Lib.hid (KC0.out _ (below_drew (Below.refl _ w)))
    have KC1 := Lib.hid (KC0.out _ (below_drew ((Below.refl _ w).alloc (Nat.le_refl _) (.cells ((List.range n).map fun _ => Value.bool false).toArray 4))))
    have KC2 := Lib.hid (KC0.out _ (below_drew (((Below.refl _ w).alloc (Nat.le_refl _) (.cells ((List.range n).map fun _ => Value.bool false).toArray 4)).alloc (by rw [World.size_alloc]; omega) (.cells ((List.range n).map fun _ => Value.bool false).toArray 4))))
    have M0 : Hid (∀ wx, Below w.heap.size w wx → Mk w n G [] none wx) := Lib.hid fun wx h => Mk.start h
    obtain ⟨i1, hj0, hy0, hy1, hy2⟩ := info_parts intinfoW
    have HJ := Lib.hid hj0
    have HY0 := Lib.hid hy0
    have HY1 := Lib.hid hy1
    have HY2 := Lib.hid hy2
    clear hg hd hnn h0 hN2 OK WK hsz hs' e1 e2 hj0 hy0 hy1 hy2
    go_enter Tryd.func48, Tryd.ntmps48
    go_upto_region 3 with (fail)
    go_cut [4] from 10 to 19 (fun s wx => Made w n G s wx)
    case first =>
      go_region_with (first | rw [MKB.out] | (go_at_call 108; (first | refine KC.out.mono ?_ | refine KC1.out.mono ?_ | refine KC2.out.mono ?_); rintro e w5 ⟨ca, cc, rfl, hgr, hb5⟩))
      all_goals
        go_wp2
        go_meet
        first
        | (have h := (((M0.out _ (below_drew (Below.refl _ w))).clean hgr hb5).make.make).swap.done; simp only [World.size_alloc] at h; exact h)
        | (have h := (((M0.out _ (below_drew (Below.refl _ w))).clean hgr hb5).make.make).done; simp only [World.size_alloc] at h; exact h)
        | (have h := ((((M0.out _ (Below.refl _ w)).make).keep (below_drew (Below.refl _ _))).clean hgr hb5).make.swap.done; simp only [World.size_alloc] at h; exact h)
        | (have h := ((((M0.out _ (Below.refl _ w)).make).keep (below_drew (Below.refl _ _))).clean hgr hb5).make.done; simp only [World.size_alloc] at h; exact h)
        | (have h := (((M0.out _ (Below.refl _ w)).make.make.keep (below_drew (Below.refl _ _))).clean hgr hb5).swap.done; simp only [World.size_alloc] at h; exact h)
        | (have h := (((M0.out _ (Below.refl _ w)).make.make.keep (below_drew (Below.refl _ _))).clean hgr hb5).done; simp only [World.size_alloc] at h; exact h)
    case rest =>
      obtain ⟨p, q, u, ca, cc, W0, rfl, hA, hbo, hgr, hW, hK, hW0⟩ := hcut
      have KE := Lib.hid (show Calls Tryd.prog 109 #[.pointer (some ⟨p, 0, none⟩), .int .i64 0] wc (EntPost w.heap.size W0.heap.size p q u n (.slice ca n cc) W0 s') from enter_any W0 hA hbo G _ hgr (by omega) HDG.out HCE.out HCL.out n 0 s0R s' [] (.slice none 0 0) (.slice none 0 0) wc hpos rfl HS.out hW hK (by have := HL.out; omega) (by have := HLO.out; omega))
      unfold EntPost at KE
      have HB0 : Hid (∀ w6, Kp w.heap.size q u W0 w6 → Below w.heap.size w W0 → Below w.heap.size w w6) := Lib.hid fun w6 h1 h2 => h2.trans h1.below
      have HA := Lib.hid hA
      have HW0 := Lib.hid hW0
      clear KC KC0 KC1 KC2 MKB M0 hA hbo hgr hW hK hW0 HDG HCE HCL HS hpos
      go_wp2_with fail
      refine KE.out.mono ?_
      rintro e w6 ⟨rfl, bs, lv, ov, hW, hK⟩
      unfold WdS at hW
      have HBE := Lib.hid (HB0.out w6 hK HW0.out)
      have hll := HL.out
      have hl0 := HL0.out
      have hown : w6.ownsRow W0.heap.size 3 1 lv (s'.left.map fun x : Nat => (x : Int)).length ((s'.left.map fun x : Nat => (x : Int)).map (Value.int .i64)) := by rw [List.length_map, List.map_map]; exact hW.left
      obtain ⟨la, lc, rfl, hlr⟩ := row_of_owns hown (fun x hx => by
        obtain ⟨y, hy, rfl⟩ := List.mem_map.1 hx
        have := HLT.out y hy
        exact wf64 (by omega) (by omega))
      rw [List.length_map] at hlr
      obtain ⟨oa, oc, rfl⟩ := own_shapeM hW.loops.own
      have c3 : w6.cell? ⟨p, 3, none⟩ = some (.slice la s'.left.length lc) := (cell_of_row w6 p 3 _ 160 (0, 0) hW.cp).trans (by rw [List.length_map]; rfl)
      have c4 : w6.cell? ⟨p, 4, none⟩ = some (.slice oa (pairsZ s'.loops).length oc) := (cell_of_row w6 p 4 _ 160 (0, 0) hW.cp).trans rfl
      obtain ⟨hol, hog⟩ := kv_grf hW.loops HSM.out
      rw [hol] at c4 hog
      have HP := Lib.hid hW.ltp
      have HC3 := Lib.hid c3
      have HC4 := Lib.hid c4
      have HLR := Lib.hid hlr
      have HOG := Lib.hid hog
      have hlrl := hlr.le
      have hlrm := hlr.max
      unfold maxLen at hlrm
      generalize hq1 : s'.left = l at *
      generalize hq2 : s'.loops = lo at *
      have HQ1 := Lib.hid hq1
      have HQ2 := Lib.hid hq2
      clear hq1 hq2
      obtain ⟨m, hm⟩ : ∃ m, l.length = m + 1 := ⟨l.length - 1, by omega⟩
      have HLM := Lib.hid hm
      rw [hm] at c3 HC3 HLR hlrl hll
      have t6 : IntKind.i64.wrap (((m + 1 : Nat) : Int) - 1) = (m : Int) := (IntWalk.i64_in _ (by omega)).trans (by omega)
      have t6' : IntKind.i64.wrap ((m : Int) + 1 - 1) = (m : Int) := (IntWalk.i64_in _ (by omega)).trans (by omega)
      have R0 : Hid (WlkRel l (m + 1) w6 (.slice none 0 0) (.int .i64 (m : Int)) w6) := Lib.hid ⟨m + 1, Nat.le_refl _, .inr ⟨m, rfl, rfl⟩, by
        rw [Nat.sub_self, List.drop_eq_nil_of_le (by omega)]
        exact World.ownsRow_nil _ _ _ _, Below.refl _ _⟩
      clear KE HB0 HW0 HA hW hK hown hlr c4 hol hog hl0 hm HL HL0 HLO HSM
      go_wp2_with fail
      clear c3 t6 t6'
      go_loopw [5, 6] (fun s5 s6 wr => WlkRel l (m + 1) w6 s5 s6 wr) (fun _ s6 _ => (intOf s6 + 1).toNat)
      case atStart => exact R0.out
      case round =>
        clear R0
        obtain ⟨r, hr, hcase, hown, hB⟩ := hrel
        obtain ⟨ra, rc, rfl⟩ := own_shapeM hown
        rcases hcase with ⟨rfl, rfl⟩ | ⟨r', rfl, rfl⟩
        · have c4 := (hB.cell (p := ⟨p, 4, none⟩) HP.out).trans HC4.out
          have hown2 : wr.ownsRow w6.heap.size 3 1 (.slice ra (m + 1 - 0) rc) (l.reverse.map fun x : Nat => (x : Int)).length ((l.reverse.map fun x : Nat => (x : Int)).map (Value.int .i64)) := by
            rw [List.length_map, List.map_map, List.length_reverse, HLM.out]
            exact hown
          obtain ⟨ra2, rc2, he2, hrr⟩ := row_of_owns hown2 (fun x hx => by
            obtain ⟨y, hy, rfl⟩ := List.mem_map.1 hx
            have := HLT.out y (List.mem_reverse.1 hy)
            exact wf64 (by omega) (by omega))
          rw [he2, List.length_map]
          rw [List.length_map] at hrr
          have FIN : Hid (∀ q, Row .i64 (wr.drewN q) ra2 l.reverse.length rc2 (l.reverse.map fun x : Nat => (x : Int)) ∧ Grf (wr.drewN q) oa lo.length oc (pairL lo) ∧ Below w.heap.size w (wr.drewN q)) := Lib.hid fun q =>
            ⟨Row_drewN hrr q, HOG.out.below (below_drewN hB q), below_drewN (HBE.out.trans (hB.mono HBE.out.size)) q⟩
          clear hown hown2 he2 hrr hB
          go_wp2_with fail
          go_quiet (fail)
          go_wp2_with fail
          exact bodyPost_ret (v := .tuple #[.slice ra2 l.reverse.length rc2, .slice oa lo.length oc]) (by simp [results, Tryd.results48, go_sem]) rfl ⟨ra2, rc2, oa, oc, by rw [HQ1.out, HQ2.out], by rw [HQ1.out, HQ2.out]; exact FIN.out _⟩
        · have c3 := (hB.cell (p := ⟨p, 3, none⟩) HP.out).trans HC3.out
          obtain ⟨lb, lo2, rfl, hlc⟩ := Row_at (Row_cells HLR.out hB) (by omega)
          have ck := hlc r' (by omega)
          have t1 : decide ((r' : Int) ≥ 0) = true := by simp
          have t1' : decide (0 ≤ (r' : Int)) = true := by simp
          have hrl : r' < l.length := by rw [HLM.out]; omega
          rw [show (l.map fun x : Nat => (x : Int)).getD r' 0 = ((l.getD r' 0 : Nat) : Int) by simp [List.getD, hrl]] at ck
          have hnx := wlk_next hrl
          obtain ⟨x, hx⟩ : ∃ x, l.getD r' 0 = x := ⟨_, rfl⟩
          rw [hx] at ck hnx
          obtain ⟨k, hk⟩ : ∃ k, m + 1 - (r' + 1) = k := ⟨_, rfl⟩
          rw [hk] at hown ⊢
          have t6 : IntKind.i64.wrap ((r' : Int) - 1) = (r' : Int) - 1 := IntWalk.i64_in _ (by omega)
          have HOW := Lib.hid hown
          have HNW := Lib.hid (cell_one_new wr (.int .i64 (x : Int)) 3)
          have HM1 := Lib.hid (show k + 1 ≤ maxLen by unfold maxLen; omega)
          have HM2 := Lib.hid (show (k + 1) * 8 ≤ 140737488355328 by omega)
          have HB3 := Lib.hid (show w6.heap.size ≤ (wr.alloc (.cells #[.int .i64 (x : Int)] 3)).heap.size by have := hB.size; rw [World.size_alloc]; omega)
          have FIN : Hid (∀ va5 vc5 w5, w5.ownsRow w6.heap.size 3 1 (.slice va5 (k + 1) vc5) (k + 1) (((l.drop (r' + 1)).reverse.map fun (v : Nat) => Value.int .i64 (v : Int)) ++ [.int .i64 (x : Int)]) → (wr.alloc (.cells #[.int .i64 (x : Int)] 3)).grownBy w5 (Value.slice ra k rc).ownBlock → WlkRel l (m + 1) w6 (.slice va5 (k + 1) vc5) (.int .i64 ((r' : Int) - 1)) w5) := Lib.hid fun va5 vc5 w5 ho hg => by
            refine ⟨r', by omega, ?_, ?_, (hB.alloc hB.size _).grown hg HB3.out (fun z hz => (hown.lt z hz).1)⟩
            · cases r' with
              | zero => exact .inl ⟨rfl, rfl⟩
              | succ r2 => exact .inr ⟨r2, rfl, by congr 1; omega⟩
            · rw [show m + 1 - r' = k + 1 by omega, hnx, List.map_append]
              exact ho
          have hr2 : r' < m + 1 := by omega
          clear hown hB hlc hnx hx hk hrl hr
          go_wp2_with (at_builtin; refine wpList_append_own _ rfl (.tmp 32) (.tmp 40) 26 rfl w6.heap.size 3 i1 (.int .i64 0) 1 8 Tryd.underlying26 HJ.out HY0.out HY1.out HY2.out rfl (by decide) (.slice ra k rc) k _ rfl (HOW.out.alloc _) ⟨wr.heap.size, 0, none⟩ 1 1 [.int .i64 (x : Int)] rfl rfl HNW.out (by simp [Value.oneCell']) HM1.out HM2.out HB3.out ?_; intro v5 w5 hown5 hgrow5 hnil5; obtain ⟨va5, vc5, rfl⟩ := own_shapeM hown5; replace hown5 := Lib.hid (FIN.out va5 vc5 w5 hown5 hgrow5); clear hgrow5 hnil5)
          go_roundw
          case rel => exact hown5.out
          case measure => simp [intOf]

end Go.Proofs.YtchechdcebmoeaaDoor

/-
  The law on graphs.
-/
import Derived.Test.YtchechdcebmoeaaDoorWlkW
import Derived.Test.YtchechdcebmoeaaDoorPrdD
import Derived.Test.YtchechdcebmoeaaDoorSamG
import Derived.Test.YtchechdcebmoeaaDoorLopW
import Derived.Test.YtchechdcebmoeaaDoorFwO
import Derived.Test.YtchechdcebmoeaaDoorFwH
import Derived.Test.YtchechdcebmoeaaDoorFwF
import Derived.Test.YtchechdcebmoeaaDoorTabB
import Derived.Deep.QuietTactic
import Derived.BigQuiet
namespace Go.Proofs.YtchechdcebmoeaaDoor
open Go.RowKit

def GrhRel (b n m : Nat) (o : List Nat) (W : World) (s7 : Value) (wr : World) : Prop := ∃ i : Nat, i ≤ m ∧ s7 = .int .i64 i ∧ SeenAt W.heap.size b n (fun k => decide (k ∈ o.take i)) wr ∧ Below W.heap.size W wr

theorem take_in (o : List Nat) (i : Nat) (h : i < o.length) (k : Nat) : k ∈ o.take (i + 1) ↔ k = o.getD i 0 ∨ k ∈ o.take i := by
  have e : o.take (i + 1) = o.take i ++ [o.getD i 0] := by rw [List.take_add_one, List.getElem?_eq_getElem h]; simp [List.getD, h]
  rw [e, List.mem_append, List.mem_singleton, or_comm]

theorem preds_grf {b n : Nat} {vs : Nat → Value} {g : List (List Int)} {w : World} (h : Rws b b n vs (predF g) w) (hn : n ≤ 1000) (hg : g.length ≤ 1000) : Grf w (some ⟨b, 0, none⟩) n n ((List.range n).map (predF g)) :=
  h.grf (by unfold maxLen; omega) fun j hj x hx => by
    have := predG_le g g.length 0 j x hx
    exact wf64 (by omega) (by omega)
theorem preds_deg (n : Nat) (g : List (List Int)) (hg : g.length ≤ 1000) (v : Nat) : degW ((List.range n).map (predF g)) v ≤ 1000000 := by
  unfold degW
  by_cases hv : v < n
  · rw [show ((List.range n).map (predF g)).getD v [] = predF g v by simp [List.getD, hv]]
    have := predG_len g g.length 0 v
    unfold predF
    omega
  · rw [show ((List.range n).map (predF g)).getD v [] = [] from by simp [List.getD, List.getElem?_eq_none (by simp; omega : ((List.range n).map (predF g)).length ≤ v)]]
    simp

set_option maxHeartbeats 16000000 in
set_option maxRecDepth 100000 in
theorem graphs_law (a : Option Addr) (len cap : Nat) (g : List (List Int)) (w : World) (hg : Grfs w a len cap g) (hT : TabOk w) :
    Calls Tryd.prog 7 #[.slice a len cap] w (TruePost w) := by
  have K1 := Lib.hid (ffirst w hT)
  unfold TruePost at K1
  have hle := hg.grf.le
  have hmax := hg.grf.max
  unfold maxLen at hmax
  have hnl : g.length = len := hg.grf.len_eq
  have HN := Lib.hid hnl
  have HG := Lib.hid hg
  obtain ⟨ib, hib, hy0, hy1, hy2⟩ := info_parts boolinfo
  have HIB := Lib.hid hib
  have HY0 := Lib.hid hy0
  have HY1 := Lib.hid hy1
  have HY2 := Lib.hid hy2
  clear hT hib hy0 hy1 hy2 hg hnl
  go_enter Tryd.func7, Tryd.ntmps7
  go_wp2_with fail
  refine K1.out.mono ?_
  rintro e w1 ⟨rfl, hb1⟩
  have HB1 := Lib.hid hb1
  have KL := Lib.hid (lightG_any a len cap g w1 ⟨HG.out.grf.below hb1, HG.out.size⟩)
  unfold LgtPost at KL
  clear hb1 K1
  go_wp2_with fail
  refine KL.out.mono ?_
  rintro e w1' ⟨d, rfl, rfl, hd⟩
  cases d with
  | false =>
    clear KL hd
    go_wp2_with fail
    go_ret
    exact ⟨rfl, HB1.out⟩
  | true =>
    have hsm := hd rfl
    have hl60 : len ≤ 60 := by rw [← HN.out]; exact hsm.len
    have hg1 := HG.out.grf.below HB1.out
    have hmu := hsm.mu
    have hdg : ∀ v, degW g v ≤ 1000000 := fun v => by have := hsm.deg v; omega
    have hok : g = [] ∨ OkW g (muW g beginW + 1) (walkW g) := by
      by_cases h : g.length = 0
      · exact .inl (List.eq_nil_of_length_eq_zero h)
      · exact .inr (walk_ok g (by omega))
    have KW := Lib.hid (walk_any a cap g w1 (by rw [HN.out]; exact hg1) (by rw [HN.out]; omega) (by omega) hdg)
    have KR : Hid (∀ w', Below w1.heap.size w1 w' → Calls Tryd.prog 50 #[.slice a len cap] w' (ReachPost g w')) := Lib.hid fun w' hb' => by
      have := reachW_any a cap g (muW g beginW + 1) w' (by rw [HN.out]; exact hg1.below hb') (by rw [HN.out]; omega) (Nat.le_refl _) (by omega) hdg
      rw [HN.out] at this
      exact this
    have KO : Hid (∀ w', Below w1.heap.size w1 w' → Calls Tryd.prog 51 #[.slice a len cap] w' (OrderWPost g w')) := Lib.hid fun w' hb' => by
      have := orderW_any a cap g (muW g beginW + 1) w' (by rw [HN.out]; exact hg1.below hb') (by rw [HN.out]; omega) (Nat.le_refl _) (by omega) hdg
      rw [HN.out] at this
      exact this
    have KP : Hid (∀ w', Below w1.heap.size w1 w' → Calls Tryd.prog 53 #[.slice a len cap] w' (PredPost g w')) := Lib.hid fun w' hb' => by
      have := preds_any a cap g w' (by rw [HN.out]; exact hg1.below hb') (by rw [HN.out]; omega) hdg
      rw [HN.out] at this
      exact this
    have KD : Hid (∀ w', Below w1.heap.size w1 w' → Calls Tryd.prog 54 #[.slice a len cap] w' (PrdDPost g w')) := Lib.hid fun w' hb' => by
      have := predsD_any a cap g w' (by rw [HN.out]; exact hg1.below hb') (by rw [HN.out]; omega) hdg
      rw [HN.out] at this
      exact this
    have KLo : Hid (∀ w', Below w1.heap.size w1 w' → Calls Tryd.prog 55 #[.slice a len cap] w' (LoopsPost g w')) := Lib.hid fun w' hb' => by
      have := loops_any a cap g (muW g beginW + 1) w' (by rw [HN.out]; exact hg1.below hb') (by rw [HN.out]; omega) (Nat.le_refl _) (by omega) hdg hok
      rw [HN.out] at this
      exact this
    unfold WalkPost at KW
    unfold OrderWPost at KO
    unfold LoopsPost at KLo
    unfold ReachPost at KR
    unfold PredPost at KP
    unfold PrdDPost at KD
    rw [HN.out] at KR KP KD KW
    have hrl : (walkW g).left.length = (walkW g).left.reverse.length := by simp
    rw [hrl] at KO
    have TWO : Hid (∀ j, j < len → decide (j ∈ (walkW g).left.reverse) = decide ((walkW g).st j = 2)) := Lib.hid fun j hj => by
      have := (ord_ok g (by rw [HN.out]; omega)).two j
      by_cases h : j ∈ (walkW g).left.reverse
      · rw [decide_eq_true h, decide_eq_true (this.2 h)]
      · rw [decide_eq_false h, decide_eq_false (fun e => h (this.1 e))]
    have OLT : Hid (∀ v ∈ (walkW g).left.reverse, v < len) := Lib.hid fun v hv => by
      by_cases h : g = []
      · subst h; simp [walkW] at hv
      · have := (ord_ok g (List.length_pos_iff.2 h)).lt v hv
        rw [HN.out] at this
        exact this
    have OSM : Hid (∀ e ∈ dedE (walkW g).loops, e.1 ≤ 1000000 ∧ e.2 ≤ 1000000) := Lib.hid fun e he => by
      by_cases h : g = []
      · subst h; simp [walkW, dedE] at he
      · have := (ord_ok g (List.length_pos_iff.2 h)).small e he
        rw [HN.out] at this
        omega
    have OML : Hid ((walkW g).left.reverse.length ≤ 10000 ∧ (dedE (walkW g).loops).length ≤ 10000) := Lib.hid (by
      rcases hok with h | h
      · subst h; simp [walkW, dedE]
      · have := h.size
        have := dedE_len (walkW g).loops
        rw [List.length_reverse]
        omega)
    have GL : Hid (g.length ≤ 1000) := Lib.hid (by rw [HN.out]; omega)
    generalize (walkW g).left.reverse = o at *
    generalize dedE (walkW g).loops = lo at *
    generalize (walkW g).st = st at *
    clear KL hd hsm hg1 hmu hdg hrl hok
    go_wp2_with fail
    refine KW.out.mono ?_
    rintro e w2 ⟨oa, oc, la, lc, rfl, hor, hlg, hb2⟩
    have HOR := Lib.hid hor
    have HLG := Lib.hid hlg
    have HB2 := Lib.hid hb2
    have hol := hor.le
    have hom := hor.max
    unfold maxLen at hom
    have HM := Lib.hid (show len ≤ maxLen by unfold maxLen; omega)
    have HMB := Lib.hid (show 1 * len ≤ 281474976710656 by omega)
    have hm1 := OML.out.1
    obtain ⟨m, hmo⟩ : ∃ m, o.length = m := ⟨_, rfl⟩
    have HMO := Lib.hid hmo
    rw [hmo] at hol hm1 ⊢
    clear hor hlg hb2 KW hmo
    go_wp2_with (at_make; refine wpList_make_len _ rfl (.tmp 23) (.tmp 23) 84 rfl w2.heap.size 4 ib (.bool false) 1 Tryd.underlying84 HIB.out HY0.out HY1.out HY2.out rfl .i64 .i64 _ _ len len rfl rfl (by simp) (by simp) (Nat.le_refl _) HMB.out HM.out (Nat.le_refl _) ?_; intro w6 hown6 hg6; have hS6 := Lib.hid (seenAt_made hown6); have hB6 := Lib.hid (Below.grown (Below.refl _ w2) hg6 (Nat.le_refl _) (by simp)); clear hown6 hg6)
    have R0 : Hid (GrhRel w2.heap.size len m o w2 (.int .i64 0) w6) := Lib.hid ⟨0, Nat.zero_le _, rfl, by
      have := hS6.out
      rw [show (fun _ => false : Nat → Bool) = (fun k => decide (k ∈ o.take 0)) from funext fun k => by simp] at this
      exact this, hB6.out⟩
    clear hS6 hB6
    go_loopw [7] (fun s7 wr => GrhRel w2.heap.size len m o w2 s7 wr) (fun s7 _ => m - (intOf s7).toNat)
    case atStart => exact R0.out
    case round =>
      clear R0
      obtain ⟨i, hi, rfl, hS, hB⟩ := hrel
      by_cases hlt : i < m
      · have t1 : decide ((i : Int) < m) = true := by simp; omega
        have t1' : decide (i < m) = true := by simpa using hlt
        have hio : i < o.length := by rw [HMO.out]; exact hlt
        obtain ⟨ob, oo, rfl, hoc⟩ := Row_at (Row_cells HOR.out hB) (by rw [HMO.out]; omega)
        have ck := hoc i hio
        rw [show (o.map fun x : Nat => (x : Int)).getD i 0 = ((o.getD i 0 : Nat) : Int) by simp [List.getD, hio]] at ck
        obtain ⟨x, hx⟩ : ∃ x, o.getD i 0 = x := ⟨_, rfl⟩
        have hxl : x < len := OLT.out x (by rw [← hx]; simp [List.getD, hio])
        rw [hx] at ck
        have cs := hS.cell hxl
        have zs := hS.frozen x
        have hnew := hS.put x true
        rw [show (fun k => if k = x then true else decide (k ∈ o.take i)) = (fun k => decide (k ∈ o.take (i + 1))) from funext fun k => by
          have := take_in o i hio k
          rw [hx] at this
          by_cases e : k = x
          · rw [if_pos e, decide_eq_true (this.2 (.inl e))]
          · rw [if_neg e]
            by_cases e2 : k ∈ o.take i
            · rw [decide_eq_true e2, decide_eq_true (this.2 (.inr e2))]
            · rw [decide_eq_false e2, decide_eq_false fun h => (this.1 h).elim e e2]] at hnew
        have FIN := Lib.hid (show _ ∧ _ from ⟨hnew, hB.setCell (Nat.le_refl _) (p := ⟨w2.heap.size, x, none⟩) (.bool true)⟩)
        clear hS hB hoc hx hnew hio
        go_wp2_with fail
        go_roundw
        case rel => exact ⟨i + 1, by omega, by go_num, FIN.out⟩
        case measure => simp [intOf]; omega
      · obtain rfl : i = m := by omega
        have t1 : decide ((i : Int) < i) = false := by simp
        have t1' : decide (i < i) = false := by simp
        have HS3 := Lib.hid hS
        have HB3 := Lib.hid hB
        have HW13 : Hid (Below w1.heap.size w1 wr) := Lib.hid (HB2.out.trans (hB.mono HB2.out.size))
        have K4 := Lib.hid (KR.out wr HW13.out)
        clear hS hB
        go_wp2_with fail
        refine K4.out.mono ?_
        rintro e w4 ⟨rb, rfl, hsee, hb4⟩
        have HW14 := Lib.hid (HW13.out.trans (hb4.mono HW13.out.size))
        have HB4 := Lib.hid hb4
        have K5 := Lib.hid (same_bools rb w2.heap.size len len len _ _ w4 (by omega) (fun j hj => hsee.cell hj) (fun j hj => (hb4.cell (p := ⟨w2.heap.size, j, none⟩) HS3.out.lt).trans (HS3.out.cell hj)) (fun j hj => by
          rw [← TWO.out j hj, ← HMO.out, List.take_length]))
        unfold TruePost at K5
        clear hsee hb4 K4
        go_wp2_with fail
        refine K5.out.mono ?_
        rintro e w5 ⟨rfl, hb5⟩
        have HW15 := Lib.hid (HW14.out.trans (hb5.mono HW14.out.size))
        have HB5 := Lib.hid (HB4.out.trans (hb5.mono HB4.out.size))
        have K6 := Lib.hid (KO.out w5 HW15.out)
        clear hb5 K5
        go_wp2_with fail
        refine K6.out.mono ?_
        rintro e w6b ⟨v, rfl, hown6, hb6⟩
        have hown6' : w6b.ownsRow w5.heap.size 3 1 v (o.map fun x : Nat => (x : Int)).length ((o.map fun x : Nat => (x : Int)).map (Value.int .i64)) := by rw [List.length_map, List.map_map]; exact hown6
        obtain ⟨va, vc, rfl, hvr⟩ := row_of_owns hown6' (fun x hx => by
          obtain ⟨y, hy, rfl⟩ := List.mem_map.1 hx
          have := OLT.out y hy
          exact wf64 (by omega) (by omega))
        rw [List.length_map] at hvr
        rw [List.length_map]
        have HW16 := Lib.hid (HW15.out.trans (hb6.mono HW15.out.size))
        have HB6 := Lib.hid (HB5.out.trans (hb6.mono HB5.out.size))
        have HB36 : Hid (Below w2.heap.size w2 w6b) := Lib.hid (HB3.out.trans (HB6.out.mono HB3.out.size))
        have K7 := Lib.hid (same_ints va oa o.length vc o.length oc _ _ w6b hvr (Row_cells HOR.out HB36.out) (by have := OML.out.1; omega))
        unfold SamePost at K7
        rw [HMO.out] at K7 ⊢
        clear hown6 hown6' hvr hb6 K6
        go_wp2_with fail
        refine K7.out.mono ?_
        rintro e w7 ⟨rfl, nd, rfl⟩
        have HW17 := Lib.hid (below_drewN HW16.out nd)
        have HB37 := Lib.hid (below_drewN HB36.out nd)
        rw [show (decide True) = true from rfl]
        have K8 := Lib.hid (KP.out (w6b.drewN nd) HW17.out)
        clear K7
        generalize w6b.drewN nd = w7 at *
        go_wp2_with fail
        refine K8.out.mono ?_
        rintro e w8 ⟨vs8, rfl, hrw8, hb8⟩
        have HG8 := Lib.hid (preds_grf hrw8 (by omega) GL.out)
        have HW18 := Lib.hid (HW17.out.trans (hb8.mono HW17.out.size))
        have HB38 := Lib.hid (HB37.out.trans (hb8.mono HB37.out.size))
        have K9 := Lib.hid (KD.out w8 HW18.out)
        clear hrw8 hb8 K8
        go_wp2_with fail
        refine K9.out.mono ?_
        rintro e w9 ⟨b9, vs9, rfl, hrw9, hb9⟩
        have HG9 := preds_grf hrw9 (by omega) GL.out
        have HW19 := Lib.hid (HW18.out.trans (hb9.mono HW18.out.size))
        have HB39 := Lib.hid (HB38.out.trans (hb9.mono HB38.out.size))
        have K10 := Lib.hid (same_lists _ _ len len len _ w9 (HG8.out.below hb9) HG9 (preds_deg len g GL.out) (by omega))
        unfold TruePost at K10
        clear hrw9 hb9 K9 HG9
        go_wp2_with fail
        refine K10.out.mono ?_
        rintro e w10 ⟨rfl, hb10⟩
        have HW20 := Lib.hid (HW19.out.trans (hb10.mono HW19.out.size))
        have HB40 := Lib.hid (HB39.out.trans (hb10.mono HB39.out.size))
        have K11 := Lib.hid (KLo.out w10 HW20.out)
        clear hb10 K10
        go_wp2_with fail
        refine K11.out.mono ?_
        rintro e w11 ⟨bs, lv, rfl, hkv, hb11⟩
        obtain ⟨la2, lc2, rfl⟩ := own_shapeM hkv.own
        obtain ⟨hle2, hlg2⟩ := kv_grf hkv OSM.out
        rw [hle2] at hlg2 ⊢
        have HW21 := Lib.hid (HW20.out.trans (hb11.mono HW20.out.size))
        have HB41 := HB40.out.trans (hb11.mono HB40.out.size)
        have K12 := Lib.hid (same_lists la2 la lo.length lc2 lc _ w11 hlg2 (HLG.out.below HB41) (fun v => by have := pairL_deg lo v; omega) (by have := OML.out.2; omega))
        unfold TruePost at K12
        clear hkv hb11 hlg2 hle2 K11 HB41
        go_wp2_with fail
        refine K12.out.mono ?_
        rintro e w12 ⟨rfl, hb12⟩
        have FIN : Hid (Below w.heap.size w w12) := Lib.hid (HB1.out.trans ((HW21.out.trans (hb12.mono HW21.out.size)).mono HB1.out.size))
        clear hb12 K12
        go_wp2_with fail
        go_ret
        exact ⟨rfl, FIN.out⟩

theorem graphs_main (a : Option Addr) (len cap : Nat) (g : List (List Int)) (w : World) (hg : Grfs w a len cap g) (hL : laidMetH Tryd.prog Rows.flowGraphsRow.laid w) :
    Calls Tryd.prog 7 #[.slice a len cap] w (TruePost w) := graphs_law a len cap g w hg (tab_of_laid hL)

end Go.Proofs.YtchechdcebmoeaaDoor

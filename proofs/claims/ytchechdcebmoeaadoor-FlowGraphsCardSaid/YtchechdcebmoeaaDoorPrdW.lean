/-
  flow.Preds, by a contract.
-/
import Derived.Test.YtchechdcebmoeaaDoorRws
import Derived.Test.YtchechdcebmoeaaDoorFwT
import Derived.Test.YtchechdcebmoeaaDoorFwE
namespace Go.Proofs.YtchechdcebmoeaaDoor
open Go.RowKit

def PrdOut (g : List (List Int)) (W : World) (n : Nat) (s14 : Value) (wr : World) : Prop :=
  ∃ i : Nat, i ≤ n ∧ s14 = .int .i64 i ∧ ∃ vs, Rws W.heap.size W.heap.size n vs (predG g i 0) wr ∧ Below W.heap.size W wr
def PrdIn (g : List (List Int)) (W : World) (n i : Nat) (s21 : Value) (wr : World) : Prop :=
  ∃ k : Nat, k ≤ degW g i ∧ s21 = .int .i64 k ∧ ∃ vs, Rws W.heap.size W.heap.size n vs (predG g i k) wr ∧ Below W.heap.size W wr

def PredPost (g : List (List Int)) (w : World) (e : Ending) (w' : World) : Prop :=
  ∃ vs, e = .returned (.slice (some ⟨w.heap.size, 0, none⟩) g.length g.length) ∧ Rws w.heap.size w.heap.size g.length vs (predF g) w' ∧ Below w.heap.size w w'

theorem upd_pred {g : List (List Int)} {i k j : Nat} (hk : k < degW g i) (hj : edgeW g i k = (j : Int)) {F : Nat → List Int} (hF : F j = predG g i (k + 1) j) (hO : ∀ t, t ≠ j → F t = predG g i k t) : ∀ t, F t = predG g i (k + 1) t := fun t => by
  by_cases e : t = j
  · rw [e, hF]
  · rw [hO t e, predG_other g i k t hk (by rw [hj]; omega)]

set_option maxHeartbeats 4000000 in
set_option maxRecDepth 100000 in
theorem preds_any (ga : Option Addr) (gc : Nat) (g : List (List Int)) (w : World) (hg : Grf w ga g.length gc g) (hn : g.length ≤ 10000) (hd : ∀ v, degW g v ≤ 1000000) :
    Calls Tryd.prog 53 #[.slice ga g.length gc] w (PredPost g w) := by
  have hle := hg.le
  have hmax := hg.max
  unfold maxLen at hmax
  have HG := Lib.hid hg
  unfold PredPost
  obtain ⟨n, hnn⟩ : ∃ n, g.length = n := ⟨_, rfl⟩
  have HNN := Lib.hid hnn
  rw [hnn] at hle hn ⊢
  have PF : Hid (∀ t, predG g n 0 t = predF g t) := Lib.hid fun t => by unfold predF; rw [hnn]
  obtain ⟨i0, hi, hz0, hz1, hz2⟩ := info_parts intinfoW
  have HI := Lib.hid hi
  have HZ0 := Lib.hid hz0
  have HZ1 := Lib.hid hz1
  have HZ2 := Lib.hid hz2
  obtain ⟨i1, hj, hy0, hy1, hy2⟩ := info_parts rowinfoM
  have HJ := Lib.hid hj
  have HY0 := Lib.hid hy0
  have HY1 := Lib.hid hy1
  have HY2 := Lib.hid hy2
  have HM := Lib.hid (show n ≤ maxLen by unfold maxLen; omega)
  have HMB := Lib.hid (show 24 * n ≤ 281474976710656 by omega)
  clear hi hz0 hz1 hz2 hj hy0 hy1 hy2 hg hnn
  go_enter Tryd.func53, Tryd.ntmps53
  go_wp2_with (at_make; refine wpList_make_len _ rfl (.tmp 10) (.tmp 10) 80 rfl w.heap.size 26 i1 (.slice none 0 0) 24 Tryd.underlying80 HJ.out HY0.out HY1.out HY2.out rfl .i64 .i64 _ _ n n rfl rfl (by simp) (by simp) (Nat.le_refl _) HMB.out HM.out (Nat.le_refl _) ?_; intro w6 hown6 hg6; have hS6 := Lib.hid (rws_made hown6); have hB6 := Lib.hid (Below.grown (Below.refl _ w) hg6 (Nat.le_refl _) (by simp)); clear hown6 hg6)
  have R0 : Hid (PrdOut g w n (.int .i64 0) w6) := Lib.hid ⟨0, Nat.zero_le _, rfl, _, hS6.out.congr fun j _ => (predG_zero g j).symm, hB6.out⟩
  clear hS6 hB6
  go_loopw [14] (fun s14 wr => PrdOut g w n s14 wr) (fun s14 _ => n - (intOf s14).toNat)
  case atStart => exact R0.out
  case round =>
    clear R0
    obtain ⟨i, hi, rfl, vs, hS, hB⟩ := hrel
    by_cases hlt : i < n
    · have t1 : decide (i < n) = true := by simpa using hlt
      obtain ⟨gb, go, rfl, hgb, hgc⟩ := HG.out.at_ (by rw [HNN.out]; omega)
      obtain ⟨ra, rc, cg0, hrow⟩ := hgc i (by rw [HNN.out]; exact hlt)
      have cg := (hB.cell (p := ⟨gb, go + i, none⟩) hgb).trans cg0
      have hrl := hrow.le
      have hrm := hrow.max
      unfold maxLen at hrm
      have hdeg := hd i
      have HRW := Lib.hid hrow
      have R1 : Hid (PrdIn g w n i (.int .i64 0) wr) := Lib.hid ⟨0, Nat.zero_le _, rfl, vs, hS, hB⟩
      have HB := Lib.hid hB
      clear hgc hrow hS hB cg0 hgb
      go_wp2_with fail
      obtain ⟨W3, rfl⟩ : ∃ W3 : World, W3 = wr := ⟨_, rfl⟩
      go_loopw [21] (fun s21 wr => PrdIn g w n i s21 wr) (fun s21 _ => degW g i - (intOf s21).toNat)
      case atStart => exact R1.out
      case round =>
        clear R1
        obtain ⟨k, hk, rfl, vs2, hS, hB⟩ := hrel
        by_cases hkl : k < degW g i
        · have t2 : decide (k < degW g i) = true := by simpa using hkl
          have hr2 := Row_cells HRW.out hB
          obtain ⟨rb, ro, rfl, hrc⟩ := Row_at hr2 (by omega)
          have ck := hrc k hkl
          obtain ⟨y, hy⟩ : ∃ y, (g.getD i []).getD k 0 = y := ⟨_, rfl⟩
          rw [hy] at ck
          have hy : edgeW g i k = y := hy
          clear hrc hr2
          by_cases h1 : y < 0 ∨ (n : Int) ≤ y
          · have FIN : Hid (∃ vs, Rws w.heap.size w.heap.size n vs (predG g i (k + 1)) wr ∧ Below w.heap.size w wr) := Lib.hid ⟨vs2, hS.congr fun t ht => (predG_other g i k t hkl (by rw [hy]; omega)).symm, hB⟩
            clear hS hB hy
            by_cases h2 : y < 0
            · have t3 : decide (y < 0) = true := by simpa using h2
              clear h1 h2
              go_wp2_with fail
              go_roundw
              case rel => exact ⟨k + 1, by omega, by go_num, FIN.out⟩
              case measure => simp [intOf]; omega
            · have t3 : decide (y < 0) = false := by simpa using h2
              have t4 : decide (y ≥ n) = true := by simp; omega
              clear h1 h2
              go_wp2_with fail
              go_roundw
              case rel => exact ⟨k + 1, by omega, by go_num, FIN.out⟩
              case measure => simp [intOf]; omega
          · obtain ⟨j, rfl⟩ : ∃ j : Nat, y = j := ⟨y.toNat, by omega⟩
            have hj : j < n := by omega
            have t3 : decide ((j : Int) < 0) = false := by simp
            have t4 : decide ((j : Int) ≥ n) = false := by simp; omega
            have t4' : decide (n ≤ j) = false := by simpa using hj
            obtain ⟨a, c, hv, hqc, hcm⟩ := hS.fam.shape hj
            have co := hS.cell hj
            have hql := predG_len g i k j
            have hown := hS.fam.own j hj
            obtain ⟨a2, c2, hv2, hrw2⟩ := hS.fam.row hj (fun x hx => by have := predG_le g i k j x hx; exact wf64 (by omega) (by omega))
            rw [hv] at co hown hv2
            have e2 := Value.slice.inj hv2
            obtain ⟨rfl, rfl⟩ : a = a2 ∧ c = c2 := ⟨e2.1, e2.2.2⟩
            obtain ⟨q, hq⟩ : ∃ q, (predG g i k j).length = q := ⟨_, rfl⟩
            rw [hq] at co hown hqc hql hrw2
            unfold maxLen at hcm
            clear h1 hv2 e2
            by_cases hm : (j : Int) ∈ (g.getD i []).take k
            · obtain ⟨hpos, hlast⟩ := predG_last g i k j hm
              rw [hq] at hpos hlast
              obtain ⟨p, rfl⟩ : ∃ p, q = p + 1 := ⟨q - 1, by omega⟩
              rw [Nat.add_sub_cancel] at hlast
              obtain ⟨lb, lo, rfl, hlc⟩ := Row_at hrw2 (by omega)
              have cl := hlc p (by omega)
              rw [hlast] at cl
              have t5 : (((p + 1 : Nat) : Int) == 0) = false := by simp; omega
              have t5' : ((p : Int) + 1 == 0) = false := by simp; omega
              have t6 : IntKind.i64.wrap (((p + 1 : Nat) : Int) - 1) = (p : Int) := (IntWalk.i64_in _ (by omega)).trans (by omega)
              have t6' : IntKind.i64.wrap ((p : Int) + 1 - 1) = (p : Int) := (IntWalk.i64_in _ (by omega)).trans (by omega)
              have FIN : Hid (∃ vs, Rws w.heap.size w.heap.size n vs (predG g i (k + 1)) wr ∧ Below w.heap.size w wr) := Lib.hid ⟨vs2, hS.congr fun t ht => by
                by_cases e : t = j
                · subst e; exact (predG_same g i k t hkl hm).symm
                · exact (predG_other g i k t hkl (by rw [hy]; omega)).symm, hB⟩
              have hpp : p < p + 1 := Nat.lt_succ_self p
              clear hS hB hy hown hv hlc hrw2 hm hlast hq
              go_wp2_with fail
              go_roundw
              case rel => exact ⟨k + 1, by omega, by go_num, FIN.out⟩
              case measure => simp [intOf]; omega
            · obtain ⟨hnew, hlast⟩ := predG_new g i k j hkl hy.symm hm
              rw [hq] at hlast
              have FIN : Hid (∀ va vc w5, w5.ownsRow w.heap.size 3 1 (.slice va (q + 1) vc) (q + 1) ((predG g i k j).map (Value.int .i64) ++ [.int .i64 (i : Int)]) → (wr.alloc (.cells #[.int .i64 (i : Int)] 3)).grownBy w5 (Value.slice a q c).ownBlock →
                  ((Value.slice va (q + 1) vc).ownBlock = (Value.slice a q c).ownBlock ∨ (Value.slice va (q + 1) vc).ownBlock = some (wr.alloc (.cells #[.int .i64 (i : Int)] 3)).heap.size) →
                  (w5.frozen? ⟨w.heap.size, j, none⟩ = false ∧ w5.cell? ⟨w.heap.size, j, none⟩ = some (.slice a q c)) ∧ ∃ vs, Rws w.heap.size w.heap.size n vs (predG g i (k + 1)) (w5.setCell ⟨w.heap.size, j, none⟩ (.slice va (q + 1) vc)) ∧ Below w.heap.size w (w5.setCell ⟨w.heap.size, j, none⟩ (.slice va (q + 1) vc))) := Lib.hid fun va vc w5 ho hg hat => by
                have hg2 : (wr.alloc (.cells #[.int .i64 (i : Int)] 3)).grownBy w5 (vs2 j).ownBlock := by rw [hv, hq]; exact hg
                obtain ⟨f1, f2, f3⟩ := hS.app (w1 := wr.alloc (.cells #[.int .i64 (i : Int)] 3)) (w5 := w5) (v' := .slice va (q + 1) vc) (x := (i : Int)) hj (fun k hk => Below.heap_alloc _ _ _ hk) (by rw [World.size_alloc]; omega) (by rw [hq]; exact ho) hg2 (by rw [hv, hq]; exact hat)
                refine ⟨⟨f1, by rw [f2, hv, hq]⟩, _, f3.congr fun t _ => upd_pred (F := updV (predG g i k) j (predG g i k j ++ [(i : Int)])) hkl hy (by rw [updV_same, hnew]) (fun t ht => updV_other _ _ ht) t, ?_⟩
                exact hS.below rfl hB hj ((Below.refl _ wr).alloc (by have := hS.lt; omega) _) hg2
              have HOW := Lib.hid hown
              have HNW := Lib.hid (cell_one_new wr (.int .i64 (i : Int)) 3)
              have HM1 := Lib.hid (show q + 1 ≤ maxLen by unfold maxLen; omega)
              have HM2 := Lib.hid (show (q + 1) * 8 ≤ 140737488355328 by omega)
              have HB3 := Lib.hid (show w.heap.size ≤ (wr.alloc (.cells #[.int .i64 (i : Int)] 3)).heap.size by have := hS.lt; rw [World.size_alloc]; omega)
              by_cases hq0 : q = 0
              · have t5 : ((q : Int) == 0) = true := by simpa using hq0
                clear hS hB hy hown hv hrw2 hm hlast hq hnew hq0 hql hqc hcm
                go_wp2_with (at_builtin; refine wpList_append_own_at _ rfl (.tmp 57) (.tmp 59) 26 rfl w.heap.size 3 i0 (.int .i64 0) 1 8 Tryd.underlying26 HI.out HZ0.out HZ1.out HZ2.out rfl (by decide) (.slice a q c) q _ rfl (HOW.out.alloc _) ⟨wr.heap.size, 0, none⟩ 1 1 [.int .i64 (i : Int)] rfl rfl HNW.out (by simp [Value.oneCell']) HM1.out HM2.out HB3.out ?_; intro v5 w5 hown5 hgrow5 hnil5 hat5; obtain ⟨va5, vc5, rfl⟩ := own_shapeM hown5; replace hown5 := Lib.hid (FIN.out va5 vc5 w5 hown5 hgrow5 hat5); have fz := hown5.out.1.1; have cz := hown5.out.1.2; clear hgrow5 hnil5 hat5)
                go_roundw
                case rel => exact ⟨k + 1, by omega, by go_num, hown5.out.2⟩
                case measure => simp [intOf]; omega
              · obtain ⟨p, rfl⟩ : ∃ p, q = p + 1 := ⟨q - 1, by omega⟩
                rw [Nat.add_sub_cancel] at hlast
                obtain ⟨lb, lo, rfl, hlc⟩ := Row_at hrw2 (by omega)
                have cl := hlc p (by omega)
                have hz := hlast (by omega)
                obtain ⟨z, hzz⟩ : ∃ z, (predG g i k j).getD p 0 = z := ⟨_, rfl⟩
                rw [hzz] at cl hz
                have t5 : (((p + 1 : Nat) : Int) == 0) = false := by simp; omega
                have t5' : ((p : Int) + 1 == 0) = false := by simp; omega
                have t6 : IntKind.i64.wrap (((p + 1 : Nat) : Int) - 1) = (p : Int) := (IntWalk.i64_in _ (by omega)).trans (by omega)
                have t6' : IntKind.i64.wrap ((p : Int) + 1 - 1) = (p : Int) := (IntWalk.i64_in _ (by omega)).trans (by omega)
                have t7 : (z != (i : Int)) = true := by simpa using hz
                have hpp : p < p + 1 := Nat.lt_succ_self p
                clear hS hB hy hown hv hrw2 hm hlast hq hnew hq0 hlc hz hzz
                go_wp2_with (at_builtin; refine wpList_append_own_at _ rfl (.tmp 57) (.tmp 59) 26 rfl w.heap.size 3 i0 (.int .i64 0) 1 8 Tryd.underlying26 HI.out HZ0.out HZ1.out HZ2.out rfl (by decide) (.slice (some ⟨lb, lo, none⟩) (p + 1) c) (p + 1) _ rfl (HOW.out.alloc _) ⟨wr.heap.size, 0, none⟩ 1 1 [.int .i64 (i : Int)] rfl rfl HNW.out (by simp [Value.oneCell']) HM1.out HM2.out HB3.out ?_; intro v5 w5 hown5 hgrow5 hnil5 hat5; obtain ⟨va5, vc5, rfl⟩ := own_shapeM hown5; replace hown5 := Lib.hid (FIN.out va5 vc5 w5 hown5 hgrow5 hat5); have fz := hown5.out.1.1; have cz := hown5.out.1.2; clear hgrow5 hnil5 hat5)
                go_roundw
                case rel => exact ⟨k + 1, by omega, by go_num, hown5.out.2⟩
                case measure => simp [intOf]; omega
        · obtain rfl : k = degW g i := by omega
          have t2 : decide (degW g i < degW g i) = false := by simp
          have FIN : Hid (∃ vs, Rws w.heap.size w.heap.size n vs (predG g (i + 1) 0) wr ∧ Below w.heap.size w wr) := Lib.hid ⟨vs2, hS.congr fun t _ => predG_row g i t, hB⟩
          clear hS hB
          go_wp2_with fail
          go_roundw
          case rel => exact ⟨i + 1, by omega, by go_num, FIN.out⟩
          case measure => simp [intOf]; omega
    · obtain rfl : i = n := by omega
      have t1 : decide (i < i) = false := by simp
      have FIN := Lib.hid (hS.congr fun j _ => PF.out j)
      have HB := Lib.hid hB
      clear hS hB
      go_wp2_with fail
      go_ret
      exact ⟨vs, rfl, FIN.out, HB.out⟩

end Go.Proofs.YtchechdcebmoeaaDoor

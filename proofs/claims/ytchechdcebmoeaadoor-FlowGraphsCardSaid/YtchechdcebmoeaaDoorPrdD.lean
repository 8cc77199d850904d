/-
  The document's way back, by a contract.
-/
import Derived.Test.YtchechdcebmoeaaDoorPrdW
import Derived.Test.YtchechdcebmoeaaDoorClnW
import Derived.Deep.RegionHeld3
namespace Go.Proofs.YtchechdcebmoeaaDoor
open Go.RowKit

theorem clnI_nodup (n : Nat) (l : List Int) : (clnI n l).Nodup := by
  have key : ∀ (l o : List Int), o.Nodup → (l.foldl (fun o x => if (0 ≤ x ∧ x < (n : Int)) ∧ x ∉ o then o ++ [x] else o) o).Nodup := by
    intro l
    induction l with
    | nil => intro o h; exact h
    | cons x r ih =>
      intro o h
      rw [List.foldl_cons]
      refine ih _ ?_
      split
      · rename_i hx
        refine List.nodup_append.2 ⟨h, by simp, fun a ha b hb e => ?_⟩
        simp at hb
        subst hb
        subst e
        exact hx.2 ha
      · exact h
  exact key l [] List.nodup_nil

theorem clean_new (g : List (List Int)) {i k : Nat} (hi : i < g.length) (hk : k < degW (cleanG g) i) : edgeW (cleanG g) i k ∉ ((cleanG g).getD i []).take k := by
  unfold edgeW degW at *
  rw [cleanG_at g hi] at hk ⊢
  have hn := clnI_nodup g.length (g.getD i [])
  generalize clnI g.length (g.getD i []) = l at *
  rw [← List.take_append_drop k l, List.nodup_append] at hn
  have e : l.getD k 0 ∈ l.drop k := by
    rw [List.drop_eq_getElem_cons hk, show l.getD k 0 = l[k] from by simp [List.getD, hk]]
    exact List.mem_cons_self
  exact fun h => hn.2.2 _ h _ e rfl

theorem clean_in (g : List (List Int)) {i k : Nat} (hi : i < g.length) (hk : k < degW (cleanG g) i) : 0 ≤ edgeW (cleanG g) i k ∧ edgeW (cleanG g) i k < (g.length : Int) := by
  unfold edgeW degW at *
  rw [cleanG_at g hi] at hk ⊢
  have hm : (clnI g.length (g.getD i [])).getD k 0 ∈ clnI g.length (g.getD i []) := by
    generalize clnI g.length (g.getD i []) = l at *
    simp [List.getD, hk]
  exact ((clnI_mem _ _ _).1 hm).2

theorem clean_preds (g : List (List Int)) {t : Nat} (ht : t < g.length) : predF (cleanG g) t = predF g t := by
  rw [predF_eq, predF_eq, cleanG_len]
  congr 1
  refine List.filter_congr fun f hf => ?_
  have hf := List.mem_range.1 hf
  rw [cleanG_at g hf]
  have := clnI_mem g.length (g.getD f []) (t : Int)
  by_cases h : (t : Int) ∈ g.getD f []
  · rw [decide_eq_true h, decide_eq_true (this.2 ⟨h, by omega, by omega⟩)]
  · rw [decide_eq_false h, decide_eq_false fun h2 => h (this.1 h2).1]

def PrdDPost (g : List (List Int)) (w : World) (e : Ending) (w' : World) : Prop :=
  ∃ b vs, e = .returned (.slice (some ⟨b, 0, none⟩) g.length g.length) ∧ Rws b b g.length vs (predF g) w' ∧ Below w.heap.size w w'

set_option maxHeartbeats 4000000 in
set_option maxRecDepth 100000 in
theorem predsD_any (ga : Option Addr) (gc : Nat) (g : List (List Int)) (w : World) (hg : Grf w ga g.length gc g) (hn : g.length ≤ 1000) (hd : ∀ v, degW g v ≤ 1000000) :
    Calls Tryd.prog 54 #[.slice ga g.length gc] w (PrdDPost g w) := by
  have KC := Lib.hid (clean_any ga gc g w hg hn hd)
  unfold CleanPost at KC
  unfold PrdDPost
  have HNEW : Hid (∀ i k, i < g.length → k < degW (cleanG g) i → edgeW (cleanG g) i k ∉ ((cleanG g).getD i []).take k) := Lib.hid fun i k => clean_new g
  have HIN : Hid (∀ i k, i < g.length → k < degW (cleanG g) i → 0 ≤ edgeW (cleanG g) i k ∧ edgeW (cleanG g) i k < (g.length : Int)) := Lib.hid fun i k => clean_in g
  have HPF : Hid (∀ t, t < g.length → predF (cleanG g) t = predF g t) := Lib.hid fun t => clean_preds g
  have hD : ∀ v, degW (cleanG g) v ≤ 1000000 := fun v => by
    by_cases hv : v < g.length
    · unfold degW
      rw [cleanG_at g hv]
      have := clnI_len g.length (g.getD v [])
      have := hd v
      unfold degW at this
      omega
    · unfold degW
      rw [show (cleanG g).getD v [] = [] from by simp [List.getD, List.getElem?_eq_none (by rw [cleanG_len]; omega : (cleanG g).length ≤ v)]]
      simp
  have hGn := cleanG_len g
  have PF : Hid (∀ t, t < g.length → predG (cleanG g) g.length 0 t = predF g t) := Lib.hid fun t ht => by
    rw [← HPF.out t ht]; unfold predF; rw [hGn]
  have hle := hg.le
  have hmax := hg.max
  unfold maxLen at hmax
  obtain ⟨n, hnn⟩ : ∃ n, g.length = n := ⟨_, rfl⟩
  rw [hnn] at hle hn hGn KC HNEW HIN PF ⊢
  have HNN := Lib.hid hGn
  obtain ⟨i0, hi, hz0, hz1, hz2⟩ := info_parts intinfoW
  have HI := Lib.hid hi
  have HZ0 := Lib.hid hz0
  have HZ1 := Lib.hid hz1
  have HZ2 := Lib.hid hz2
  obtain ⟨i1, hj, hy0, hy1, hy2⟩ := info_parts rowinfoM
  have HJ := Lib.hid hj
  have HY0 := Lib.hid hy0
  have HY1 := Lib.hid hy1
  have HY2 := Lib.hid hy2
  have HM := Lib.hid (show n ≤ maxLen by unfold maxLen; omega)
  have HMB := Lib.hid (show 24 * n ≤ 281474976710656 by omega)
  have HPG : Hid (∀ t, predF g t = predF g t) := Lib.hid fun _ => rfl
  generalize cleanG g = G at *
  clear hi hz0 hz1 hz2 hj hy0 hy1 hy2 hg hnn hGn hd HPF HPG
  go_enter Tryd.func54, Tryd.ntmps54
  go_wp2_with fail
  refine KC.out.mono ?_
  rintro e wc ⟨ca, cc, rfl, hgr, hbc⟩
  have hcle := hgr.le
  have hcmax := hgr.max
  unfold maxLen at hcmax
  have HG := Lib.hid hgr
  have HBC := Lib.hid hbc
  clear hgr hbc KC
  go_wp2_with (at_make; refine wpList_make_len _ rfl (.tmp 10) (.tmp 10) 80 rfl wc.heap.size 26 i1 (.slice none 0 0) 24 Tryd.underlying80 HJ.out HY0.out HY1.out HY2.out rfl .i64 .i64 _ _ n n rfl rfl (by simp) (by simp) (Nat.le_refl _) HMB.out HM.out (Nat.le_refl _) ?_; intro w6 hown6 hg6; have hS6 := Lib.hid (rws_made hown6); have hB6 := Lib.hid (Below.grown (Below.refl _ wc) hg6 (Nat.le_refl _) (by simp)); clear hown6 hg6)
  have R0 : Hid (PrdOut G wc n (.int .i64 0) w6) := Lib.hid ⟨0, Nat.zero_le _, rfl, _, hS6.out.congr fun j _ => (predG_zero G j).symm, hB6.out⟩
  clear hS6 hB6
  go_loopw [5] (fun s5 wr => PrdOut G wc n s5 wr) (fun s5 _ => n - (intOf s5).toNat)
  case atStart => exact R0.out
  case round =>
    clear R0
    obtain ⟨i, hi, rfl, vs, hS, hB⟩ := hrel
    by_cases hlt : i < n
    · have t1 : decide ((i : Int) < n) = true := by simp; omega
      have t1' : decide (i < n) = true := by simpa using hlt
      obtain ⟨gb, go, rfl, hgb, hgc⟩ := HG.out.at_ (by omega)
      obtain ⟨ra, rc, cg0, hrow⟩ := hgc i hlt
      have hrl := hrow.le
      have hrm := hrow.max
      unfold maxLen at hrm
      have hdeg := hD i
      have HRW := Lib.hid hrow
      have HCG := Lib.hid cg0
      have HGB := Lib.hid hgb
      have R1 : Hid (PrdIn G wc n i (.int .i64 0) wr) := Lib.hid ⟨0, Nat.zero_le _, rfl, vs, hS, hB⟩
      clear hgc hrow hS hB cg0 hgb
      go_wp2_with fail
      obtain ⟨W3, rfl⟩ : ∃ W3 : World, W3 = wr := ⟨_, rfl⟩
      go_loopw [6] (fun s6 wr => PrdIn G wc n i s6 wr) (fun s6 _ => degW G i - (intOf s6).toNat)
      case atStart => exact R1.out
      case round =>
        clear R1
        obtain ⟨k, hk, rfl, vs2, hS, hB⟩ := hrel
        have cg := (hB.cell (p := ⟨gb, go + i, none⟩) HGB.out).trans HCG.out
        by_cases hkl : k < degW G i
        · have t2 : decide ((k : Int) < degW G i) = true := by simp; omega
          have t2' : decide (k < degW G i) = true := by simpa using hkl
          obtain ⟨rb, ro, rfl, hrc⟩ := Row_at HRW.out (by omega)
          have ck0 := hrc k hkl
          have hinn := HIN.out i k hlt hkl
          obtain ⟨j, hy⟩ : ∃ j : Nat, edgeW G i k = (j : Int) := ⟨(edgeW G i k).toNat, by omega⟩
          have hnm := HNEW.out i k hlt hkl
          rw [hy] at hinn hnm
          rw [show (G.getD i []).getD k 0 = (j : Int) from hy] at ck0
          have hrbl := World.block_lt_of_cell? wc _ ck0
          have ck := (hB.cell hrbl).trans ck0
          have hj : j < n := by omega
          obtain ⟨a, c, hv, hqc, hcm⟩ := hS.fam.shape hj
          have co := hS.cell hj
          have hql := predG_len G i k j
          have hown := hS.fam.own j hj
          rw [hv] at co hown
          obtain ⟨q, hq⟩ : ∃ q, (predG G i k j).length = q := ⟨_, rfl⟩
          rw [hq] at co hown hqc hql
          unfold maxLen at hcm
          obtain ⟨hnew, _⟩ := predG_new G i k j hkl hy.symm hnm
          have KEEP : Hid (∀ w', Below wc.heap.size wc w' → w'.cell? ⟨gb, go + i, none⟩ = some (.slice (some ⟨rb, ro, none⟩) (degW G i) rc) ∧ w'.cell? ⟨rb, ro + k, none⟩ = some (.int .i64 (j : Int))) := Lib.hid fun w' hb' =>
            ⟨(hb'.cell (p := ⟨gb, go + i, none⟩) HGB.out).trans HCG.out, (hb'.cell hrbl).trans ck0⟩
          have FIN : Hid (∀ va vc w5, w5.ownsRow wc.heap.size 3 1 (.slice va (q + 1) vc) (q + 1) ((predG G i k j).map (Value.int .i64) ++ [.int .i64 (i : Int)]) → (wr.drew.alloc (.cells #[.int .i64 (i : Int)] 3)).grownBy w5 (Value.slice a q c).ownBlock →
              ((Value.slice va (q + 1) vc).ownBlock = (Value.slice a q c).ownBlock ∨ (Value.slice va (q + 1) vc).ownBlock = some (wr.drew.alloc (.cells #[.int .i64 (i : Int)] 3)).heap.size) →
              (w5.frozen? ⟨wc.heap.size, j, none⟩ = false ∧ w5.cell? ⟨wc.heap.size, j, none⟩ = some (.slice a q c)) ∧ Below wc.heap.size wc w5 ∧ ∃ vs, Rws wc.heap.size wc.heap.size n vs (predG G i (k + 1)) (w5.setCell ⟨wc.heap.size, j, none⟩ (.slice va (q + 1) vc)) ∧ Below wc.heap.size wc (w5.setCell ⟨wc.heap.size, j, none⟩ (.slice va (q + 1) vc))) := Lib.hid fun va vc w5 ho hg hat => by
            have hg2 : (wr.drew.alloc (.cells #[.int .i64 (i : Int)] 3)).grownBy w5 (vs2 j).ownBlock := by rw [hv, hq]; exact hg
            have hbl : Below wr.heap.size wr (wr.drew.alloc (.cells #[.int .i64 (i : Int)] 3)) := (below_drew (Below.refl _ _)).alloc (Nat.le_refl _) _
            obtain ⟨f1, f2, f3⟩ := hS.app (w1 := wr.drew.alloc (.cells #[.int .i64 (i : Int)] 3)) (w5 := w5) (v' := .slice va (q + 1) vc) (x := (i : Int)) hj (fun k hk => hbl.block k hk) hbl.size (by rw [hq]; exact ho) hg2 (by rw [hv, hq]; exact hat)
            refine ⟨⟨f1, by rw [f2, hv, hq]⟩, ?_, _, f3.congr fun t _ => upd_pred (F := updV (predG G i k) j (predG G i k j ++ [(i : Int)])) hkl hy (by rw [updV_same, hnew]) (fun t ht => updV_other _ _ ht) t, ?_⟩
            · exact (hB.trans (hbl.mono hB.size)).grown hg2 (Nat.le_trans hB.size hbl.size) (fun z hz => (hS.fam.lt hj hz).1)
            · exact hS.below rfl hB hj (hbl.mono hB.size) hg2
          have co2 : ((wr.alloc (.cells #[.int .i64 (i : Int)] 3)).drew).cell? ⟨wc.heap.size, j, none⟩ = some (.slice a q c) := ((World.grownBy_alloc wr (.cells #[.int .i64 (i : Int)] 3) none).cell co (by simp))
          have cg2 : ((wr.alloc (.cells #[.int .i64 (i : Int)] 3)).drew).cell? ⟨gb, go + i, none⟩ = some (.slice (some ⟨rb, ro, none⟩) (degW G i) rc) := ((World.grownBy_alloc wr (.cells #[.int .i64 (i : Int)] 3) none).cell cg (by simp))
          have ck2 : ((wr.alloc (.cells #[.int .i64 (i : Int)] 3)).drew).cell? ⟨rb, ro + k, none⟩ = some (.int .i64 (j : Int)) := ((World.grownBy_alloc wr (.cells #[.int .i64 (i : Int)] 3) none).cell ck (by simp))
          have HOW := Lib.hid ((hown.drew).alloc (.cells #[.int .i64 (i : Int)] 3))
          have HNW : Hid (∀ l u, ([.int .i64 (i : Int)] : List Value)[l]? = some u → (wr.drew.alloc (.cells #[.int .i64 (i : Int)] 3)).cell? ((⟨wr.heap.size, 0, none⟩ : Addr).add l) = some u) := Lib.hid (cell_one_new wr.drew (.int .i64 (i : Int)) 3)
          have hoc : Hid (∀ u ∈ ([.int .i64 (i : Int)] : List Value), u.oneCell' = true) := Lib.hid (by simp [Value.oneCell'])
          have hn1 : Hid (q + 1 ≤ maxLen) := Lib.hid (by unfold maxLen; omega)
          have hn3 : Hid ((q + 1) * 8 ≤ 140737488355328) := Lib.hid (by omega)
          have hsz9 : Hid (wc.heap.size ≤ (wr.drew.alloc (.cells #[.int .i64 (i : Int)] 3)).heap.size) := Lib.hid (by have := hB.size; rw [World.size_alloc]; show wc.heap.size ≤ wr.heap.size + 1; omega)
          clear hS hB hy hown hv hq hnew hql hqc hcm hrc ck0 hinn hnm hrbl
          go_upto_region 9 with (fail)
          go_region_law (refine step_append_at rfl (.tmp 44) (.tmp 46) 26 rfl wc.heap.size 3 i0 (.int .i64 0) 1 8 Tryd.underlying26 HI.out HZ0.out HZ1.out HZ2.out rfl (by decide) (.slice a q c) q _ (by first | rfl | simp [Act.eval] | simp [Act.eval, Act.put]) HOW.out ⟨wr.heap.size, 0, none⟩ 1 1 [.int .i64 (i : Int)] (by first | rfl | simp [Act.eval] | simp [Act.eval, Act.put]) rfl HNW.out hoc.out hn1.out hn3.out hsz9.out ?_; intro v5 w5 hown5 hgrow5 hat5; obtain ⟨va, vc, rfl⟩ := own_shape1 hown5; have FF := Lib.hid (FIN.out va vc w5 hown5 hgrow5 hat5); have d0 := FF.out.1.1; have e0 := FF.out.1.2; have k1 := (KEEP.out _ FF.out.2.1).1; have k2 := (KEEP.out _ FF.out.2.1).2; clear hown5 hgrow5 hat5)
          all_goals
            clear FIN KEEP cg cg2 ck ck2 co co2 d0 e0 k1 k2
            go_wp2_with fail
            go_roundw
            case rel => exact ⟨k + 1, by omega, by go_num, FF.out.2.2⟩
            case measure => simp [intOf]; omega
        · obtain rfl : k = degW G i := by omega
          have t2 : decide ((degW G i : Int) < degW G i) = false := by simp
          have t2' : decide (degW G i < degW G i) = false := by simp
          have FIN : Hid (∃ vs, Rws wc.heap.size wc.heap.size n vs (predG G (i + 1) 0) wr ∧ Below wc.heap.size wc wr) := Lib.hid ⟨vs2, hS.congr fun t _ => predG_row G i t, hB⟩
          clear hS hB
          go_wp2_with fail
          go_roundw
          case rel => exact ⟨i + 1, by omega, by go_num, FIN.out⟩
          case measure => simp [intOf]; omega
    · obtain rfl : i = n := by omega
      have t1 : decide ((i : Int) < i) = false := by simp
      have t1' : decide (i < i) = false := by simp
      have FIN := Lib.hid (show _ ∧ _ from ⟨hS.congr fun j hj => PF.out j hj, HBC.out.trans (hB.mono HBC.out.size)⟩)
      clear hS hB
      go_wp2_with fail
      go_ret
      exact ⟨_, vs, rfl, FIN.out⟩

end Go.Proofs.YtchechdcebmoeaaDoor

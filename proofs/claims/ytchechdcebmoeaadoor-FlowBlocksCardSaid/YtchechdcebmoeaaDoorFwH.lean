/-
  flow.Reach, by a contract.
-/
import Derived.Test.YtchechdcebmoeaaDoorFwE
import Derived.Test.YtchechdcebmoeaaDoorFBase
namespace Go.Proofs.YtchechdcebmoeaaDoor
open Go.RowKit

theorem SeenAt.put {B g n : Nat} {S : Nat → Bool} {w : World} (h : SeenAt B g n S w) (j : Nat) (b : Bool) : SeenAt B g n (fun k => if k = j then b else S k) (w.setCell ⟨g, j, none⟩ (.bool b)) := by
  refine ⟨?_, h.lo⟩
  rw [heap_setCell_same w g j _ 4 _ h.row]
  have e : ((List.range n).map fun k => Value.bool (S k)).set j (.bool b) = (List.range n).map fun k => Value.bool (if k = j then b else S k) := by
    refine List.ext_getElem (by simp) fun i h1 h2 => ?_
    rw [List.getElem_set]
    simp only [List.getElem_map, List.getElem_range]
    by_cases q : j = i
    · subst q; simp
    · rw [if_neg q, if_neg (fun e => q e.symm)]
  simp [e]

def ReachRel (B g n : Nat) (st : Nat → Nat) (W : World) (s17 : Value) (wr : World) : Prop :=
  ∃ i : Nat, i ≤ n ∧ s17 = .int .i64 i ∧ SeenAt B g n (fun k => if k < i then decide ((st k : Int) = 2) else false) wr ∧ Below W.heap.size W wr

def ReachPost (g : List (List Int)) (w : World) (e : Ending) (w' : World) : Prop :=
  ∃ b, e = .returned (.slice (some ⟨b, 0, none⟩) g.length g.length) ∧ SeenAt w.heap.size b g.length (fun k => decide ((walkW g).st k = 2)) w' ∧ Below w.heap.size w w'

set_option maxHeartbeats 2000000 in
set_option maxRecDepth 100000 in
theorem reachW_any (ga : Option Addr) (gc : Nat) (g : List (List Int)) (N : Nat) (w : World) (hg : Grf w ga g.length gc g) (hn : g.length ≤ 60) (hN : muW g beginW + 1 ≤ N) (hN2 : N ≤ 10000) (hd : ∀ v, degW g v ≤ 1000000) :
    Calls Tryd.prog 50 #[.slice ga g.length gc] w (ReachPost g w) := by
  have K := Lib.hid (newWalk_any ga gc g N w hg hn hN hN2 hd)
  unfold NewWPost at K
  unfold ReachPost
  obtain ⟨n, hnn⟩ : ∃ n, g.length = n := ⟨_, rfl⟩
  rw [hnn] at K hn ⊢
  obtain ⟨ib, hib, hy0, hy1, hy2⟩ := info_parts boolinfo
  have HIB := Lib.hid hib
  have HY0 := Lib.hid hy0
  have HY1 := Lib.hid hy1
  have HY2 := Lib.hid hy2
  have HM := Lib.hid (show n ≤ maxLen by unfold maxLen; omega)
  have HMB := Lib.hid (show 1 * n ≤ 281474976710656 by omega)
  generalize walkW g = s at *
  clear hg hN hN2 hd hib hy0 hy1 hy2
  go_enter Tryd.func50, Tryd.ntmps50
  go_wp2_with fail
  refine K.out.mono ?_
  rintro e w1 ⟨p, q, bs, lv, ov, rfl, hwb, hB⟩
  have HWB := Lib.hid hwb
  have HB := Lib.hid hB
  clear hwb hB K
  go_wp2_with (at_make; refine wpList_make_len _ rfl (.tmp 10) (.tmp 10) 84 rfl w1.heap.size 4 ib (.bool false) 1 Tryd.underlying84 HIB.out HY0.out HY1.out HY2.out rfl .i64 .i64 _ _ n n rfl rfl (by simp) (by simp) (Nat.le_refl _) HMB.out HM.out (Nat.le_refl _) ?_; intro w6 hown6 hg6; have hS6 := Lib.hid (seenAt_made hown6); have hB6 := Lib.hid (Below.grown (Below.refl _ w1) hg6 (Nat.le_refl _) (by simp)); have c1 := ((hB6.out.cell (p := ⟨p, 1, none⟩) HWB.out.ltp).trans (cell_of_row w1 p 1 _ 165 (0, 0) HWB.out.cp)).trans (show _ = some (Value.slice (some ⟨q, 0, none⟩) n n) from rfl); clear hown6 hg6)
  have R0 : Hid (ReachRel w1.heap.size w1.heap.size n s.st w1 (.int .i64 0) w6) := Lib.hid ⟨0, Nat.zero_le _, rfl, hS6.out, hB6.out⟩
  clear c1 hS6 hB6
  go_loopw [17] (fun s17 wr => ReachRel w1.heap.size w1.heap.size n s.st w1 s17 wr) (fun s17 _ => n - (intOf s17).toNat)
  case atStart => exact R0.out
  case round =>
    clear R0
    obtain ⟨i, hi, rfl, hS, hB1⟩ := hrel
    by_cases hlt : i < n
    · have t1 : decide (i < n) = true := by simpa using hlt
      have cs := (hB1.cell (p := ⟨q, i, none⟩) HWB.out.ltq).trans (HWB.out.cell hlt)
      have co := hS.cell hlt
      rw [if_neg (Nat.lt_irrefl _)] at co
      have fo := hS.frozen i
      obtain ⟨b, hb⟩ : ∃ b, ((s.st i : Int) == 2) = b := ⟨_, rfl⟩
      have hbn := (show ∀ k, (if k = i then b else if k < i then decide ((s.st k : Int) = 2) else false) = (if k < i + 1 then decide ((s.st k : Int) = 2) else false) from fun k => by
        by_cases e : k = i
        · subst e
          rw [if_pos rfl, if_pos (by omega), ← hb]
          by_cases e2 : (s.st k : Int) = 2
          · simp [e2]
          · rw [decide_eq_false e2]; simpa using e2
        · rw [if_neg e]
          by_cases e2 : k < i
          · rw [if_pos e2, if_pos (by omega)]
          · rw [if_neg e2, if_neg (by omega)])
      have hnew := hS.put i b
      rw [show (fun k => if k = i then b else if k < i then decide ((s.st k : Int) = 2) else false) = (fun k => if k < i + 1 then decide ((s.st k : Int) = 2) else false) from funext hbn] at hnew
      have HST := Lib.hid hnew
      clear hbn hnew
      have HB1 := Lib.hid hB1
      generalize s.st i = x at *
      clear hS hB1
      go_wp2_with fail
      go_roundw
      case rel => exact ⟨i + 1, by omega, by go_num, HST.out, HB1.out.setCell (Nat.le_refl _) _⟩
      case measure => simp [intOf]; omega
    · obtain rfl : i = n := by omega
      have t1 : decide (i < i) = false := by simp
      have FIN := Lib.hid (show SeenAt w.heap.size w1.heap.size i (fun k => decide (s.st k = 2)) wr from ⟨by
        rw [hS.row]
        congr 3
        refine List.map_congr_left fun k hk => ?_
        rw [if_pos (by simpa using hk)]
        congr 1
        by_cases e : s.st k = 2
        · rw [decide_eq_true e, decide_eq_true (by omega)]
        · rw [decide_eq_false e, decide_eq_false (by omega)], HB.out.size⟩)
      have BF := Lib.hid (HB.out.trans (hB1.mono HB.out.size))
      clear hS hB1
      go_wp2_with fail
      go_ret
      exact ⟨_, rfl, FIN.out, BF.out⟩

end Go.Proofs.YtchechdcebmoeaaDoor

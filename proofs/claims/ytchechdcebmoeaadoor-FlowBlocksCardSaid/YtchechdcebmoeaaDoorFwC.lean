/-
  flow: meet, by a contract.
-/
import Derived.Test.YtchechdcebmoeaaDoorFwB
namespace Go.Proofs.YtchechdcebmoeaaDoor
open Go.RowKit

/-- What meet leaves alone. -/
structure Only (B p q : Nat) (ov : Value) (w w' : World) : Prop where
  below : Below B w w'
  block : ∀ k, k < w.heap.size → k ≠ p → k ≠ q → ov.ownBlock ≠ some k → w'.heap[k]? = w.heap[k]?

theorem Only.refl (B p q : Nat) (ov : Value) (w : World) : Only B p q ov w w := ⟨Below.refl _ _, fun _ _ _ _ _ => rfl⟩

def MeetWPost (B p q n : Nat) (gv : Value) (s : Wk) (lv ov : Value) (v : Nat) (y : Int) (w : World) (e : Ending) (w' : World) : Prop :=
  ∃ bs' ov', e = .returned (.bool (meetW n s v y).2) ∧ Wb B p q n gv (meetW n s v y).1 bs' lv ov' w' ∧ Only B p q ov w w'

theorem meetW_out {n : Nat} {s : Wk} {v : Nat} {y : Int} (h : y < 0 ∨ (n : Int) ≤ y) : meetW n s v y = (s, false) := by unfold meetW; rw [if_pos h]
theorem meetW_in {n : Nat} {s : Wk} {v j : Nat} (h : j < n) : meetW n s v j = if s.st j = 0 then (⟨setN s.st j 1, s.left, s.loops, s.path⟩, true) else if s.st j = 1 then (⟨s.st, s.left, s.loops ++ [(v, j)], s.path⟩, false) else (s, false) := by
  unfold meetW
  rw [if_neg (show ¬ ((j : Int) < 0 ∨ (n : Int) ≤ (j : Int)) by omega), Int.toNat_natCast]

set_option maxHeartbeats 4000000 in
set_option maxRecDepth 100000 in
theorem meetW_any {B p q n : Nat} {ga : Option Addr} {gc : Nat} {s : Wk} {bs : List Nat} {lv ov : Value} (v : Nat) (y : Int) (w : World) (h : Wb B p q n (.slice ga n gc) s bs lv ov w) (hB : B ≤ w.heap.size) (hst : ∀ j, s.st j ≤ 2) (hlo : s.loops.length ≤ 100000) :
    Calls Tryd.prog 156 #[.pointer (some ⟨p, 0, none⟩), .int .i64 v, .int .i64 y] w (MeetWPost B p q n (.slice ga n gc) s lv ov v y w) := by
  have cw0 := cell_of_row w p 0 _ 165 (0, 0) h.cp
  have cw1 := cell_of_row w p 1 _ 165 (0, 0) h.cp
  have cw3 := cell_of_row w p 3 _ 165 (0, 0) h.cp
  have cw0 : w.cell? ⟨p, 0, none⟩ = some (.slice ga n gc) := cw0
  have cw1 : w.cell? ⟨p, 1, none⟩ = some (.slice (some ⟨q, 0, none⟩) n n) := cw1
  have cw3 : w.cell? ⟨p, 3, none⟩ = some ov := cw3
  obtain ⟨oa, oc, rfl⟩ := own_shapeM h.loops.own
  by_cases h0 : y < 0
  · have t1 : decide (y < 0) = true := by simpa using h0
    have FIN : Hid (MeetWPost B p q n (.slice ga n gc) s lv (.slice oa (pairsZ s.loops).length oc) v y w (.returned (.bool false)) w) := Lib.hid ⟨bs, _, by rw [meetW_out (.inl h0)], by rw [meetW_out (.inl h0)]; exact h, Only.refl _ _ _ _ _⟩
    clear h h0 hst
    go_enter Tryd.func156, Tryd.ntmps156
    go_wp2_with fail
    go_ret
    exact FIN.out
  · have t1 : decide (y < 0) = false := by simpa using h0
    by_cases h1 : (n : Int) ≤ y
    · have t2 : decide (y ≥ n) = true := by simpa using h1
      have FIN : Hid (MeetWPost B p q n (.slice ga n gc) s lv (.slice oa (pairsZ s.loops).length oc) v y w (.returned (.bool false)) w) := Lib.hid ⟨bs, _, by rw [meetW_out (.inr h1)], by rw [meetW_out (.inr h1)]; exact h, Only.refl _ _ _ _ _⟩
      clear h h0 h1 hst
      go_enter Tryd.func156, Tryd.ntmps156
      go_wp2_with fail
      go_ret
      exact FIN.out
    · have t2 : decide (y ≥ n) = false := by simpa using h1
      obtain ⟨j, rfl⟩ : ∃ j : Nat, y = j := ⟨y.toNat, by omega⟩
      have hj : j < n := by omega
      have cs := h.cell hj
      have hm := meetW_in (s := s) (v := v) hj
      have hs := hst j
      have t2' : decide (n ≤ j) = false := by simpa using hj
      clear h0 h1 t1 hst
      have t0 : decide ((j : Int) < 0) = false := by simp
      rcases (show s.st j = 0 ∨ s.st j = 1 ∨ s.st j = 2 by omega) with e | e | e
      · rw [if_pos e] at hm
        rw [e] at cs
        have fz := h.frozen j
        have FIN : Hid (MeetWPost B p q n (.slice ga n gc) s lv (.slice oa (pairsZ s.loops).length oc) v j w (.returned (.bool true)) (w.setCell ⟨q, j, none⟩ (.int .i64 1))) := Lib.hid ⟨bs, _, by rw [hm], by rw [hm]; exact h.entered j 1, (Below.refl _ _).setCell h.bq2 _, fun k _ _ hk _ => heap_setCell_other w ⟨q, j, none⟩ k _ hk⟩
        clear h hm e hs
        go_enter Tryd.func156, Tryd.ntmps156
        go_wp2_with fail
        go_ret
        exact FIN.out
      · rw [if_neg (by omega), if_pos e] at hm
        rw [e] at cs
        have hks := h.loops.len_le
        have hln : (pairsZ s.loops).length = s.loops.length := by simp [pairsZ]
        obtain ⟨i0, hi, hz0, hz1, hz2⟩ := info_parts rowinfoM
        have HI := Lib.hid hi
        have HZ0 := Lib.hid hz0
        have HZ1 := Lib.hid hz1
        have HZ2 := Lib.hid hz2
        have HM1 := Lib.hid (show (pairsZ s.loops).length + 1 ≤ maxLen by unfold maxLen; omega)
        have HM2 := Lib.hid (show ((pairsZ s.loops).length + 1) * 24 ≤ 140737488355328 by omega)
        have HB3 : Hid (B ≤ ((w.alloc (.cells #[.int .i64 (v : Int), .int .i64 (j : Int)] 3)).alloc (.cells #[.slice (some ⟨w.heap.size, 0, none⟩) 2 2] 26)).heap.size) := Lib.hid (by rw [World.size_alloc, World.size_alloc]; omega)
        have hnews := cell_one_new (w.alloc (.cells #[.int .i64 (v : Int), .int .i64 (j : Int)] 3)) (.slice (some ⟨w.heap.size, 0, none⟩) 2 2) 26
        rw [World.size_alloc] at hnews
        have HNEWS := Lib.hid hnews
        have HOW := Lib.hid h.loops.own
        have FIN : Hid (∀ va5 vc5 w5, w5.ownsRow B 26 1 (.slice va5 ((pairsZ s.loops).length + 1) vc5) ((pairsZ s.loops).length + 1) ((bs.map fun b => .slice (some ⟨b, 0, none⟩) 2 2) ++ [.slice (some ⟨w.heap.size, 0, none⟩) 2 2]) →
            ((w.alloc (.cells #[.int .i64 (v : Int), .int .i64 (j : Int)] 3)).alloc (.cells #[.slice (some ⟨w.heap.size, 0, none⟩) 2 2] 26)).grownBy w5 (Value.slice oa (pairsZ s.loops).length oc).ownBlock →
            (w5.cell? ⟨p, 3, none⟩ = some (.slice oa (pairsZ s.loops).length oc) ∧ w5.frozen? ⟨p, 3, none⟩ = false) ∧
            MeetWPost B p q n (.slice ga n gc) s lv (.slice oa (pairsZ s.loops).length oc) v j w (.returned (.bool false)) (w5.setCell ⟨p, 3, none⟩ (.slice va5 ((pairsZ s.loops).length + 1) vc5))) := Lib.hid fun va5 vc5 w5 hown hg => by
          have old : ∀ k, k < w.heap.size → (Value.slice oa (pairsZ s.loops).length oc).ownBlock ≠ some k → w5.heap[k]? = w.heap[k]? := fun k hk hne => by
            rw [hg.block k (by rw [World.size_alloc, World.size_alloc]; omega) hne.symm, Below.heap_alloc _ _ _ (by rw [World.size_alloc]; omega), Below.heap_alloc _ _ _ hk]
          have hp5 : w5.heap[p]? = some (.cells #[.slice ga n gc, .slice (some ⟨q, 0, none⟩) n n, lv, .slice oa (pairsZ s.loops).length oc] 165 (0, 0)) := (old p h.ltp fun e => (h.ov_ne e).1 rfl).trans h.cp
          have KM := h.loops.more hB hg hown
          have hset : ∀ k, k ≠ p → (w5.setCell ⟨p, 3, none⟩ (.slice va5 ((pairsZ s.loops).length + 1) vc5)).heap[k]? = w5.heap[k]? := fun k hk => heap_setCell_other w5 ⟨p, 3, none⟩ k _ hk
          have hpz : pairsZ (s.loops ++ [(v, j)]) = pairsZ s.loops ++ [((v : Int), (j : Int))] := by simp [pairsZ]
          refine ⟨⟨cell_of_row w5 p 3 _ 165 (0, 0) hp5, frozen_of_row w5 p 3 _ 165 hp5⟩, bs ++ [w.heap.size], .slice va5 ((pairsZ s.loops).length + 1) vc5, by rw [hm], ?_, ?_⟩
          · rw [hm]
            refine ⟨?_, ?_, ?_, ?_, h.lq, fun hq => ?_, fun b hb => ?_, h.bp, h.bq2⟩
            · rw [heap_setCell_same w5 p 3 _ 165 _ hp5]
              rfl
            · rw [hset q h.pq.symm, old q h.ltq fun e => (h.ov_ne e).2.1 rfl]
              exact h.cq
            · refine owns_kept1 h.left fun k hk => ?_
              have hl := h.lv_ne hk
              obtain ⟨cur, hc⟩ := own_typeM h.left hk
              rw [hset k hl.1, old k (Array.getElem?_eq_some_iff.1 hc).1 hl.2.2.1]
            · rw [hpz]
              refine kv_kept1 KM (fun k hk => hset k fun e => ?_) fun b hb => hset b fun e => ?_
              · obtain ⟨cur, hc⟩ := own_typeM KM.own hk
                rw [e, hp5] at hc
                cases hc
              · rcases List.mem_append.1 hb with h1 | h1
                · exact (h.bs_at h1).1 e
                · simp at h1
                  have := h.ltp
                  omega
            · rcases List.mem_append.1 hq with h1 | h1
              · exact h.bq h1
              · simp at h1
                have := h.ltq
                omega
            · rcases List.mem_append.1 hb with h1 | h1
              · exact h.bl b h1
              · simp at h1
                intro e2
                obtain ⟨cur, hc⟩ := own_typeM h.left e2
                have := (Array.getElem?_eq_some_iff.1 hc).1
                omega
          · refine ⟨?_, fun k hk h1 h2 h3 => by rw [hset k h1, old k hk h3]⟩
            have b1 : Below B w w5 := ((((Below.refl _ w).alloc hB _).alloc (by rw [World.size_alloc]; omega) _)).grown hg HB3.out (fun z hz => (HOW.out.lt z hz).1)
            exact b1.setCell h.bp _
        clear h hm e hs hi hz0 hz1 hz2 hnews hks hln hlo
        go_enter Tryd.func156, Tryd.ntmps156
        go_wp2_with (at_builtin; refine wpList_append_own _ rfl (.tmp 39) (.tmp 43) 80 rfl B 26 i0 (.slice none 0 0) 1 24 Tryd.underlying80 HI.out HZ0.out HZ1.out HZ2.out rfl (by decide) (.slice oa (pairsZ s.loops).length oc) (pairsZ s.loops).length _ rfl ((HOW.out.alloc _).alloc _) ⟨w.heap.size + 1, 0, none⟩ 1 1 [.slice (some ⟨w.heap.size, 0, none⟩) 2 2] rfl rfl HNEWS.out (by simp [Value.oneCell']) HM1.out HM2.out HB3.out ?_; intro v5 w5 hown5 hgrow5 hnil5; obtain ⟨va5, vc5, rfl⟩ := own_shapeM hown5; replace hown5 := Lib.hid (FIN.out va5 vc5 w5 hown5 hgrow5); have fz := hown5.out.1.2; have cz := hown5.out.1.1; clear hgrow5 hnil5)
        go_ret
        exact hown5.out.2
      · rw [if_neg (by omega), if_neg (by omega)] at hm
        rw [e] at cs
        have FIN : Hid (MeetWPost B p q n (.slice ga n gc) s lv (.slice oa (pairsZ s.loops).length oc) v j w (.returned (.bool false)) w) := Lib.hid ⟨bs, _, by rw [hm], by rw [hm]; exact h, Only.refl _ _ _ _ _⟩
        clear h hm e hs
        go_enter Tryd.func156, Tryd.ntmps156
        go_wp2_with fail
        go_ret
        exact FIN.out

end Go.Proofs.YtchechdcebmoeaaDoor

/-
  Chapter 5's first: the chapter's examples.
-/
import Derived.Test.YtchechdcebmoeaaDoorOfW
import Derived.Test.YtchechdcebmoeaaDoorLopW
import Derived.Test.YtchechdcebmoeaaDoorFwO
import Derived.Test.YtchechdcebmoeaaDoorSameI
namespace Go.Proofs.YtchechdcebmoeaaDoor
open Go.RowKit

def gvE (i j : Nat) : Int :=
  match i, j with
  | 0, 0 => 3 | 1, 0 => 23 | 1, 1 => 3 | 2, 0 => 1 | 2, 3 => 1 | 3, 0 => 33 | _, _ => 0
def gE : List (List Int) := [[1, 2], [3], [3], [0]]

theorem gE_of : nB (hdF 4 gvE 4) 4 = 3 ∧ frB (hdF 4 gvE 4) 4 1 = 2 ∧ frB (hdF 4 gvE 4) 4 3 = 4 := by decide
theorem gE_walk : (walkW gE).left.reverse = [0, 2, 1, 3] ∧ dedE (walkW gE).loops = [(3, 0)] ∧ muW gE beginW + 1 ≤ 10000 ∧ (walkW gE).left.length = 4 := by decide
theorem gE_deg (v : Nat) : degW gE v ≤ 1000000 := by
  unfold degW gE
  match v with
  | 0 => decide
  | 1 => decide
  | 2 => decide
  | 3 => decide
  | n + 4 => simp [List.getD]

def codeE (w : World) : World := w.alloc (.cells #[.int .i64 3, .int .i64 0, .int .i64 0, .int .i64 0, .int .i64 23, .int .i64 3, .int .i64 0, .int .i64 0, .int .i64 1, .int .i64 0, .int .i64 0, .int .i64 1, .int .i64 33, .int .i64 0, .int .i64 0, .int .i64 0] 52)
theorem codeE_picks (w : World) : Picks (codeE w) (some ⟨w.heap.size, 0, none⟩) 4 4 gvE := by
  refine ⟨Nat.le_refl _, by unfold maxLen; omega, fun h => (by cases h), fun ad had i j hi hj => ?_⟩
  cases had
  have e : (⟨w.heap.size, 0, none⟩ : Addr).add (i * 4 + j) = ⟨w.heap.size, i * 4 + j, none⟩ := by
    unfold Addr.add
    split
    · rename_i h0; rw [h0]
    · simp
  unfold codeE
  rw [e, cell_of_row _ w.heap.size _ _ 52 (0, 0) (heap_alloc_new w _)]
  match i, j, hi, hj with
  | 0, 0, _, _ => rfl
  | 0, 1, _, _ => rfl
  | 0, 2, _, _ => rfl
  | 0, 3, _, _ => rfl
  | 1, 0, _, _ => rfl
  | 1, 1, _, _ => rfl
  | 1, 2, _, _ => rfl
  | 1, 3, _, _ => rfl
  | 2, 0, _, _ => rfl
  | 2, 1, _, _ => rfl
  | 2, 2, _, _ => rfl
  | 2, 3, _, _ => rfl
  | 3, 0, _, _ => rfl
  | 3, 1, _, _ => rfl
  | 3, 2, _, _ => rfl
  | 3, 3, _, _ => rfl

def grfE (w : World) : World := ((((w.alloc (.cells #[.int .i64 1, .int .i64 2] 3)).alloc (.cells #[.int .i64 3] 3)).alloc (.cells #[.int .i64 3] 3)).alloc (.cells #[.int .i64 0] 3)).alloc
  (.cells #[.slice (some ⟨w.heap.size, 0, none⟩) 2 2, .slice (some ⟨w.heap.size + 1, 0, none⟩) 1 1, .slice (some ⟨w.heap.size + 1 + 1, 0, none⟩) 1 1, .slice (some ⟨w.heap.size + 1 + 1 + 1, 0, none⟩) 1 1] 26)

theorem grfE_below (w : World) : Below w.heap.size w (grfE w) := by
  unfold grfE
  refine Below.alloc (Below.alloc (Below.alloc (Below.alloc (Below.alloc (Below.refl _ _) (Nat.le_refl _) _) ?_ _) ?_ _) ?_ _) ?_ _
  all_goals simp only [World.size_alloc]; omega

theorem grfE_blocks (w : World) : (grfE w).heap[w.heap.size]? = some (.cells #[.int .i64 1, .int .i64 2] 3 (0, 0)) ∧ (grfE w).heap[w.heap.size + 1]? = some (.cells #[.int .i64 3] 3 (0, 0)) ∧ (grfE w).heap[w.heap.size + 1 + 1]? = some (.cells #[.int .i64 3] 3 (0, 0)) ∧ (grfE w).heap[w.heap.size + 1 + 1 + 1]? = some (.cells #[.int .i64 0] 3 (0, 0)) ∧
    (grfE w).heap[w.heap.size + 1 + 1 + 1 + 1]? = some (.cells #[.slice (some ⟨w.heap.size, 0, none⟩) 2 2, .slice (some ⟨w.heap.size + 1, 0, none⟩) 1 1, .slice (some ⟨w.heap.size + 1 + 1, 0, none⟩) 1 1, .slice (some ⟨w.heap.size + 1 + 1 + 1, 0, none⟩) 1 1] 26 (0, 0)) := by
  have nw : ∀ (w : World) (o : Obj) (k : Nat), w.heap.size = k → (w.alloc o).heap[k]? = some o := fun w o k h => by subst h; exact heap_alloc_new w o
  have ol : ∀ (w : World) (o x : Obj) (k : Nat), w.heap[k]? = some x → (w.alloc o).heap[k]? = some x := fun w o x k h => (Below.heap_alloc w o k (Array.getElem?_eq_some_iff.1 h).1).trans h
  unfold grfE
  refine ⟨?_, ?_, ?_, ?_, ?_⟩
  · exact ol _ _ _ _ (ol _ _ _ _ (ol _ _ _ _ (ol _ _ _ _ (nw _ _ _ rfl))))
  · exact ol _ _ _ _ (ol _ _ _ _ (ol _ _ _ _ (nw _ _ _ (by simp only [World.size_alloc]))))
  · exact ol _ _ _ _ (ol _ _ _ _ (nw _ _ _ (by simp only [World.size_alloc])))
  · exact ol _ _ _ _ (nw _ _ _ (by simp only [World.size_alloc]))
  · exact nw _ _ _ (by simp only [World.size_alloc])

theorem row_one1 {w : World} {g : Nat} {x : Int} (hg : w.heap[g]? = some (.cells #[.int .i64 x] 3 (0, 0))) (hx : (Lit.int .i64 x).wf = true) : Row .i64 w (some ⟨g, 0, none⟩) 1 1 [x] := by
  refine ⟨rfl, Nat.le_refl _, by unfold maxLen; omega, fun h => (by cases h), fun ad had j hj => ?_, fun n hn => ?_⟩
  · cases had
    match j, hj with
    | 0, _ => simpa [Addr.add] using (cell_of_row w g 0 _ 3 (0, 0) hg)
  · have : n = x := by simpa using hn
    rw [this]; exact hx

theorem grfE_grf (w : World) : Grf (grfE w) (some ⟨w.heap.size + 1 + 1 + 1 + 1, 0, none⟩) 4 4 gE := by
  obtain ⟨h0, h1, h2, h3, h4⟩ := grfE_blocks w
  refine ⟨rfl, Nat.le_refl _, by unfold maxLen; omega, fun _ => ⟨_, 0, rfl, (Array.getElem?_eq_some_iff.1 h4).1, fun j hj => ?_⟩⟩
  have hcell := fun k => cell_of_row (grfE w) _ k _ 26 (0, 0) h4
  match j, hj with
  | 0, _ => exact ⟨_, 2, (hcell 0).trans rfl, row_two ((cell_of_row _ _ 0 _ 3 (0, 0) h0).trans rfl) ((cell_of_row _ _ 1 _ 3 (0, 0) h0).trans rfl) (Nat.le_refl _) (by unfold maxLen; omega) (by decide) (by decide)⟩
  | 1, _ => exact ⟨_, 1, (hcell 1).trans rfl, row_one1 h1 (by decide)⟩
  | 2, _ => exact ⟨_, 1, (hcell 2).trans rfl, row_one1 h2 (by decide)⟩
  | 3, _ => exact ⟨_, 1, (hcell 3).trans rfl, row_one1 h3 (by decide)⟩

set_option maxHeartbeats 4000000 in
set_option maxRecDepth 100000 in
theorem ffirst (w : World) (hT : TabOk w) : Calls Tryd.prog 42 #[] w (TruePost w) := by
  have hb1 : Below w.heap.size w (codeE w) := (Below.refl _ _).alloc (Nat.le_refl _) _
  have HB1 := Lib.hid hb1
  have K := Lib.hid (of_any ⟨#[73]⟩ ⟨#[]⟩ ⟨#[73]⟩ (some ⟨w.heap.size, 0, none⟩) 4 4 gvE (codeE w) (codeE_picks w) (by omega) (fun i hi h => by
    match i, hi with
    | 0, _ => decide
    | 1, _ => decide
    | 2, _ => decide
    | 3, _ => decide) (hT.below hb1 (Nat.le_refl _)))
  unfold OfPost at K
  obtain ⟨q1, q2, q3⟩ := gE_of
  generalize hdF 4 gvE 4 = fE at *
  rw [q1] at K
  have Q2 := Lib.hid q2
  have Q3 := Lib.hid q3
  clear hT hb1 q1 q2 q3
  unfold codeE at K HB1
  go_enter Tryd.func42, Tryd.ntmps42
  go_wp2_with fail
  refine K.out.mono ?_
  rintro e w3 ⟨bb, vs, B2, rfl, hcb, _, _, hbb, hb3⟩
  have hf1 : w3.cell? ⟨bb, 4, none⟩ = some (.int .i64 2) := by
    rw [cell_of_row w3 bb 4 _ 78 (0, 0) hcb]
    simp
    rw [show (4 : Nat) = 1 * 4 from rfl, blkC0 _ _ (by omega), Q2.out]; rfl
  have hf2 : w3.cell? ⟨bb, 9, none⟩ = some (.int .i64 4) := by
    rw [cell_of_row w3 bb 9 _ 78 (0, 0) hcb]
    simp
    rw [show (9 : Nat) = 2 * 4 + 1 from rfl, blkC1 _ _ (by omega), Q3.out]; rfl
  have HB3 := Lib.hid (HB1.out.trans (hb3.mono (by rw [World.size_alloc]; omega)))
  have HF1 := Lib.hid hf1
  have HF2 := Lib.hid hf2
  have K2 := Lib.hid (loops_any (some ⟨w3.heap.size + 1 + 1 + 1 + 1, 0, none⟩) 4 gE (muW gE beginW + 1) (grfE w3) (grfE_grf w3) (by decide) (Nat.le_refl _) gE_walk.2.2.1 gE_deg (.inr (walk_ok gE (by decide))))
  unfold LoopsPost at K2
  rw [gE_walk.2.1] at K2
  have HG3 := Lib.hid (grfE_grf w3)
  have HGB := Lib.hid (grfE_below w3)
  clear hcb hbb hb3 hf1 hf2 K HB1 Q2 Q3
  have hl4 : gE.length = 4 := rfl
  rw [hl4] at K2
  unfold grfE at K2 HG3 HGB
  go_wp2_with fail
  refine K2.out.mono ?_
  rintro e w5 ⟨bs, lv, rfl, hkv, hb5⟩
  have hp1 : (pairsZ [(3, 0)]).length = 1 := rfl
  obtain ⟨la, lc, rfl⟩ := own_shapeM hkv.own
  rw [hp1] at hkv ⊢
  obtain ⟨gk, b, rfl, x1, x2, x3, hbi, cg, c0, c1⟩ := hkv.cells (i := 0) (by omega)
  clear x1 x2 x3
  have HB5 := Lib.hid (HB3.out.trans ((HGB.out.mono HB3.out.size).trans (hb5.mono (by have := HGB.out.size; have := HB3.out.size; omega))))
  have KO := Lib.hid (orderW_any (some ⟨w3.heap.size + 1 + 1 + 1 + 1, 0, none⟩) 4 gE (muW gE beginW + 1) w5 (HG3.out.below hb5) (by decide) (Nat.le_refl _) gE_walk.2.2.1 gE_deg)
  unfold OrderWPost at KO
  rw [gE_walk.1, gE_walk.2.2.2, hl4] at KO
  have HC : Hid (∀ w', Below w5.heap.size w5 w' → w'.cell? ⟨gk, 0, none⟩ = some (.slice (some ⟨b, 0, none⟩) 2 2) ∧ w'.cell? ⟨b, 0, none⟩ = some (.int .i64 3) ∧ w'.cell? ⟨b, 1, none⟩ = some (.int .i64 0)) := Lib.hid fun w' h =>
    ⟨(h.cell (World.block_lt_of_cell? w5 _ cg)).trans cg, (h.cell (World.block_lt_of_cell? w5 _ c0)).trans (c0.trans rfl), (h.cell (World.block_lt_of_cell? w5 _ c1)).trans (c1.trans rfl)⟩
  have f1 := HF1.out
  have f2 := HF2.out
  have hbk : Below w3.heap.size w3 w5 := HGB.out.trans (hb5.mono HGB.out.size)
  have g1 := (hbk.cell (World.block_lt_of_cell? w3 _ f1)).trans f1
  have g2 := (hbk.cell (World.block_lt_of_cell? w3 _ f2)).trans f2
  clear hkv hbi cg c0 c1 hb5 K2 HG3 HGB hp1 f1 f2 hbk
  go_wp2_with fail
  refine KO.out.mono ?_
  rintro e w6 ⟨v, rfl, hov, hb6⟩
  have hov2 : w6.ownsRow w5.heap.size 3 1 v 4 (([0, 2, 1, 3] : List Int).map (Value.int .i64)) := hov
  obtain ⟨oa, oc, rfl, hor⟩ := row_of_owns hov2 (by decide)
  have hlit : Row .i64 (w6.alloc (.cells #[.int .i64 0, .int .i64 2, .int .i64 1, .int .i64 3] 3)) (some ⟨w6.heap.size, 0, none⟩) 4 4 [0, 2, 1, 3] := by
    refine ⟨rfl, Nat.le_refl _, by unfold maxLen; omega, fun h => (by cases h), fun ad had j hj => ?_, by decide⟩
    cases had
    have hc := cell_of_row _ w6.heap.size j _ 3 (0, 0) (heap_alloc_new w6 (.cells #[.int .i64 0, .int .i64 2, .int .i64 1, .int .i64 3] 3))
    match j, hj with
    | 0, _ => exact hc.trans rfl
    | 1, _ => exact hc.trans rfl
    | 2, _ => exact hc.trans rfl
    | 3, _ => exact hc.trans rfl
  have KS := Lib.hid (same_ints oa (some ⟨w6.heap.size, 0, none⟩) 4 oc 4 4 [0, 2, 1, 3] [0, 2, 1, 3] _ (Row_alloc hor _) hlit (by omega))
  have HB6 := Lib.hid hb6
  unfold SamePost at KS
  clear hov hov2 hor hlit hb6 KO g1 g2
  go_wp2_with fail
  refine KS.out.mono ?_
  rintro e w8 ⟨rfl, n8, rfl⟩
  have hb8 : Below w5.heap.size w5 ((w6.alloc (.cells #[.int .i64 0, .int .i64 2, .int .i64 1, .int .i64 3] 3)).drewN n8) := below_drewN (HB6.out.alloc HB6.out.size _) n8
  have HB8 := Lib.hid hb8
  clear hb8 KS
  generalize ((w6.alloc (.cells #[.int .i64 0, .int .i64 2, .int .i64 1, .int .i64 3] 3)).drewN n8) = w8 at *
  obtain ⟨cg, c0, c1⟩ := HC.out w8 HB8.out
  have ce0 := (cell_blk ⟨b, 0, none⟩ (Below.heap_alloc w8 (.cells #[.int .i64 3, .int .i64 0] 3) b (World.block_lt_of_cell? w8 _ c0))).trans c0
  have ce1 := (cell_blk ⟨b, 1, none⟩ (Below.heap_alloc w8 (.cells #[.int .i64 3, .int .i64 0] 3) b (World.block_lt_of_cell? w8 _ c1))).trans c1
  have hn := heap_alloc_new w8 (.cells #[.int .i64 3, .int .i64 0] 3)
  have KS2 := Lib.hid (same_ints (some ⟨b, 0, none⟩) (some ⟨w8.heap.size, 0, none⟩) 2 2 2 2 [3, 0] [3, 0] (w8.alloc (.cells #[.int .i64 3, .int .i64 0] 3)) (row_two ce0 ce1 (Nat.le_refl _) (by unfold maxLen; omega) (by decide) (by decide))
    (row_two ((cell_of_row _ _ 0 _ 3 (0, 0) hn).trans rfl) ((cell_of_row _ _ 1 _ 3 (0, 0) hn).trans rfl) (Nat.le_refl _) (by unfold maxLen; omega) (by decide) (by decide)) (by omega))
  unfold SamePost at KS2
  clear c0 c1 ce0 ce1 hn
  go_wp2_with fail
  refine KS2.out.mono ?_
  rintro e w9 ⟨rfl, n9, rfl⟩
  have FIN := Lib.hid (below_drewN ((HB5.out.trans (HB8.out.mono HB5.out.size)).alloc (by have := HB8.out.size; have := HB5.out.size; omega) (.cells #[.int .i64 3, .int .i64 0] 3)) n9)
  clear KS2
  go_wp2_with fail
  go_ret
  exact ⟨by simp, FIN.out⟩

end Go.Proofs.YtchechdcebmoeaaDoor

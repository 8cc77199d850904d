/-
  flow.Of: its blocks, and what its loops do to them.
-/
import Derived.Test.YtchechdcebmoeaaDoorOfH
import Derived.Test.YtchechdcebmoeaaDoorRws
namespace Go.Proofs.YtchechdcebmoeaaDoor
open Go.RowKit

theorem blkinfo : (Tryd.prog.info? 78).map (fun i => (i.zero, i.size, i.bytes)) = some (some (.agg #[.int .i64 0, .int .i64 0, .slice none 0 0, .slice none 0 0]), 4, 64) := by kernel_rfl

/-- The blocks' cells: the first b have their bounds. -/
def blkC (fr : Nat → Nat) (vs : Nat → Value) (b j : Nat) : Value :=
  if j % 4 = 0 then .int .i64 ((if j / 4 < b then fr (j / 4) else 0 : Nat) : Int) else if j % 4 = 1 then .int .i64 ((if j / 4 < b then fr (j / 4 + 1) else 0 : Nat) : Int) else if j % 4 = 2 then vs (2 * (j / 4)) else vs (2 * (j / 4) + 1)
theorem blkC0 (fr : Nat → Nat) (vs : Nat → Value) {b i : Nat} (h : i < b) : blkC fr vs b (i * 4) = .int .i64 (fr i : Int) := by
  unfold blkC; rw [if_pos (by omega), show i * 4 / 4 = i by omega, if_pos h]
theorem blkC1 (fr : Nat → Nat) (vs : Nat → Value) {b i : Nat} (h : i < b) : blkC fr vs b (i * 4 + 1) = .int .i64 (fr (i + 1) : Int) := by
  unfold blkC; rw [if_neg (by omega), if_pos (by omega), show (i * 4 + 1) / 4 = i by omega, if_pos h]
theorem blkC2 (fr : Nat → Nat) (vs : Nat → Value) (b i : Nat) : blkC fr vs b (i * 4 + 2) = vs (2 * i) := by
  unfold blkC; rw [if_neg (by omega), if_neg (by omega), if_pos (by omega), show (i * 4 + 2) / 4 = i by omega]
theorem blkC3 (fr : Nat → Nat) (vs : Nat → Value) (b i : Nat) : blkC fr vs b (i * 4 + 3) = vs (2 * i + 1) := by
  unfold blkC; rw [if_neg (by omega), if_neg (by omega), if_neg (by omega), show (i * 4 + 3) / 4 = i by omega]
/-- One block's bounds more. -/
theorem blkC_next (fr : Nat → Nat) (vs : Nat → Value) (b : Nat) (j : Nat) : updV (updV (blkC fr vs b) (b * 4) (.int .i64 (fr b : Int))) (b * 4 + 1) (.int .i64 (fr (b + 1) : Int)) j = blkC fr vs (b + 1) j := by
  unfold updV
  by_cases e1 : j = b * 4 + 1
  · rw [if_pos e1, e1, blkC1 _ _ (Nat.lt_succ_self b)]
  · rw [if_neg e1]
    by_cases e0 : j = b * 4
    · rw [if_pos e0, e0, blkC0 _ _ (Nat.lt_succ_self b)]
    · rw [if_neg e0]
      unfold blkC
      by_cases m0 : j % 4 = 0
      · rw [if_pos m0, if_pos m0]
        by_cases h : j / 4 < b
        · rw [if_pos h, if_pos (by omega)]
        · rw [if_neg h, if_neg (by omega)]
      · rw [if_neg m0, if_neg m0]
        by_cases m1 : j % 4 = 1
        · rw [if_pos m1, if_pos m1]
          by_cases h : j / 4 < b
          · rw [if_pos h, if_pos (by omega)]
          · rw [if_neg h, if_neg (by omega)]
        · rw [if_neg m1, if_neg m1]
/-- A row's new place. -/
theorem blkC_row (fr : Nat → Nat) (vs : Nat → Value) (b m : Nat) (v : Value) (j : Nat) : updV (blkC fr vs b) (m / 2 * 4 + 2 + m % 2) v j = blkC fr (updV vs m v) b j := by
  unfold updV
  by_cases e : j = m / 2 * 4 + 2 + m % 2
  · rw [if_pos e]
    rcases (show m % 2 = 0 ∨ m % 2 = 1 by omega) with h | h
    · rw [e, h, Nat.add_zero, blkC2, if_pos (by omega)]
    · rw [e, h, blkC3, if_pos (by omega)]
  · rw [if_neg e]
    unfold blkC
    by_cases m0 : j % 4 = 0
    · rw [if_pos m0, if_pos m0]
    · rw [if_neg m0, if_neg m0]
      by_cases m1 : j % 4 = 1
      · rw [if_pos m1, if_pos m1]
      · rw [if_neg m1, if_neg m1]
        by_cases m2 : j % 4 = 2
        · rw [if_pos m2, if_pos m2]
          dsimp only
          rw [if_neg (by omega)]
        · rw [if_neg m2, if_neg m2]
          dsimp only
          rw [if_neg (by omega)]

/-- The blocks, and the block of each instruction, in their rows; all else stays. -/
structure OfS (W : World) (bb ab L n : Nat) (C : Nat → Value) (aF : Nat → Nat) (wr : World) : Prop where
  cb : wr.heap[bb]? = some (.cells ((List.range (L * 4)).map C).toArray 78 (0, 0))
  ca : wr.heap[ab]? = some (.cells ((List.range n).map fun k => Value.int .i64 (aF k : Int)).toArray 3 (0, 0))
  keep : ∀ k, k < W.heap.size → k ≠ bb → k ≠ ab → wr.heap[k]? = W.heap[k]?
  size : W.heap.size ≤ wr.heap.size
  os : wr.os = W.os ∧ wr.tape = W.tape ∧ wr.output = W.output

section
variable {W : World} {bb ab L n : Nat} {C : Nat → Value} {aF : Nat → Nat} {wr : World}
theorem OfS.ne (h : OfS W bb ab L n C aF wr) : bb ≠ ab := fun e => by
  have h1 := h.cb
  rw [e, h.ca] at h1
  exact absurd (Obj.cells.inj (Option.some.inj h1)).2.1 (by decide)
theorem OfS.ltb (h : OfS W bb ab L n C aF wr) : bb < wr.heap.size := (Array.getElem?_eq_some_iff.1 h.cb).1
theorem OfS.lta (h : OfS W bb ab L n C aF wr) : ab < wr.heap.size := (Array.getElem?_eq_some_iff.1 h.ca).1
theorem OfS.cellB (h : OfS W bb ab L n C aF wr) {j : Nat} (hj : j < L * 4) : wr.cell? ⟨bb, j, none⟩ = some (C j) := by
  rw [cell_of_row wr bb j _ 78 (0, 0) h.cb]
  simp [hj]
theorem OfS.cellA (h : OfS W bb ab L n C aF wr) {j : Nat} (hj : j < n) : wr.cell? ⟨ab, j, none⟩ = some (.int .i64 (aF j : Int)) := by
  rw [cell_of_row wr ab j _ 3 (0, 0) h.ca]
  simp [hj]
theorem OfS.frB (h : OfS W bb ab L n C aF wr) (j : Nat) : wr.frozen? ⟨bb, j, none⟩ = false := frozen_of_row wr bb j _ 78 h.cb
theorem OfS.frA (h : OfS W bb ab L n C aF wr) (j : Nat) : wr.frozen? ⟨ab, j, none⟩ = false := frozen_of_row wr ab j _ 3 h.ca
theorem OfS.congr (h : OfS W bb ab L n C aF wr) {C2 : Nat → Value} {aF2 : Nat → Nat} (e1 : ∀ j, j < L * 4 → C j = C2 j) (e2 : ∀ j, j < n → aF j = aF2 j) : OfS W bb ab L n C2 aF2 wr := by
  refine ⟨?_, ?_, h.keep, h.size, h.os⟩
  · rw [h.cb]; congr 3
    exact List.map_congr_left fun k hk => e1 k (by simpa using hk)
  · rw [h.ca]; congr 3
    exact List.map_congr_left fun k hk => by rw [e2 k (by simpa using hk)]
theorem OfS.setB (h : OfS W bb ab L n C aF wr) (j : Nat) (v : Value) : OfS W bb ab L n (updV C j v) aF (wr.setCell ⟨bb, j, none⟩ v) := by
  have ho : ∀ k, k ≠ bb → (wr.setCell ⟨bb, j, none⟩ v).heap[k]? = wr.heap[k]? := fun k hk => heap_setCell_other wr ⟨bb, j, none⟩ k v hk
  refine ⟨?_, (ho ab h.ne.symm).trans h.ca, fun k hk h1 h2 => (ho k h1).trans (h.keep k hk h1 h2), by rw [World.size_setCell]; exact h.size, h.os⟩
  rw [heap_setCell_same wr bb j _ 78 _ h.cb]
  have := rws_set (L * 4) C j v
  simp [this]
theorem OfS.setA (h : OfS W bb ab L n C aF wr) (j x : Nat) : OfS W bb ab L n C (updV aF j x) (wr.setCell ⟨ab, j, none⟩ (.int .i64 (x : Int))) := by
  have ho : ∀ k, k ≠ ab → (wr.setCell ⟨ab, j, none⟩ (.int .i64 (x : Int))).heap[k]? = wr.heap[k]? := fun k hk => heap_setCell_other wr ⟨ab, j, none⟩ k _ hk
  refine ⟨(ho bb h.ne).trans h.cb, ?_, fun k hk h1 h2 => (ho k h2).trans (h.keep k hk h1 h2), by rw [World.size_setCell]; exact h.size, h.os⟩
  rw [heap_setCell_same wr ab j _ 3 _ h.ca]
  have e : ((List.range n).map fun k => Value.int .i64 (aF k : Int)).set j (.int .i64 (x : Int)) = (List.range n).map fun k => Value.int .i64 ((updV aF j x k : Nat) : Int) := by
    rw [rws_set]
    refine List.map_congr_left fun k _ => ?_
    unfold updV
    split <;> rfl
  simp [e]
/-- What leaves all old blocks leaves these. -/
theorem OfS.grown (h : OfS W bb ab L n C aF wr) {w' : World} (hb : Below wr.heap.size wr w') : OfS W bb ab L n C aF w' :=
  ⟨(hb.block _ h.ltb).trans h.cb, (hb.block _ h.lta).trans h.ca, fun k hk h1 h2 => (hb.block k (Nat.lt_of_lt_of_le hk h.size)).trans (h.keep k hk h1 h2), Nat.le_trans h.size hb.size, hb.os.trans h.os.1, hb.tape.trans h.os.2.1, hb.output.trans h.os.2.2⟩
/-- What writes to none but one other block. -/
theorem OfS.grownBy (h : OfS W bb ab L n C aF wr) {w1 w5 : World} {row : Option Nat} (hb : Below wr.heap.size wr w1) (hg : w1.grownBy w5 row) (hr : ∀ k, row = some k → W.heap.size ≤ k ∧ k ≠ bb ∧ k ≠ ab) : OfS W bb ab L n C aF w5 := by
  have h1 := h.grown hb
  have hs := hb.size
  refine ⟨(hg.block bb h1.ltb (fun e => (hr bb e.symm).2.1 rfl)).trans h1.cb, (hg.block ab h1.lta (fun e => (hr ab e.symm).2.2 rfl)).trans h1.ca, fun k hk h2 h3 => ?_, Nat.le_trans h1.size hg.size, hg.os.trans h1.os.1, hg.tape.trans h1.os.2.1, hg.output.trans h1.os.2.2⟩
  rw [hg.block k (Nat.lt_of_lt_of_le hk h1.size) (fun e => by have := (hr k e.symm).1; omega)]
  exact h1.keep k hk h2 h3
end

theorem blkC_at (fr : Nat → Nat) (vs : Nat → Value) (b m : Nat) : blkC fr vs b (m / 2 * 4 + 2 + m % 2) = vs m := by
  rcases (show m % 2 = 0 ∨ m % 2 = 1 by omega) with h | h
  · rw [h, Nat.add_zero, blkC2]; congr 1; omega
  · rw [h, blkC3]; congr 1; omega

/-- A number at the end of one row, and the row's new place in its block. -/
theorem of_app {W : World} {bb ab L n : Nat} {fr : Nat → Nat} {vs : Nat → Value} {F : Nat → List Int} {aF : Nat → Nat} {wr w1 w5 : World} {m : Nat} {v' : Value} {x : Int} (h : OfS W bb ab L n (blkC fr vs L) aF wr) (hf : Fam W.heap.size (2 * L) vs F wr) (hbb : bb < W.heap.size) (hab : ab < W.heap.size) (hm : m < 2 * L) (hb : Below wr.heap.size wr w1)
    (ho : w5.ownsRow W.heap.size 3 1 v' ((F m).length + 1) ((F m).map (Value.int .i64) ++ [.int .i64 x])) (hg : w1.grownBy w5 (vs m).ownBlock) (ha : v'.ownBlock = (vs m).ownBlock ∨ v'.ownBlock = some w1.heap.size) :
    (w5.frozen? ⟨bb, m / 2 * 4 + 2 + m % 2, none⟩ = false ∧ w5.cell? ⟨bb, m / 2 * 4 + 2 + m % 2, none⟩ = some (vs m)) ∧ OfS W bb ab L n (blkC fr (updV vs m v') L) aF (w5.setCell ⟨bb, m / 2 * 4 + 2 + m % 2, none⟩ v') ∧
      Fam W.heap.size (2 * L) (updV vs m v') (updV F m (F m ++ [x])) (w5.setCell ⟨bb, m / 2 * 4 + 2 + m % 2, none⟩ v') ∧ ∀ k, k < wr.heap.size → k ≠ bb → (vs m).ownBlock ≠ some k → (w5.setCell ⟨bb, m / 2 * 4 + 2 + m % 2, none⟩ v').heap[k]? = wr.heap[k]? := by
  have hne : ∀ k, (vs m).ownBlock = some k → W.heap.size ≤ k ∧ k ≠ bb ∧ k ≠ ab := fun k hk => by
    have := (hf.lt hm hk).1
    omega
  have o5 := h.grownBy hb hg hne
  have hs := hb.size
  have ho2 : ∀ k, k ≠ bb → (w5.setCell ⟨bb, m / 2 * 4 + 2 + m % 2, none⟩ v').heap[k]? = w5.heap[k]? := fun k hk => heap_setCell_other w5 ⟨bb, m / 2 * 4 + 2 + m % 2, none⟩ k v' hk
  refine ⟨⟨o5.frB _, by rw [o5.cellB (by omega), blkC_at]⟩, (o5.setB _ v').congr (fun j _ => blkC_row fr vs L m v' j) (fun _ _ => rfl), ?_, fun k hk h1 h2 => ?_⟩
  · have f5 := hf.app hm (fun k hk => hb.block k hk) hs ho hg ha
    refine f5.kept fun j k hj hk => ho2 k fun e => ?_
    have := (f5.lt hj hk).1
    omega
  · rw [ho2 k h1, hg.block k (by omega) (fun e => h2 e.symm), hb.block k hk]

/-- As it is made. -/
theorem blk_run (w : World) (n : Nat) (hn : n ≤ 1000) :
    (Instr.makeSlice 73 (.int .i64 (n : Int)) (.int .i64 (n : Int))).run Tryd.prog w = .ok (.slice (some ⟨w.heap.size, 0, none⟩) n n) (w.alloc (.cells (madeCells #[.int .i64 0, .int .i64 0, .slice none 0 0, .slice none 0 0] (n * 4)) 78)) := by
  obtain ⟨i0, hi, hz0, hz1, hz2⟩ := info_parts blkinfo
  have h1 : ((i0.bytes : Nat) : Int) * (n : Int) ≤ 281474976710656 := by rw [hz2]; omega
  have h2 : (n : Int) ≤ 9223372036854775807 := by omega
  have h := run_make (P := Tryd.prog) w 73 78 i0 _ Tryd.underlying73 hi hz0 .i64 .i64 (n : Int) (n : Int) (by omega) (Int.le_refl _) h1 h2
  rw [Int.toNat_natCast, hz1] at h
  exact h
theorem blk_made (fr : Nat → Nat) (m : Nat) : madeCells #[.int .i64 0, .int .i64 0, .slice none 0 0, .slice none 0 0] m = ((List.range m).map (blkC fr (fun _ => .slice none 0 0) 0)).toArray := by
  apply Array.ext_getElem?
  intro j
  by_cases h : j < m
  · unfold madeCells
    have hm : j % 4 < 4 := Nat.mod_lt _ (by decide)
    simp [h]
    unfold blkC
    simp only [Nat.not_lt_zero, if_false]
    match j % 4, hm with
    | 0, _ => rfl
    | 1, _ => rfl
    | 2, _ => rfl
    | 3, _ => rfl
  · simp [madeCells, h]

/-- Where a block goes on: of what its last instruction says, the first k. -/
def sucP (f : Nat → Bool) (n : Nat) (nx : List Int) (k : Nat) : List Int := ((nx.take k).filter fun x => decide (0 ≤ x ∧ x < (n : Int))).map fun x => (atB f x.toNat : Int)
theorem sucP_next (f : Nat → Bool) (n : Nat) (nx : List Int) (k : Nat) (h : k < nx.length) : sucP f n nx (k + 1) = if 0 ≤ nx.getD k 0 ∧ nx.getD k 0 < (n : Int) then sucP f n nx k ++ [(atB f (nx.getD k 0).toNat : Int)] else sucP f n nx k := by
  unfold sucP
  have e : nx.take (k + 1) = nx.take k ++ [nx.getD k 0] := by rw [List.take_add_one, List.getElem?_eq_getElem h]; simp [List.getD, h]
  rw [e, List.filter_append]
  by_cases hx : 0 ≤ nx.getD k 0 ∧ nx.getD k 0 < (n : Int)
  · rw [if_pos hx, List.filter_cons_of_pos (by simpa using hx)]; simp
  · rw [if_neg hx, List.filter_cons_of_neg (by simpa using hx)]; simp
/-- Who goes on to block s: among the first b, and the first k ways of the next one. -/
def prdF (S : Nat → List Int) (b k s : Nat) : List Int :=
  ((List.range b).flatMap fun i => ((S i).filter fun x => decide (x = (s : Int))).map fun _ => (i : Int)) ++ (((S b).take k).filter fun x => decide (x = (s : Int))).map fun _ => (b : Int)
theorem prdF_next (S : Nat → List Int) (b k s : Nat) (h : k < (S b).length) : prdF S b (k + 1) s = if (S b).getD k 0 = (s : Int) then prdF S b k s ++ [(b : Int)] else prdF S b k s := by
  unfold prdF
  have e : (S b).take (k + 1) = (S b).take k ++ [(S b).getD k 0] := by rw [List.take_add_one, List.getElem?_eq_getElem h]; simp [List.getD, h]
  rw [e, List.filter_append]
  by_cases hx : (S b).getD k 0 = (s : Int)
  · rw [if_pos hx, List.filter_cons_of_pos (by simpa using hx)]; simp
  · rw [if_neg hx, List.filter_cons_of_neg (by simpa using hx)]; simp
theorem prdF_row (S : Nat → List Int) (b s : Nat) : prdF S b (S b).length s = prdF S (b + 1) 0 s := by
  unfold prdF
  rw [List.take_length, List.range_succ, List.flatMap_append]
  simp

/-- All the rows: of block i the ways on (2 i), and who comes (2 i + 1). -/
def famF (S : Nat → List Int) (sb : List Int) (b k j : Nat) : List Int := if j % 2 = 0 then (if j / 2 < b then S (j / 2) else if j / 2 = b then sb else []) else prdF S b k (j / 2)
theorem famF_s (S : Nat → List Int) (sb : List Int) (b k : Nat) : famF S sb b k (2 * b) = sb := by
  unfold famF; rw [if_pos (by omega), if_neg (by omega), if_pos (by omega)]
theorem famF_p (S : Nat → List Int) (sb : List Int) (b k s : Nat) : famF S sb b k (2 * s + 1) = prdF S b k s := by
  unfold famF; rw [if_neg (by omega), show (2 * s + 1) / 2 = s by omega]
theorem famF_more (S : Nat → List Int) (sb : List Int) (b : Nat) (x : Int) (j : Nat) : updV (famF S sb b 0) (2 * b) (sb ++ [x]) j = famF S (sb ++ [x]) b 0 j := by
  unfold updV famF
  by_cases e : j = 2 * b
  · rw [if_pos e, if_pos (by omega), if_neg (by omega), if_pos (by omega)]
  · rw [if_neg e]
    by_cases h2 : j % 2 = 0
    · rw [if_pos h2, if_pos h2]
      by_cases h3 : j / 2 < b
      · rw [if_pos h3, if_pos h3]
      · rw [if_neg h3, if_neg h3, if_neg (by omega), if_neg (by omega)]
    · rw [if_neg h2, if_neg h2]
theorem famF_pred (S : Nat → List Int) (b k s : Nat) (h : k < (S b).length) (hs : (S b).getD k 0 = (s : Int)) (j : Nat) : updV (famF S (S b) b k) (2 * s + 1) (prdF S b k s ++ [(b : Int)]) j = famF S (S b) b (k + 1) j := by
  unfold updV
  by_cases e : j = 2 * s + 1
  · rw [if_pos e, e, famF_p, prdF_next S b k s h, if_pos hs]
  · rw [if_neg e]
    unfold famF
    by_cases h2 : j % 2 = 0
    · rw [if_pos h2, if_pos h2]
    · rw [if_neg h2, if_neg h2, prdF_next S b k _ h, if_neg (by rw [hs]; omega)]
theorem famF_row (S : Nat → List Int) (b j : Nat) : famF S (S b) b (S b).length j = famF S [] (b + 1) 0 j := by
  unfold famF
  by_cases h2 : j % 2 = 0
  · rw [if_pos h2, if_pos h2]
    by_cases h3 : j / 2 < b
    · rw [if_pos h3, if_pos (by omega)]
    · rw [if_neg h3]
      by_cases h4 : j / 2 = b
      · rw [if_pos h4, if_pos (by omega), h4]
      · rw [if_neg h4, if_neg (by omega)]
        split <;> rfl
  · rw [if_neg h2, if_neg h2, prdF_row]
theorem famF_nil (S : Nat → List Int) (j : Nat) : famF S [] 0 0 j = [] := by
  unfold famF prdF
  split
  · split
    · omega
    · split <;> rfl
  · simp

end Go.Proofs.YtchechdcebmoeaaDoor

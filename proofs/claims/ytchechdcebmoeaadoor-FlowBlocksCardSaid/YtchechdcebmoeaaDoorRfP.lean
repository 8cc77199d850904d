/-
  The document's blocks, plainly; their boxes.
-/
import Derived.Test.YtchechdcebmoeaaDoorOfW
import Derived.Test.YtchechdcebmoeaaDoorCovP
import Derived.Test.YtchechdcebmoeaaDoorFwH
namespace Go.Proofs.YtchechdcebmoeaaDoor
open Go.RowKit

/-! Where blocks begin. -/
def putT (f : Nat → Bool) (i : Nat) : Nat → Bool := fun k => if k = i then true else f k
def rhS (f : Nat → Bool) (T A : Int) (k : Nat) : Nat → Bool :=
  if T = 22 ∨ T = 23 then putT (putT (if k = 0 then putT f 0 else f) (k + 1)) A.toNat else if T = 33 then putT (if k = 0 then putT f 0 else f) (k + 1) else if k = 0 then putT f 0 else f
def rhF (gv : Nat → Nat → Int) : Nat → (Nat → Bool)
  | 0 => fun _ => false
  | k + 1 => rhS (rhF gv k) (gv k 0) (gv k 1) k

theorem putT_add (n : Nat) (f g : Nat → Bool) (i : Nat) (x : Int) (hx : x = (i : Int)) (hi : i ≤ n) (h : ∀ j, j < n → f j = g j) : ∀ j, j < n → putT f i j = addB n g x j := fun j hj => by
  subst hx
  unfold putT addB
  by_cases e : j = i
  · subst e
    rw [if_pos rfl, inB_of (by omega)]
    simp
  · rw [if_neg e, h j hj]
    simp [e]
theorem putT_zero (n : Nat) (f g : Nat → Bool) (h : ∀ j, j < n → f j = g j) (hz : 0 < n → g 0 = true) : ∀ j, j < n → putT f 0 j = g j := fun j hj => by
  unfold putT
  by_cases e : j = 0
  · subst e; rw [if_pos rfl, hz hj]
  · rw [if_neg e, h j hj]

theorem rhF_hd (n : Nat) (gv : Nat → Nat → Int) (hA : ∀ i, i < n → gv i 0 = 22 ∨ gv i 0 = 23 → 0 ≤ gv i 1 ∧ gv i 1 < (n : Int)) : ∀ k, 0 < k → k ≤ n → ∀ j, j < n → rhF gv k j = hdF n gv k j := by
  have step : ∀ k (f g : Nat → Bool), k < n → (∀ j, j < n → f j = g j) → ∀ j, j < n → (if gv k 0 = 22 ∨ gv k 0 = 23 then putT (putT f (k + 1)) (gv k 1).toNat else if gv k 0 = 33 then putT f (k + 1) else f) j = hdS n g (gv k 0) (gv k 1) k j := by
    intro k f g hk h j hj
    unfold hdS
    by_cases h1 : gv k 0 = 22 ∨ gv k 0 = 23
    · rw [if_pos h1, if_pos h1]
      have ha := hA k hk h1
      -- the two are put in the other order
      have e1 := putT_add n f g (k + 1) ((k : Int) + 1) (by omega) (by omega) h
      have e2 := putT_add n f g (gv k 1).toNat (gv k 1) (by omega) (by omega) h
      unfold putT addB at *
      have a1 := e1 j hj
      have a2 := e2 j hj
      by_cases q : j = (gv k 1).toNat
      · rw [if_pos q]
        rw [if_pos q] at a2
        rw [← a2]
        simp
      · rw [if_neg q]
        rw [if_neg q] at a2
        rw [← a2, a1, h j hj]
    · rw [if_neg h1, if_neg h1]
      by_cases h2 : gv k 0 = 33
      · rw [if_pos h2, if_pos h2]
        exact putT_add n f g (k + 1) ((k : Int) + 1) (by omega) (by omega) h j hj
      · rw [if_neg h2, if_neg h2]; exact h j hj
  intro k
  induction k with
  | zero => intro h; omega
  | succ k ih =>
    intro _ hk j hj
    show rhS (rhF gv k) (gv k 0) (gv k 1) k j = hdS n (hdF n gv k) (gv k 0) (gv k 1) k j
    unfold rhS
    by_cases h0 : k = 0
    · subst h0
      rw [if_pos rfl]
      refine step 0 _ _ (by omega) (fun j hj => ?_) j hj
      show putT (fun _ => false) 0 j = addB n (fun _ => false) 0 j
      exact putT_add n _ _ 0 0 rfl (by omega) (fun _ _ => rfl) j hj
    · rw [if_neg h0]
      exact step k _ _ (by omega) (fun j hj => ih (by omega) (by omega) j hj) j hj

theorem nB_next (f : Nat → Bool) (pc : Nat) : nB f (pc + 1) = nB f pc + if f pc then 1 else 0 := by
  unfold nB
  rw [mem_next, List.length_append]
  split <;> simp
theorem nB_congr {f g : Nat → Bool} {n : Nat} (h : ∀ j, j < n → f j = g j) : members f n = members g n := by
  unfold members
  exact List.filter_congr fun j hj => h j (List.mem_range.1 hj)
theorem nB_mono (f : Nat → Bool) {a b : Nat} (h : a ≤ b) : nB f a ≤ nB f b := by
  obtain ⟨d, rfl⟩ : ∃ d, b = a + d := ⟨b - a, by omega⟩
  clear h
  induction d with
  | zero => exact Nat.le_refl _
  | succ d ih => rw [← Nat.add_assoc, nB_next]; omega
/-- The head at pc is the block's that comes next. -/
theorem frB_here (f : Nat → Bool) {n pc : Nat} (hp : pc < n) (hf : f pc = true) : frB f n (nB f pc) = pc := by
  obtain ⟨i, hi, e⟩ := frB_has f n hp hf
  have hlt : frB f n i < frB f n (i + 1) := by
    by_cases h : i + 1 < nB f n
    · exact frB_rise f n (Nat.lt_succ_self i) hi
    · rw [frB_out f n (i + 1) (by omega)]; exact (frB_lt f n i hi).1
  have h1 : nB f (pc + 1) = i + 1 := atB_block f n i pc (by omega) (by omega)
  rw [nB_next, if_pos hf] at h1
  rw [show nB f pc = i by omega, e]

/-- Heads stand in blocks that rise. -/
theorem atB_rise (f : Nat → Bool) {x y : Nat} (h : x < y) (hx : f x = true) (hy : f y = true) : atB f x < atB f y := by
  have h1 := nB_next f x
  have h2 := nB_next f y
  rw [if_pos hx] at h1
  rw [if_pos hy] at h2
  have h3 := nB_mono f (show x + 1 ≤ y by omega)
  unfold atB
  omega

theorem suc_rises (n : Nat) (gv : Nat → Nat → Int) (hA : ∀ i, i < n → gv i 0 = 22 ∨ gv i 0 = 23 → 0 ≤ gv i 1 ∧ gv i 1 < (n : Int)) (pc : Int) : (sucP (hdF n gv n) n (nextM n gv pc) (nextM n gv pc).length).Pairwise (· < ·) := by
  unfold sucP
  rw [List.take_length]
  unfold nextM
  split
  · rename_i hp
    obtain ⟨k, rfl⟩ : ∃ k : Nat, pc = k := ⟨pc.toNat, by omega⟩
    have hk : k < n := by omega
    rw [Int.toNat_natCast]
    have hA := hA k hk
    have two : ∀ a b : Nat, a < b → hdF n gv n a = true → (b < n → hdF n gv n b = true) → ((([(a : Int), (b : Int)] : List Int).filter fun x => decide (0 ≤ x ∧ x < (n : Int))).map fun x => (atB (hdF n gv n) x.toNat : Int)).Pairwise (· < ·) := by
      intro a b hab ha hb
      by_cases hbn : b < n
      · rw [List.filter_cons_of_pos (by simp; omega), List.filter_cons_of_pos (by simp; omega)]
        simp only [List.filter_nil, List.map_cons, List.map_nil, Int.toNat_natCast]
        have := atB_rise _ hab ha (hb hbn)
        simp
        omega
      · have e : (([(b : Int)] : List Int).filter fun x => decide (0 ≤ x ∧ x < (n : Int))) = [] := by
          rw [List.filter_cons_of_neg (by simp; omega)]; rfl
        rw [List.filter_cons, e]
        split <;> simp
    unfold nextL
    split
    · simp
    · split
      · rw [List.filter_cons]; split <;> simp
      · split
        · rename_i h3
          have ha := hA (by omega)
          obtain ⟨a, hae⟩ : ∃ a : Nat, gv k 1 = a := ⟨(gv k 1).toNat, by omega⟩
          rw [hae, show (k : Int) + 1 = ((k + 1 : Nat) : Int) by omega]
          exact two a (k + 1) (by omega) (hd_target n gv hk (by omega) (.inr h3.1) hae) (fun h => hd_next n gv h (.inr (.inl h3.1)))
        · split
          · rename_i h3 h4
            have ha := hA (by omega)
            obtain ⟨a, hae⟩ : ∃ a : Nat, gv k 1 = a := ⟨(gv k 1).toNat, by omega⟩
            rw [hae, show (k : Int) + 1 = ((k + 1 : Nat) : Int) by omega]
            refine two (k + 1) a (by omega) (hd_next n gv (by omega) (.inr (.inl h4.1))) (fun h => hd_target n gv hk h (.inr h4.1) hae)
          · rw [List.filter_cons]; split <;> simp
  · simp

/-! The row of blocks while it grows. -/
def blR (fr : Nat → Nat) (m n j : Nat) : Value := if j % 4 = 0 then .int .i64 (fr (j / 4) : Int) else if j % 4 = 1 then .int .i64 ((if j / 4 + 1 < m then fr (j / 4 + 1) else n : Nat) : Int) else .slice none 0 0

theorem own_set {w : World} {B e size g n c : Nat} {xs : List Value} (h : w.ownsRow B e size (.slice (some ⟨g, 0, none⟩) n c) n xs) {j : Nat} (_hj : j < n * size) (x : Value) :
    (w.setCell ⟨g, j, none⟩ x).ownsRow B e size (.slice (some ⟨g, 0, none⟩) n c) n (xs.set j x) := by
  refine ⟨by rw [List.length_set]; exact h.1, ?_⟩
  rcases h.2 with ⟨h1, _⟩ | ⟨g2, cap, cur, hv, hb, hg, h2, h3, h4, h5⟩
  · cases h1
  · cases hv
    refine .inr ⟨g, c, cur.set! j x, rfl, hb, ?_, h2, h3, by simpa using h4, ?_⟩
    · rw [heap_setCell_same w g j _ e _ hg]
      simp
    · rw [← h5]
      simp [List.take_set]

/-- A cell of the blocks; behind the last one what lies there. -/
def rfC (fr : Nat → Nat) (vs : Nat → Value) (L : Nat) (X : Nat → Value) (j : Nat) : Value := if j < L * 4 then blkC fr vs L j else X j
theorem rfC_in (fr : Nat → Nat) (vs : Nat → Value) {L : Nat} (X : Nat → Value) {j : Nat} (h : j < L * 4) : rfC fr vs L X j = blkC fr vs L j := by unfold rfC; rw [if_pos h]
theorem rfC_at (fr : Nat → Nat) (vs : Nat → Value) {L : Nat} (X : Nat → Value) {m : Nat} (h : m < 2 * L) : rfC fr vs L X (m / 2 * 4 + 2 + m % 2) = vs m := by rw [rfC_in _ _ _ (by omega), blkC_at]
theorem rfC_row (fr : Nat → Nat) (vs : Nat → Value) {L : Nat} (X : Nat → Value) {m : Nat} (h : m < 2 * L) (v : Value) (j : Nat) : updV (rfC fr vs L X) (m / 2 * 4 + 2 + m % 2) v j = rfC fr (updV vs m v) L X j := by
  rw [show rfC fr (updV vs m v) L X j = if j < L * 4 then blkC fr (updV vs m v) L j else X j from rfl, ← blkC_row]
  unfold updV rfC
  by_cases e : j = m / 2 * 4 + 2 + m % 2
  · rw [if_pos e, if_pos (by omega), if_pos e]
  · rw [if_neg e, if_neg e]

/-- The blocks, and the block of each instruction, in their rows; all else stays. -/
structure RfS (W : World) (bb ab Z n : Nat) (C : Nat → Value) (aF : Nat → Nat) (wr : World) : Prop where
  cb : wr.heap[bb]? = some (.cells ((List.range Z).map C).toArray 79 (0, 0))
  ca : wr.heap[ab]? = some (.cells ((List.range n).map fun k => Value.int .i64 (aF k : Int)).toArray 3 (0, 0))
  keep : ∀ k, k < W.heap.size → k ≠ bb → k ≠ ab → wr.heap[k]? = W.heap[k]?
  size : W.heap.size ≤ wr.heap.size
  os : wr.os = W.os ∧ wr.tape = W.tape ∧ wr.output = W.output

section
variable {W : World} {bb ab Z n : Nat} {C : Nat → Value} {aF : Nat → Nat} {wr : World}
theorem RfS.ne (h : RfS W bb ab Z n C aF wr) : bb ≠ ab := fun e => by
  have h1 := h.cb
  rw [e, h.ca] at h1
  exact absurd (Obj.cells.inj (Option.some.inj h1)).2.1 (by decide)
theorem RfS.ltb (h : RfS W bb ab Z n C aF wr) : bb < wr.heap.size := (Array.getElem?_eq_some_iff.1 h.cb).1
theorem RfS.lta (h : RfS W bb ab Z n C aF wr) : ab < wr.heap.size := (Array.getElem?_eq_some_iff.1 h.ca).1
theorem RfS.cellB (h : RfS W bb ab Z n C aF wr) {j : Nat} (hj : j < Z) : wr.cell? ⟨bb, j, none⟩ = some (C j) := by
  rw [cell_of_row wr bb j _ 79 (0, 0) h.cb]
  simp [hj]
theorem RfS.cellA (h : RfS W bb ab Z n C aF wr) {j : Nat} (hj : j < n) : wr.cell? ⟨ab, j, none⟩ = some (.int .i64 (aF j : Int)) := by
  rw [cell_of_row wr ab j _ 3 (0, 0) h.ca]
  simp [hj]
theorem RfS.frB (h : RfS W bb ab Z n C aF wr) (j : Nat) : wr.frozen? ⟨bb, j, none⟩ = false := frozen_of_row wr bb j _ 79 h.cb
theorem RfS.frA (h : RfS W bb ab Z n C aF wr) (j : Nat) : wr.frozen? ⟨ab, j, none⟩ = false := frozen_of_row wr ab j _ 3 h.ca
theorem RfS.congr (h : RfS W bb ab Z n C aF wr) {C2 : Nat → Value} {aF2 : Nat → Nat} (e1 : ∀ j, j < Z → C j = C2 j) (e2 : ∀ j, j < n → aF j = aF2 j) : RfS W bb ab Z n C2 aF2 wr := by
  refine ⟨?_, ?_, h.keep, h.size, h.os⟩
  · rw [h.cb]; congr 3
    exact List.map_congr_left fun k hk => e1 k (by simpa using hk)
  · rw [h.ca]; congr 3
    exact List.map_congr_left fun k hk => by rw [e2 k (by simpa using hk)]
theorem RfS.setB (h : RfS W bb ab Z n C aF wr) (j : Nat) (v : Value) : RfS W bb ab Z n (updV C j v) aF (wr.setCell ⟨bb, j, none⟩ v) := by
  have ho : ∀ k, k ≠ bb → (wr.setCell ⟨bb, j, none⟩ v).heap[k]? = wr.heap[k]? := fun k hk => heap_setCell_other wr ⟨bb, j, none⟩ k v hk
  refine ⟨?_, (ho ab h.ne.symm).trans h.ca, fun k hk h1 h2 => (ho k h1).trans (h.keep k hk h1 h2), by rw [World.size_setCell]; exact h.size, h.os⟩
  rw [heap_setCell_same wr bb j _ 79 _ h.cb]
  have := rws_set Z C j v
  simp [this]
theorem RfS.setA (h : RfS W bb ab Z n C aF wr) (j x : Nat) : RfS W bb ab Z n C (updV aF j x) (wr.setCell ⟨ab, j, none⟩ (.int .i64 (x : Int))) := by
  have ho : ∀ k, k ≠ ab → (wr.setCell ⟨ab, j, none⟩ (.int .i64 (x : Int))).heap[k]? = wr.heap[k]? := fun k hk => heap_setCell_other wr ⟨ab, j, none⟩ k _ hk
  refine ⟨(ho bb h.ne).trans h.cb, ?_, fun k hk h1 h2 => (ho k h2).trans (h.keep k hk h1 h2), by rw [World.size_setCell]; exact h.size, h.os⟩
  rw [heap_setCell_same wr ab j _ 3 _ h.ca]
  have e : ((List.range n).map fun k => Value.int .i64 (aF k : Int)).set j (.int .i64 (x : Int)) = (List.range n).map fun k => Value.int .i64 ((updV aF j x k : Nat) : Int) := by
    rw [rws_set]
    refine List.map_congr_left fun k _ => ?_
    unfold updV
    split <;> rfl
  simp [e]
/-- What leaves all old blocks leaves these. -/
theorem RfS.grown (h : RfS W bb ab Z n C aF wr) {w' : World} (hb : Below wr.heap.size wr w') : RfS W bb ab Z n C aF w' :=
  ⟨(hb.block _ h.ltb).trans h.cb, (hb.block _ h.lta).trans h.ca, fun k hk h1 h2 => (hb.block k (Nat.lt_of_lt_of_le hk h.size)).trans (h.keep k hk h1 h2), Nat.le_trans h.size hb.size, hb.os.trans h.os.1, hb.tape.trans h.os.2.1, hb.output.trans h.os.2.2⟩
/-- What writes to none but one other block. -/
theorem RfS.grownBy (h : RfS W bb ab Z n C aF wr) {w1 w5 : World} {row : Option Nat} (hb : Below wr.heap.size wr w1) (hg : w1.grownBy w5 row) (hr : ∀ k, row = some k → W.heap.size ≤ k ∧ k ≠ bb ∧ k ≠ ab) : RfS W bb ab Z n C aF w5 := by
  have h1 := h.grown hb
  have hs := hb.size
  refine ⟨(hg.block bb h1.ltb (fun e => (hr bb e.symm).2.1 rfl)).trans h1.cb, (hg.block ab h1.lta (fun e => (hr ab e.symm).2.2 rfl)).trans h1.ca, fun k hk h2 h3 => ?_, Nat.le_trans h1.size hg.size, hg.os.trans h1.os.1, hg.tape.trans h1.os.2.1, hg.output.trans h1.os.2.2⟩
  rw [hg.block k (Nat.lt_of_lt_of_le hk h1.size) (fun e => by have := (hr k e.symm).1; omega)]
  exact h1.keep k hk h2 h3
end


/-- A number at the end of one row, and the row's new place in its block. -/
theorem rf_app {W : World} {bb ab Z L n : Nat} {X : Nat → Value} {fr : Nat → Nat} {vs : Nat → Value} {F : Nat → List Int} {aF : Nat → Nat} {wr w1 w5 : World} {m : Nat} {v' : Value} {x : Int} (hZ : L * 4 ≤ Z) (h : RfS W bb ab Z n (rfC fr vs L X) aF wr) (hf : Fam W.heap.size (2 * L) vs F wr) (hbb : bb < W.heap.size) (hab : ab < W.heap.size) (hm : m < 2 * L) (hb : Below wr.heap.size wr w1)
    (ho : w5.ownsRow W.heap.size 3 1 v' ((F m).length + 1) ((F m).map (Value.int .i64) ++ [.int .i64 x])) (hg : w1.grownBy w5 (vs m).ownBlock) (ha : v'.ownBlock = (vs m).ownBlock ∨ v'.ownBlock = some w1.heap.size) :
    (w5.frozen? ⟨bb, m / 2 * 4 + 2 + m % 2, none⟩ = false ∧ w5.cell? ⟨bb, m / 2 * 4 + 2 + m % 2, none⟩ = some (vs m)) ∧ RfS W bb ab Z n (rfC fr (updV vs m v') L X) aF (w5.setCell ⟨bb, m / 2 * 4 + 2 + m % 2, none⟩ v') ∧
      Fam W.heap.size (2 * L) (updV vs m v') (updV F m (F m ++ [x])) (w5.setCell ⟨bb, m / 2 * 4 + 2 + m % 2, none⟩ v') ∧ ∀ k, k < wr.heap.size → k ≠ bb → (vs m).ownBlock ≠ some k → (w5.setCell ⟨bb, m / 2 * 4 + 2 + m % 2, none⟩ v').heap[k]? = wr.heap[k]? := by
  have hne : ∀ k, (vs m).ownBlock = some k → W.heap.size ≤ k ∧ k ≠ bb ∧ k ≠ ab := fun k hk => by
    have := (hf.lt hm hk).1
    omega
  have o5 := h.grownBy hb hg hne
  have hs := hb.size
  have ho2 : ∀ k, k ≠ bb → (w5.setCell ⟨bb, m / 2 * 4 + 2 + m % 2, none⟩ v').heap[k]? = w5.heap[k]? := fun k hk => heap_setCell_other w5 ⟨bb, m / 2 * 4 + 2 + m % 2, none⟩ k v' hk
  refine ⟨⟨o5.frB _, by rw [o5.cellB (by omega), rfC_at _ _ _ hm]⟩, (o5.setB _ v').congr (fun j _ => rfC_row fr vs X hm v' j) (fun _ _ => rfl), ?_, fun k hk h1 h2 => ?_⟩
  · have f5 := hf.app hm (fun k hk => hb.block k hk) hs ho hg ha
    refine f5.kept fun j k hj hk => ho2 k fun e => ?_
    have := (f5.lt hj hk).1
    omega
  · rw [ho2 k h1, hg.block k (by omega) (fun e => h2 e.symm), hb.block k hk]


theorem rinfo : (Tryd.prog.info? 79).map (fun i => (i.zero, i.size, i.bytes)) = some (some (.agg #[.int .i64 0, .int .i64 0, .slice none 0 0, .slice none 0 0]), 4, 64) := by kernel_rfl

def blRows (fr : Nat → Nat) (m n : Nat) : List Value := (List.range (m * 4)).map (blR fr m n)
theorem blRows_len (fr : Nat → Nat) (m n : Nat) : (blRows fr m n).length = m * 4 := by simp [blRows]
theorem blRows_at (fr : Nat → Nat) (m n j : Nat) (h : j < m * 4) : (blRows fr m n)[j]? = some (blR fr m n j) := by simp [blRows, h]
theorem blR_old (fr : Nat → Nat) (m n j : Nat) (h : j < m * 4) (hj : j ≠ (m - 1) * 4 + 1) : blR fr m n j = blR fr (m + 1) n j := by
  unfold blR
  by_cases h0 : j % 4 = 0
  · rw [if_pos h0, if_pos h0]
  · rw [if_neg h0, if_neg h0]
    by_cases h1 : j % 4 = 1
    · rw [if_pos h1, if_pos h1, if_pos (by omega), if_pos (by omega)]
    · rw [if_neg h1, if_neg h1]
theorem blR_new (fr : Nat → Nat) (m n pc i : Nat) (hp : fr m = pc) (hi : i < 4) : ([.int .i64 (pc : Int), .int .i64 (n : Int), .slice none 0 0, .slice none 0 0] : List Value)[i]? = some (blR fr (m + 1) n (m * 4 + i)) := by
  unfold blR
  rw [show (m * 4 + i) % 4 = i by omega, show (m * 4 + i) / 4 = m by omega, hp]
  match i, hi with
  | 0, _ => rfl
  | 1, _ => simp
  | 2, _ => rfl
  | 3, _ => rfl
theorem blR_prev (fr : Nat → Nat) (m n pc : Nat) (hp : fr (m + 1) = pc) : blR fr (m + 1 + 1) n (m * 4 + 1) = .int .i64 (pc : Int) := by
  unfold blR
  rw [if_neg (by omega), if_pos (by omega), show (m * 4 + 1) / 4 = m by omega, if_pos (by omega), hp]

theorem blRows_one (fr : Nat → Nat) (n pc : Nat) (hp : fr 0 = pc) : blRows fr 0 n ++ ([.int .i64 (pc : Int), .int .i64 (n : Int), .slice none 0 0, .slice none 0 0] : List Value) = blRows fr (0 + 1) n := by
  refine List.ext_getElem? fun j => ?_
  by_cases hj : j < 4
  · rw [List.getElem?_append_right (by simp [blRows_len]), blRows_len, blRows_at _ _ _ _ (by omega)]
    have := blR_new fr 0 n pc j hp hj
    simpa using this
  · rw [List.getElem?_eq_none (by rw [List.length_append, blRows_len]; simp; omega), List.getElem?_eq_none (by rw [blRows_len]; omega)]
theorem blRows_more (fr : Nat → Nat) (m n pc : Nat) (hp : fr (m + 1) = pc) :
    (blRows fr (m + 1) n ++ ([.int .i64 (pc : Int), .int .i64 (n : Int), .slice none 0 0, .slice none 0 0] : List Value)).set (m * 4 + 1) (.int .i64 (pc : Int)) = blRows fr (m + 1 + 1) n := by
  refine List.ext_getElem? fun j => ?_
  rw [List.getElem?_set]
  by_cases hj : j < (m + 1 + 1) * 4
  · rw [blRows_at _ _ _ _ hj]
    by_cases e : m * 4 + 1 = j
    · rw [if_pos e, if_pos (by rw [List.length_append, blRows_len]; simp; omega), ← e, blR_prev fr m n pc hp]
    · rw [if_neg e]
      by_cases h1 : j < (m + 1) * 4
      · rw [List.getElem?_append_left (by rw [blRows_len]; exact h1), blRows_at _ _ _ _ h1, blR_old fr (m + 1) n j h1 (by omega)]
      · obtain ⟨i, rfl⟩ : ∃ i, j = (m + 1) * 4 + i := ⟨j - (m + 1) * 4, by omega⟩
        rw [List.getElem?_append_right (by rw [blRows_len]; omega), blRows_len, show (m + 1) * 4 + i - (m + 1) * 4 = i by omega]
        exact blR_new fr (m + 1) n pc i hp (by omega)
  · rw [if_neg (by omega), List.getElem?_eq_none (by rw [List.length_append, blRows_len]; simp; omega), List.getElem?_eq_none (by rw [blRows_len]; omega)]

theorem cells_newR (w : World) (x y z u : Value) (T : TypeId) : ∀ j v, [x, y, z, u][j]? = some v → (w.alloc (.cells #[x, y, z, u] T)).cell? ((⟨w.heap.size, 0, none⟩ : Addr).add j) = some v := by
  intro j v hv
  have hj : j < 4 := by
    have := (List.getElem?_eq_some_iff.1 hv).1
    simpa using this
  rw [add_zeroC, cell_of_row _ w.heap.size j _ T (0, 0) (heap_alloc_new w _), ← hv]
  match j, hj with
  | 0, _ => rfl
  | 1, _ => rfl
  | 2, _ => rfl
  | 3, _ => rfl

/-- The row of numbers. -/
def NumR (nb z : Nat) (aF : Nat → Nat) (w : World) : Prop := w.heap[nb]? = some (.cells ((List.range z).map fun k => Value.int .i64 (aF k : Int)).toArray 3 (0, 0))
theorem NumR.cell {nb z : Nat} {aF : Nat → Nat} {w : World} (h : NumR nb z aF w) {j : Nat} (hj : j < z) : w.cell? ⟨nb, j, none⟩ = some (.int .i64 (aF j : Int)) := by
  rw [cell_of_row w nb j _ 3 (0, 0) h]
  simp [hj]
theorem NumR.frozen {nb z : Nat} {aF : Nat → Nat} {w : World} (h : NumR nb z aF w) (j : Nat) : w.frozen? ⟨nb, j, none⟩ = false := frozen_of_row w nb j _ 3 h
theorem NumR.set {nb z : Nat} {aF : Nat → Nat} {w : World} (h : NumR nb z aF w) (j x : Nat) : NumR nb z (updV aF j x) (w.setCell ⟨nb, j, none⟩ (.int .i64 (x : Int))) := by
  unfold NumR
  rw [heap_setCell_same w nb j _ 3 _ h]
  have e : ((List.range z).map fun k => Value.int .i64 (aF k : Int)).set j (.int .i64 (x : Int)) = (List.range z).map fun k => Value.int .i64 ((updV aF j x k : Nat) : Int) := by
    rw [rws_set]
    refine List.map_congr_left fun k _ => ?_
    unfold updV
    split <;> rfl
  simp [e]
theorem NumR.congr {nb z : Nat} {aF aG : Nat → Nat} {w : World} (h : NumR nb z aF w) (e : ∀ k, k < z → aF k = aG k) : NumR nb z aG w := by
  unfold NumR at *
  rw [h]; congr 3
  exact List.map_congr_left fun k hk => by rw [e k (by simpa using hk)]
theorem NumR.lt {nb z : Nat} {aF : Nat → Nat} {w : World} (h : NumR nb z aF w) : nb < w.heap.size := (Array.getElem?_eq_some_iff.1 h).1


/-- The rows while the ways on are found. -/
def famS (S : Nat → List Int) (sb : List Int) (b j : Nat) : List Int := if j % 2 = 0 then (if j / 2 < b then S (j / 2) else if j / 2 = b then sb else []) else []
theorem famS_s (S : Nat → List Int) (sb : List Int) (b : Nat) : famS S sb b (2 * b) = sb := by
  unfold famS; rw [if_pos (by omega), if_neg (by omega), if_pos (by omega)]
theorem famS_put (S : Nat → List Int) (sb sc : List Int) (b j : Nat) : updV (famS S sb b) (2 * b) sc j = famS S sc b j := by
  unfold updV famS
  by_cases e : j = 2 * b
  · rw [if_pos e, if_pos (by omega), if_neg (by omega), if_pos (by omega)]
  · rw [if_neg e]
    by_cases h2 : j % 2 = 0
    · rw [if_pos h2, if_pos h2]
      by_cases h3 : j / 2 < b
      · rw [if_pos h3, if_pos h3]
      · rw [if_neg h3, if_neg h3, if_neg (by omega), if_neg (by omega)]
    · rw [if_neg h2, if_neg h2]
theorem famS_row (S : Nat → List Int) (b j : Nat) : famS S (S b) b j = famS S [] (b + 1) j := by
  unfold famS
  by_cases h2 : j % 2 = 0
  · rw [if_pos h2, if_pos h2]
    by_cases h3 : j / 2 < b
    · rw [if_pos h3, if_pos (by omega)]
    · rw [if_neg h3]
      by_cases h4 : j / 2 = b
      · rw [if_pos h4, if_pos (by omega), h4]
      · rw [if_neg h4, if_neg (by omega)]
        split <;> rfl
  · rw [if_neg h2, if_neg h2]
theorem famS_nil (S : Nat → List Int) (j : Nat) : famS S [] 0 j = [] := by
  unfold famS
  split
  · split
    · omega
    · split <;> rfl
  · rfl

/-- A fresh row in the place of one. -/
theorem rf_put {W : World} {bb ab Z L n : Nat} {X : Nat → Value} {fr : Nat → Nat} {vs : Nat → Value} {F : Nat → List Int} {aF : Nat → Nat} {wr w1 : World} {m : Nat} {v' : Value} {l : List Int} (hZ : L * 4 ≤ Z) (h : RfS W bb ab Z n (rfC fr vs L X) aF wr) (hf : Fam W.heap.size (2 * L) vs F wr) (hbb : bb < W.heap.size) (_hab : ab < W.heap.size) (hm : m < 2 * L) (hb : Below wr.heap.size wr w1)
    (ho : w1.ownsRow wr.heap.size 3 1 v' l.length (l.map (Value.int .i64))) :
    (w1.frozen? ⟨bb, m / 2 * 4 + 2 + m % 2, none⟩ = false ∧ w1.cell? ⟨bb, m / 2 * 4 + 2 + m % 2, none⟩ = some (vs m)) ∧ RfS W bb ab Z n (rfC fr (updV vs m v') L X) aF (w1.setCell ⟨bb, m / 2 * 4 + 2 + m % 2, none⟩ v') ∧
      Fam W.heap.size (2 * L) (updV vs m v') (updV F m l) (w1.setCell ⟨bb, m / 2 * 4 + 2 + m % 2, none⟩ v') := by
  have o5 := h.grown hb
  have hws := h.size
  have ho2 : ∀ k, k ≠ bb → (w1.setCell ⟨bb, m / 2 * 4 + 2 + m % 2, none⟩ v').heap[k]? = w1.heap[k]? := fun k hk => heap_setCell_other w1 ⟨bb, m / 2 * 4 + 2 + m % 2, none⟩ k v' hk
  refine ⟨⟨o5.frB _, by rw [o5.cellB (by omega), rfC_at _ _ _ hm]⟩, (o5.setB _ v').congr (fun j _ => rfC_row fr vs X hm v' j) (fun _ _ => rfl), ⟨fun j hj => ?_, fun i j k hi hj h1 h2 => ?_⟩⟩
  · by_cases e : j = m
    · subst e
      rw [updV_same, updV_same]
      refine owns_kept1 (w := w1) ⟨ho.1, ?_⟩ fun k hk => ho2 k fun e => ?_
      · rcases ho.2 with h3 | ⟨g, cap, cur, hv, hb2, h3⟩
        · exact .inl h3
        · exact .inr ⟨g, cap, cur, hv, Nat.le_trans hws hb2, h3⟩
      · have := (ho.lt k hk).1
        omega
    · rw [updV_other _ _ e, updV_other _ _ e]
      refine owns_kept1 (hf.own j hj) fun k hk => ?_
      have h3 := hf.lt hj hk
      rw [ho2 k (by omega), hb.block k h3.2.1]
  · have new : ∀ i, i < 2 * L → i ≠ m → (vs i).ownBlock = some k → v'.ownBlock = some k → False := fun i hi _ e1 e2 => by
      have := (ho.lt k e2).1
      have := (hf.lt hi e1).2.1
      omega
    by_cases e : i = m
    · by_cases e3 : j = m
      · rw [e, e3]
      · rw [e, updV_same] at h1
        rw [updV_other _ _ e3] at h2
        exact absurd h1 (fun h1 => new j hj e3 h2 h1)
    · rw [updV_other _ _ e] at h1
      by_cases e3 : j = m
      · rw [e3, updV_same] at h2
        exact absurd h2 (fun h2 => new i hi e h1 h2)
      · rw [updV_other _ _ e3] at h2
        exact hf.apart i j k hi hj h1 h2

/-- The row of blocks as it is when all are found. -/
theorem rf_made {w : World} {N L n c g : Nat} {fr : Nat → Nat} (h : w.ownsRow N 79 4 (.slice (some ⟨g, 0, none⟩) L c) L (blRows fr L n)) (hL : fr L = n) :
    ∃ X, w.heap[g]? = some (.cells ((List.range (c * 4)).map (rfC fr (fun _ => .slice none 0 0) L X)).toArray 79 (0, 0)) ∧ L ≤ c ∧ c ≤ maxLen ∧ N ≤ g := by
  rcases h.2 with ⟨h1, _⟩ | ⟨g2, cap, cur, hv, hb, hg, h2, h3, h4, h5⟩
  · cases h1
  · cases hv
    refine ⟨fun j => cur.getD j (.int .i64 0), ?_, h2, h3, hb⟩
    rw [hg]
    congr 3
    refine Array.ext_getElem? fun j => ?_
    by_cases hj : j < c * 4
    · have hjs : j < cur.size := by omega
      simp only [List.getElem?_toArray, List.getElem?_map, List.getElem?_range hj, Option.map_some]
      unfold rfC
      by_cases hl : j < L * 4
      · rw [if_pos hl]
        have e := congrArg (fun l => l[j]?) h5
        simp only [List.getElem?_take_of_lt hl, blRows_at _ _ _ _ hl, Array.getElem?_toList] at e
        rw [e]
        unfold blR blkC
        by_cases m0 : j % 4 = 0
        · rw [if_pos m0, if_pos m0, if_pos (by omega)]
        · rw [if_neg m0, if_neg m0]
          by_cases m1 : j % 4 = 1
          · rw [if_pos m1, if_pos m1]
            by_cases hq : j / 4 + 1 < L
            · rw [if_pos hq, if_pos (by omega)]
            · rw [if_neg hq, if_pos (by omega), show j / 4 + 1 = L by omega, hL]
          · rw [if_neg m1, if_neg m1]
            split <;> rfl
      · rw [if_neg hl]
        simp [Array.getD, hjs]
    · rw [Array.getElem?_eq_none (by omega), List.getElem?_toArray, List.getElem?_eq_none (by simp; omega)]


theorem nB_le (f : Nat → Bool) (n : Nat) : nB f n ≤ n := by
  unfold nB members
  have := List.length_filter_le f (List.range n)
  rw [List.length_range] at this
  exact this
theorem suc_in (n : Nat) (gv : Nat → Nat → Int) (f : Nat → Bool) (hf : 0 < n → f 0 = true) (b : Nat) : ∀ x ∈ sucF n gv f b, 0 ≤ x ∧ x < (nB f n : Int) := by
  intro x hx
  unfold sucF sucP at hx
  obtain ⟨y, hy, rfl⟩ := List.mem_map.1 hx
  have h1 := (List.mem_filter.1 hy).2
  simp at h1
  have := (atB_in f n (hf (by omega)) (pc := y.toNat) (by omega)).1
  omega

/-- The rows while those who come are found. -/
def famP (S : Nat → List Int) (i k j : Nat) : List Int := if j % 2 = 0 then S (j / 2) else prdF S i k (j / 2)
theorem famP_s (S : Nat → List Int) (i k b : Nat) : famP S i k (2 * b) = S b := by
  unfold famP; rw [if_pos (by omega), show 2 * b / 2 = b by omega]
theorem famP_p (S : Nat → List Int) (i k s : Nat) : famP S i k (2 * s + 1) = prdF S i k s := by
  unfold famP; rw [if_neg (by omega), show (2 * s + 1) / 2 = s by omega]
theorem famP_start (S : Nat → List Int) {L j : Nat} (h : j < 2 * L) : famS S [] L j = famP S 0 0 j := by
  unfold famS famP prdF
  by_cases h2 : j % 2 = 0
  · rw [if_pos h2, if_pos h2, if_pos (by omega)]
  · rw [if_neg h2, if_neg h2]; simp
theorem famP_pred (S : Nat → List Int) (i k s : Nat) (h : k < (S i).length) (hs : (S i).getD k 0 = (s : Int)) (j : Nat) : updV (famP S i k) (2 * s + 1) (prdF S i k s ++ [(i : Int)]) j = famP S i (k + 1) j := by
  unfold updV
  by_cases e : j = 2 * s + 1
  · rw [if_pos e, e, famP_p, prdF_next S i k s h, if_pos hs]
  · rw [if_neg e]
    unfold famP
    by_cases h2 : j % 2 = 0
    · rw [if_pos h2, if_pos h2]
    · rw [if_neg h2, if_neg h2, prdF_next S i k _ h, if_neg (by rw [hs]; omega)]
theorem famP_row (S : Nat → List Int) (i j : Nat) : famP S i (S i).length j = famP S (i + 1) 0 j := by
  unfold famP
  rw [prdF_row]
theorem famP_end (S : Nat → List Int) {L j : Nat} (h : j < 2 * L) : famP S L 0 j = famF S [] L 0 j := by
  unfold famP famF
  by_cases h2 : j % 2 = 0
  · rw [if_pos h2, if_pos h2, if_pos (by omega)]
  · rw [if_neg h2, if_neg h2]

theorem nextM_pos (n : Nat) (gv : Nat → Nat → Int) (hA : ∀ i, i < n → gv i 0 = 22 ∨ gv i 0 = 23 → 0 ≤ gv i 1 ∧ gv i 1 < (n : Int)) (pc : Int) : ∀ x ∈ nextM n gv pc, 0 ≤ x := by
  unfold nextM
  split
  · rename_i hp
    obtain ⟨k, rfl⟩ : ∃ k : Nat, pc = k := ⟨pc.toNat, by omega⟩
    rw [Int.toNat_natCast]
    have hA := hA k (by omega)
    intro x hx
    unfold nextL at hx
    split at hx
    · simp at hx
    · split at hx
      · simp at hx; omega
      · split at hx
        · simp at hx; omega
        · split at hx
          · simp at hx; omega
          · simp at hx; omega
  · intro x hx; simp at hx

end Go.Proofs.YtchechdcebmoeaaDoor

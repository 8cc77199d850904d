/-
  The document's walk in depth: its boxes.
-/
import Derived.Test.YtchechdcebmoeaaDoorFwS
import Derived.Test.YtchechdcebmoeaaDoorFwH
import Derived.Test.YtchechdcebmoeaaDoorFam
namespace Go.Proofs.YtchechdcebmoeaaDoor
open Go.RowKit

/-- The boxes of the document's walk. -/
structure Wd (A B p q u n : Nat) (gv : Value) (S O : Nat → Bool) (l : List Nat) (lo : List (Nat × Nat)) (bs : List Nat) (lv ov : Value) (w : World) : Prop where
  cp : w.heap[p]? = some (.cells #[gv, .slice (some ⟨q, 0, none⟩) n n, .slice (some ⟨u, 0, none⟩) n n, lv, ov] 160 (0, 0))
  cq : SeenAt A q n S w
  cu : SeenAt A u n O w
  left : w.ownsRow B 3 1 lv l.length (l.map fun (v : Nat) => Value.int .i64 (v : Int))
  loops : KV B bs ov (pairsZ lo) w
  qu : q ≠ u
  bl : ∀ b ∈ bs, lv.ownBlock ≠ some b
  bp : B ≤ p

section
variable {A B p q u n : Nat} {gv : Value} {S O : Nat → Bool} {l : List Nat} {lo : List (Nat × Nat)} {bs : List Nat} {lv ov : Value} {w : World}
theorem Wd.ltp (h : Wd A B p q u n gv S O l lo bs lv ov w) : p < w.heap.size := (Array.getElem?_eq_some_iff.1 h.cp).1
theorem Wd.pq (h : Wd A B p q u n gv S O l lo bs lv ov w) : p ≠ q := fun e => by
  have h1 := h.cp
  rw [e, h.cq.row] at h1
  exact absurd (Obj.cells.inj (Option.some.inj h1)).2.1 (by decide)
theorem Wd.pu (h : Wd A B p q u n gv S O l lo bs lv ov w) : p ≠ u := fun e => by
  have h1 := h.cp
  rw [e, h.cu.row] at h1
  exact absurd (Obj.cells.inj (Option.some.inj h1)).2.1 (by decide)
theorem Wd.lv_ne (h : Wd A B p q u n gv S O l lo bs lv ov w) {k : Nat} (hk : lv.ownBlock = some k) : k ≠ p ∧ k ≠ q ∧ k ≠ u ∧ ov.ownBlock ≠ some k ∧ k ∉ bs ∧ k < w.heap.size := by
  obtain ⟨cur, hc⟩ := own_typeM h.left hk
  refine ⟨fun e => ?_, fun e => ?_, fun e => ?_, fun e => ?_, fun e => h.bl k e hk, (Array.getElem?_eq_some_iff.1 hc).1⟩
  · subst e; rw [h.cp] at hc; cases hc
  · subst e; rw [h.cq.row] at hc; exact absurd (Obj.cells.inj (Option.some.inj hc)).2.1 (by decide)
  · subst e; rw [h.cu.row] at hc; exact absurd (Obj.cells.inj (Option.some.inj hc)).2.1 (by decide)
  · obtain ⟨cur2, hc2⟩ := own_typeM h.loops.own e
    rw [hc] at hc2; cases hc2
theorem Wd.ov_ne (h : Wd A B p q u n gv S O l lo bs lv ov w) {k : Nat} (hk : ov.ownBlock = some k) : k ≠ p ∧ k ≠ q ∧ k ≠ u ∧ lv.ownBlock ≠ some k ∧ k ∉ bs := by
  obtain ⟨cur, hc⟩ := own_typeM h.loops.own hk
  refine ⟨fun e => ?_, fun e => ?_, fun e => ?_, fun e => ?_, fun e => ?_⟩
  · subst e; rw [h.cp] at hc; cases hc
  · subst e; rw [h.cq.row] at hc; exact absurd (Obj.cells.inj (Option.some.inj hc)).2.1 (by decide)
  · subst e; rw [h.cu.row] at hc; exact absurd (Obj.cells.inj (Option.some.inj hc)).2.1 (by decide)
  · exact (h.lv_ne e).2.2.2.1 hk
  · obtain ⟨j, hj, rfl⟩ := List.getElem_of_mem e
    have := h.loops.at_ j (by rw [← h.loops.len]; exact hj)
    rw [show bs.getD j 0 = bs[j] by simp [List.getD, hj], hc] at this
    cases this
theorem Wd.bs_at (h : Wd A B p q u n gv S O l lo bs lv ov w) {b : Nat} (hb : b ∈ bs) : b ≠ p ∧ b ≠ q ∧ b ≠ u ∧ b < w.heap.size := by
  obtain ⟨j, hj, rfl⟩ := List.getElem_of_mem hb
  have := h.loops.at_ j (by rw [← h.loops.len]; exact hj)
  rw [show bs.getD j 0 = bs[j] by simp [List.getD, hj]] at this
  refine ⟨fun e => ?_, fun e => ?_, fun e => ?_, (Array.getElem?_eq_some_iff.1 this).1⟩
  · rw [e, h.cp] at this; cases this
  · rw [e, h.cq.row] at this; exact absurd (Obj.cells.inj (Option.some.inj this)).2.1 (by decide)
  · rw [e, h.cu.row] at this; exact absurd (Obj.cells.inj (Option.some.inj this)).2.1 (by decide)

theorem Wd.congr (h : Wd A B p q u n gv S O l lo bs lv ov w) {S' O' : Nat → Bool} (e1 : ∀ k, S k = S' k) (e2 : ∀ k, O k = O' k) : Wd A B p q u n gv S' O' l lo bs lv ov w := by
  rw [← show S = S' from funext e1, ← show O = O' from funext e2]
  exact h

theorem Wd.see (h : Wd A B p q u n gv S O l lo bs lv ov w) (j : Nat) (b : Bool) : Wd A B p q u n gv (fun k => if k = j then b else S k) O l lo bs lv ov (w.setCell ⟨q, j, none⟩ (.bool b)) := by
  have ho : ∀ k, k ≠ q → (w.setCell ⟨q, j, none⟩ (.bool b)).heap[k]? = w.heap[k]? := fun k hk => heap_setCell_other w ⟨q, j, none⟩ k _ hk
  exact ⟨(ho p h.pq).trans h.cp, h.cq.put j b, h.cu.keep (ho u h.qu.symm), owns_kept1 h.left (fun k hk => ho k (h.lv_ne hk).2.1), kv_kept1 h.loops (fun k hk => ho k (h.ov_ne hk).2.1) (fun b hb => ho b (h.bs_at hb).2.1), h.qu, h.bl, h.bp⟩
theorem Wd.opn (h : Wd A B p q u n gv S O l lo bs lv ov w) (j : Nat) (b : Bool) : Wd A B p q u n gv S (fun k => if k = j then b else O k) l lo bs lv ov (w.setCell ⟨u, j, none⟩ (.bool b)) := by
  have ho : ∀ k, k ≠ u → (w.setCell ⟨u, j, none⟩ (.bool b)).heap[k]? = w.heap[k]? := fun k hk => heap_setCell_other w ⟨u, j, none⟩ k _ hk
  exact ⟨(ho p h.pu).trans h.cp, h.cq.keep (ho q h.qu), h.cu.put j b, owns_kept1 h.left (fun k hk => ho k (h.lv_ne hk).2.2.1), kv_kept1 h.loops (fun k hk => ho k (h.ov_ne hk).2.2.1) (fun b hb => ho b (h.bs_at hb).2.2.1), h.qu, h.bl, h.bp⟩

/-- One more loop. -/
theorem Wd.loop (h : Wd A B p q u n gv S O l lo bs lv ov w) (hB : B ≤ w.heap.size) {i j : Nat} {v5 : Value} {w5 : World} (hown : w5.ownsRow B 26 1 v5 ((pairsZ lo).length + 1) ((bs.map fun b => .slice (some ⟨b, 0, none⟩) 2 2) ++ [.slice (some ⟨w.heap.size, 0, none⟩) 2 2]))
    (hg : ((w.alloc (.cells #[.int .i64 (i : Int), .int .i64 (j : Int)] 3)).alloc (.cells #[.slice (some ⟨w.heap.size, 0, none⟩) 2 2] 26)).grownBy w5 ov.ownBlock) :
    (w5.cell? ⟨p, 4, none⟩ = some ov ∧ w5.frozen? ⟨p, 4, none⟩ = false) ∧ Wd A B p q u n gv S O l (lo ++ [(i, j)]) (bs ++ [w.heap.size]) lv v5 (w5.setCell ⟨p, 4, none⟩ v5) ∧ Below B w (w5.setCell ⟨p, 4, none⟩ v5) := by
  have old : ∀ k, k < w.heap.size → ov.ownBlock ≠ some k → w5.heap[k]? = w.heap[k]? := fun k hk hne => by
    rw [hg.block k (by rw [World.size_alloc, World.size_alloc]; omega) hne.symm, Below.heap_alloc _ _ _ (by rw [World.size_alloc]; omega), Below.heap_alloc _ _ _ hk]
  have hp5 : w5.heap[p]? = some (.cells #[gv, .slice (some ⟨q, 0, none⟩) n n, .slice (some ⟨u, 0, none⟩) n n, lv, ov] 160 (0, 0)) := (old p h.ltp fun e => (h.ov_ne e).1 rfl).trans h.cp
  have KM := h.loops.more hB hg hown
  have hset : ∀ k, k ≠ p → (w5.setCell ⟨p, 4, none⟩ v5).heap[k]? = w5.heap[k]? := fun k hk => heap_setCell_other w5 ⟨p, 4, none⟩ k _ hk
  have hpz : pairsZ (lo ++ [(i, j)]) = pairsZ lo ++ [((i : Int), (j : Int))] := by simp [pairsZ]
  refine ⟨⟨cell_of_row w5 p 4 _ 160 (0, 0) hp5, frozen_of_row w5 p 4 _ 160 hp5⟩, ⟨?_, h.cq.keep ?_, h.cu.keep ?_, ?_, ?_, h.qu, fun b hb => ?_, h.bp⟩, ?_⟩
  · rw [heap_setCell_same w5 p 4 _ 160 _ hp5]
    rfl
  · rw [hset q h.pq.symm, old q h.cq.lt fun e => (h.ov_ne e).2.1 rfl]
  · rw [hset u h.pu.symm, old u h.cu.lt fun e => (h.ov_ne e).2.2.1 rfl]
  · refine owns_kept1 h.left fun k hk => ?_
    have hl := h.lv_ne hk
    rw [hset k hl.1, old k hl.2.2.2.2.2 hl.2.2.2.1]
  · rw [hpz]
    refine kv_kept1 KM (fun k hk => hset k fun e => ?_) fun b hb => hset b fun e => ?_
    · obtain ⟨cur, hc⟩ := own_typeM KM.own hk
      rw [e, hp5] at hc
      cases hc
    · rcases List.mem_append.1 hb with h1 | h1
      · exact (h.bs_at h1).1 e
      · simp at h1
        have := h.ltp
        omega
  · rcases List.mem_append.1 hb with h1 | h1
    · exact h.bl b h1
    · simp at h1
      intro e2
      have := (h.lv_ne e2).2.2.2.2.2
      omega
  · have b1 : Below B w w5 := (((Below.refl _ w).alloc hB _).alloc (by rw [World.size_alloc]; omega) _).grown hg (by rw [World.size_alloc, World.size_alloc]; omega) (fun z hz => (h.loops.own.lt z hz).1)
    exact b1.setCell h.bp _

/-- One more place that is left. -/
theorem Wd.leave (h : Wd A B p q u n gv S O l lo bs lv ov w) (hB : B ≤ w.heap.size) {i : Nat} {v5 : Value} {w5 : World} (hown : w5.ownsRow B 3 1 v5 (l.length + 1) ((l.map fun (v : Nat) => Value.int .i64 (v : Int)) ++ [.int .i64 (i : Int)]))
    (hg : (w.alloc (.cells #[.int .i64 (i : Int)] 3)).grownBy w5 lv.ownBlock) (ha : v5.ownBlock = lv.ownBlock ∨ v5.ownBlock = some (w.heap.size + 1)) :
    (w5.cell? ⟨p, 3, none⟩ = some lv ∧ w5.frozen? ⟨p, 3, none⟩ = false) ∧ Wd A B p q u n gv S O (l ++ [i]) lo bs v5 ov (w5.setCell ⟨p, 3, none⟩ v5) ∧ Below B w (w5.setCell ⟨p, 3, none⟩ v5) := by
  have old : ∀ k, k < w.heap.size → lv.ownBlock ≠ some k → w5.heap[k]? = w.heap[k]? := fun k hk hne => by
    rw [hg.block k (by rw [World.size_alloc]; omega) hne.symm, Below.heap_alloc _ _ _ hk]
  have hp5 : w5.heap[p]? = some (.cells #[gv, .slice (some ⟨q, 0, none⟩) n n, .slice (some ⟨u, 0, none⟩) n n, lv, ov] 160 (0, 0)) := (old p h.ltp fun e => (h.lv_ne e).1 rfl).trans h.cp
  have hset : ∀ k, k ≠ p → (w5.setCell ⟨p, 3, none⟩ v5).heap[k]? = w5.heap[k]? := fun k hk => heap_setCell_other w5 ⟨p, 3, none⟩ k _ hk
  refine ⟨⟨cell_of_row w5 p 3 _ 160 (0, 0) hp5, frozen_of_row w5 p 3 _ 160 hp5⟩, ⟨?_, h.cq.keep ?_, h.cu.keep ?_, ?_, ?_, h.qu, fun b hb => ?_, h.bp⟩, ?_⟩
  · rw [heap_setCell_same w5 p 3 _ 160 _ hp5]
    rfl
  · rw [hset q h.pq.symm, old q h.cq.lt fun e => (h.lv_ne e).2.1 rfl]
  · rw [hset u h.pu.symm, old u h.cu.lt fun e => (h.lv_ne e).2.2.1 rfl]
  · rw [List.length_append, List.map_append]
    refine owns_kept1 hown fun k hk => hset k fun e => ?_
    obtain ⟨cur, hc⟩ := own_typeM hown hk
    rw [e, hp5] at hc
    cases hc
  · refine kv_kept1 h.loops (fun k hk => ?_) fun b hb => ?_
    · have ho := h.ov_ne hk
      obtain ⟨cur, hc⟩ := own_typeM h.loops.own hk
      rw [hset k ho.1, old k (Array.getElem?_eq_some_iff.1 hc).1 ho.2.2.2.1]
    · have ho := h.bs_at hb
      rw [hset b ho.1, old b ho.2.2.2 (h.bl b hb)]
  · intro e2
    rcases ha with h1 | h1
    · exact h.bl b hb (h1.symm.trans e2)
    · rw [h1] at e2
      have := Option.some.inj e2
      have := (h.bs_at hb).2.2.2
      omega
  · have b1 : Below B w w5 := ((Below.refl _ w).alloc hB _).grown hg (by rw [World.size_alloc]; omega) (fun z hz => (h.left.lt z hz).1)
    exact b1.setCell h.bp _
end

/-- What a walk leaves alone. -/
structure Kp (A q u : Nat) (W0 wr : World) : Prop where
  below : Below A W0 wr
  blk : ∀ k, k < W0.heap.size → k ≠ q → k ≠ u → wr.heap[k]? = W0.heap[k]?

/-- In these blocks there are bools. -/
def Bo (q u : Nat) (W0 : World) : Prop := ∀ a : Addr, (a.block = q ∨ a.block = u) → ∀ v, W0.cell? a = some v → ∃ b, v = .bool b

theorem seen_bo {A q n : Nat} {S : Nat → Bool} {w : World} (h : SeenAt A q n S w) (a : Addr) (e : a.block = q) (v : Value) (hc : w.cell? a = some v) : ∃ b, v = .bool b := by
  unfold World.cell? at hc
  rw [e, h.row] at hc
  dsimp only at hc
  split at hc
  · cases hc
  · rw [← Array.getElem?_toList] at hc
    obtain ⟨hl, he⟩ := List.getElem?_eq_some_iff.1 hc
    simp at he
    exact ⟨_, he.symm⟩

theorem Kp.cell {A q u : Nat} {W0 wr : World} (h : Kp A q u W0 wr) (hb : Bo q u W0) {a : Addr} {v : Value} (hc : W0.cell? a = some v) (hv : ∀ b, v ≠ .bool b) : wr.cell? a = some v := by
  have n1 : a.block ≠ q := fun e => by obtain ⟨b, e2⟩ := hb a (.inl e) v hc; exact hv b e2
  have n2 : a.block ≠ u := fun e => by obtain ⟨b, e2⟩ := hb a (.inr e) v hc; exact hv b e2
  have hl := World.block_lt_of_cell? W0 a hc
  unfold World.cell? at hc ⊢
  rw [h.blk _ hl n1 n2]
  exact hc

theorem Kp.row {A q u : Nat} {W0 wr : World} (h : Kp A q u W0 wr) (hb : Bo q u W0) {a : Option Addr} {len cap : Nat} {zs : List Int} (hr : Row .i64 W0 a len cap zs) : Row .i64 wr a len cap zs :=
  ⟨hr.len_eq, hr.le, hr.max, hr.nil, fun ad had j hj => h.cell hb (hr.cells ad had j hj) (fun b e => by cases e), hr.wf⟩

theorem Kp.trans {A q u : Nat} {W0 wr w2 : World} (h : Kp A q u W0 wr) (hA : A ≤ W0.heap.size) (h2 : Below W0.heap.size wr w2) : Kp A q u W0 w2 :=
  ⟨h.below.trans (h2.mono hA), fun k hk h1 h3 => (h2.block k hk).trans (h.blk k hk h1 h3)⟩
theorem Kp.setQ {A q u : Nat} {W0 wr : World} (h : Kp A q u W0 wr) (hq : A ≤ q) (j : Nat) (v : Value) : Kp A q u W0 (wr.setCell ⟨q, j, none⟩ v) :=
  ⟨h.below.setCell hq _, fun k hk h1 h3 => (heap_setCell_other wr ⟨q, j, none⟩ k _ h1).trans (h.blk k hk h1 h3)⟩
theorem Kp.setU {A q u : Nat} {W0 wr : World} (h : Kp A q u W0 wr) (hu : A ≤ u) (j : Nat) (v : Value) : Kp A q u W0 (wr.setCell ⟨u, j, none⟩ v) :=
  ⟨h.below.setCell hu _, fun k hk h1 h3 => (heap_setCell_other wr ⟨u, j, none⟩ k _ h3).trans (h.blk k hk h1 h3)⟩

/-- Its boxes at a state of the walk. -/
def WdS (A B p q u n : Nat) (gv : Value) (s : Wk) (bs : List Nat) (lv ov : Value) (w : World) : Prop := Wd A B p q u n gv (fun k => decide (s.st k ≠ 0)) (fun k => decide (s.st k = 1)) s.left s.loops bs lv ov w

theorem entR_grow (c : Nat → List Nat) : ∀ (f i : Nat) (s s' : Wk), entR c f i s = some s' → s.left.length ≤ s'.left.length ∧ s.loops.length ≤ s'.loops.length
  | 0, _, _, _, h => by cases h
  | f + 1, i, s, s', h => by
    unfold entR at h
    obtain ⟨t, ht, rfl⟩ := Option.map_eq_some_iff.1 h
    have := rowR_some (Q := fun a b => a.left.length ≤ b.left.length ∧ a.loops.length ≤ b.loops.length) (fun _ => ⟨Nat.le_refl _, Nat.le_refl _⟩) (fun a b c h1 h2 => ⟨Nat.le_trans h1.1 h2.1, Nat.le_trans h1.2 h2.2⟩)
      (fun s j => by unfold seeR; split <;> simp) (fun j s s' _ hs => entR_grow c f j s s' hs) _ _ _ ht
    refine ⟨Nat.le_trans this.1 ?_, this.2⟩
    show t.left.length ≤ (t.left ++ [i]).length
    simp
theorem rowR_grow (c : Nat → List Nat) (f i : Nat) (l : List Nat) (s s' : Wk) (h : rowR (entR c f) i l s = some s') : s.left.length ≤ s'.left.length ∧ s.loops.length ≤ s'.loops.length :=
  rowR_some (Q := fun a b => a.left.length ≤ b.left.length ∧ a.loops.length ≤ b.loops.length) (fun _ => ⟨Nat.le_refl _, Nat.le_refl _⟩) (fun a b c h1 h2 => ⟨Nat.le_trans h1.1 h2.1, Nat.le_trans h1.2 h2.2⟩)
      (fun s j => by unfold seeR; split <;> simp) (fun j s s' _ hs => entR_grow c f j s s' hs) _ _ _ h
theorem rowR_here (c : Nat → List Nat) (f i : Nat) (l : List Nat) (s s' : Wk) (h : rowR (entR c f) i l s = some s') : ∀ v, s.st v ≠ 0 → s'.st v = s.st v :=
  rowR_some (Q := fun a b => ∀ v, a.st v ≠ 0 → b.st v = a.st v) (fun _ _ _ => rfl) (fun a b c h1 h2 v hv => by rw [h2 v (by rw [h1 v hv]; exact hv), h1 v hv])
      (fun s j v _ => by unfold seeR; split <;> rfl) (fun j s s' hj hs => (entR_frame c f j s s' hj hs).1) _ _ _ h

end Go.Proofs.YtchechdcebmoeaaDoor

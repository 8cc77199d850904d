/-
  MovesRing: what the law marks as seen.
-/
import Derived.Test.YtflbjfcmnopfaaaDoorMvP
import Derived.Test.YtflbjfcmnopfaaaDoorMvY
import Derived.Test.YtflbjfcmnopfaaaDoorAmong
namespace Go.Proofs.YtflbjfcmnopfaaaDoor
open Go.RowKit

/-- Which places have been seen. -/
structure SeenAt (B g n : Nat) (S : Nat → Bool) (w : World) : Prop where
  row : w.heap[g]? = some (.cells ((List.range n).map fun k => Value.bool (S k)).toArray 4 (0, 0))
  lo : B ≤ g

section
variable {B g n : Nat} {S : Nat → Bool} {w : World}
theorem SeenAt.cell (h : SeenAt B g n S w) {j : Nat} (hj : j < n) : w.cell? ⟨g, j, none⟩ = some (.bool (S j)) := by
  rw [cell_of_row w g j _ 4 (0, 0) h.row]
  simp [hj]
theorem SeenAt.frozen (h : SeenAt B g n S w) (j : Nat) : w.frozen? ⟨g, j, none⟩ = false := frozen_of_row w g j _ 4 h.row
theorem SeenAt.lt (h : SeenAt B g n S w) : g < w.heap.size := (Array.getElem?_eq_some_iff.1 h.row).1
theorem SeenAt.stored (h : SeenAt B g n S w) (j : Nat) : SeenAt B g n (fun k => if k = j then true else S k) (w.setCell ⟨g, j, none⟩ (.bool true)) := by
  refine ⟨?_, h.lo⟩
  rw [heap_setCell_same w g j _ 4 _ h.row]
  have e : ((List.range n).map fun k => Value.bool (S k)).set j (.bool true) = (List.range n).map fun k => Value.bool (if k = j then true else S k) := by
    refine List.ext_getElem (by simp) fun i h1 h2 => ?_
    rw [List.getElem_set]
    simp only [List.getElem_map, List.getElem_range]
    by_cases q : j = i
    · subst q; simp
    · rw [if_neg q, if_neg (fun e => q e.symm)]
  simp [e]
theorem SeenAt.keep (h : SeenAt B g n S w) {w' : World} (hb : w'.heap[g]? = w.heap[g]?) : SeenAt B g n S w' := ⟨hb.trans h.row, h.lo⟩
end

/-- How many have not. -/
def cntF (n : Nat) (S : Nat → Bool) : Nat := ((List.range n).filter fun j => !S j).length
theorem cntF_next (n : Nat) (S : Nat → Bool) : cntF (n + 1) S = cntF n S + (if S n = true then 0 else 1) := by
  unfold cntF
  rw [List.range_succ, List.filter_append, List.length_append]
  congr 1
  cases h : S n <;> simp [h]
theorem cntF_set (S : Nat → Bool) (k : Nat) (hk : S k = false) : ∀ n, cntF n (fun j => if j = k then true else S j) + (if k < n then 1 else 0) = cntF n S
  | 0 => rfl
  | n + 1 => by
    have ih := cntF_set S k hk n
    rw [cntF_next, cntF_next]
    by_cases q : n = k
    · subst q
      rw [if_neg (by omega)] at ih
      rw [if_pos (show (if n = n then true else S n) = true by simp), if_pos (by omega), if_neg (by rw [hk]; decide)]
      omega
    · rw [if_neg q]
      by_cases q2 : k < n
      · rw [if_pos q2] at ih
        rw [if_pos (show k < n + 1 by omega)]
        omega
      · rw [if_neg q2] at ih
        rw [if_neg (show ¬ k < n + 1 by omega)]
        omega
noncomputable def unseen (g n : Nat) (w : World) : Nat := ((List.range n).filter fun j => @decide (w.cell? ⟨g, j, none⟩ = some (.bool false)) (Classical.propDecidable _)).length
theorem unseen_eq {B g n : Nat} {S : Nat → Bool} {w : World} (h : SeenAt B g n S w) : unseen g n w = cntF n S := by
  unfold unseen cntF
  congr 1
  refine List.filter_congr fun j hj => ?_
  rw [h.cell (by simpa using hj)]
  cases hs : S j <;> simp
theorem unseen_less {B g n : Nat} {S : Nat → Bool} {w : World} {k : Nat} (h : SeenAt B g n S w) (hk : S k = false) (hkn : k < n) : unseen g n (w.setCell ⟨g, k, none⟩ (.bool true)) < unseen g n w := by
  rw [unseen_eq h, unseen_eq (h.stored k)]
  have := cntF_set S k hk n
  rw [if_pos hkn] at this
  omega

/-- The inner round. -/
structure InRel (n b i : Nat) (S : Nat → Bool) (B g : Nat) (W : World) (k : Nat) (S' : Nat → Bool) (wr : World) : Prop where
  lt : k < n
  at_ : SeenAt B g n S' wr
  up : ∀ j, j < n → S j = true → S' j = true
  only : ∀ j, j < n → S' j = true → S j = true ∨ ∃ q, (i + q * b) % n = j
  here : ∃ q, (i + q * b) % n = k
  next : ∀ j, j < n → S' j = true → S' ((j + b) % n) = true ∨ (j + b) % n = k
  beg : k = i ∨ S' i = true
  below : Below B W wr

def InAt (n b i : Nat) (S : Nat → Bool) (B g : Nat) (W : World) (s16 : Value) (wr : World) : Prop := ∃ (k : Nat) (S' : Nat → Bool), s16 = .int .i64 k ∧ InRel n b i S B g W k S' wr

section
variable {n b i : Nat} {S : Nat → Bool} {B g : Nat} {W : World}
theorem InRel.begin (hi : i < n) (hs : ∀ k, k < n → (S k = true ↔ SeenBy n b i k)) {wr : World} (h : SeenAt B g n S wr) (hb : Below B W wr) : InRel n b i S B g W i S wr := by
  refine ⟨hi, h, fun _ _ h => h, fun _ _ h => .inl h, ⟨0, by rw [Nat.zero_mul, Nat.add_zero, Nat.mod_eq_of_lt hi]⟩, fun j hj h => .inl ?_, .inl rfl, hb⟩
  obtain ⟨p, hp, q, e⟩ := (hs j hj).1 h
  refine (hs _ (Nat.mod_lt _ (by omega))).2 ⟨p, hp, q + 1, ?_⟩
  rw [← e, Nat.mod_add_mod, Nat.add_mul, Nat.one_mul, Nat.add_assoc]
theorem InRel.step {k : Nat} {S' : Nat → Bool} {wr : World} (h : InRel n b i S B g W k S' wr) : InRel n b i S B g W ((k + b) % n) (fun j => if j = k then true else S' j) (wr.setCell ⟨g, k, none⟩ (.bool true)) := by
  have hk := h.lt
  refine ⟨Nat.mod_lt _ (by omega), h.at_.stored k, fun j hj e => ?_, fun j hj e => ?_, ?_, fun j hj e => ?_, .inr ?_, h.below.setCell h.at_.lo _⟩
  · by_cases q : j = k
    · rw [if_pos q]
    · rw [if_neg q]; exact h.up j hj e
  · by_cases q : j = k
    · subst q; exact .inr h.here
    · rw [if_neg q] at e; exact h.only j hj e
  · obtain ⟨q, e⟩ := h.here
    exact ⟨q + 1, by rw [← e, Nat.mod_add_mod, Nat.add_mul, Nat.one_mul, Nat.add_assoc]⟩
  · by_cases q : j = k
    · subst q; exact .inr rfl
    · rw [if_neg q] at e
      rcases h.next j hj e with h1 | h1
      · by_cases q2 : (j + b) % n = k
        · rw [if_pos q2]; exact .inl rfl
        · rw [if_neg q2]; exact .inl h1
      · rw [if_pos h1]; exact .inl rfl
  · rcases h.beg with h1 | h1
    · rw [if_pos h1.symm]
    · by_cases q : i = k
      · rw [if_pos q]
      · rw [if_neg q]; exact h1
theorem InRel.done {k : Nat} {S' : Nat → Bool} {wr : World} (hi : i < n) (hs : ∀ k, k < n → (S k = true ↔ SeenBy n b i k)) (h : InRel n b i S B g W k S' wr) (hk : S' k = true) : ∀ j, j < n → (S' j = true ↔ SeenBy n b (i + 1) j) := by
  intro j hj
  constructor
  · intro e
    rcases h.only j hj e with h1 | h1
    · obtain ⟨p, hp, q⟩ := (hs j hj).1 h1
      exact ⟨p, by omega, q⟩
    · exact ⟨i, by omega, h1⟩
  · rintro ⟨p, hp, q, e⟩
    by_cases hpi : p < i
    · exact h.up j hj ((hs j hj).2 ⟨p, hpi, q, e⟩)
    · obtain rfl : p = i := by omega
      have all : ∀ q, S' ((p + q * b) % n) = true := by
        intro q
        induction q with
        | zero =>
          rw [Nat.zero_mul, Nat.add_zero, Nat.mod_eq_of_lt hi]
          rcases h.beg with h1 | h1
          · rw [← h1]; exact hk
          · exact h1
        | succ q ih =>
          have : (p + (q + 1) * b) % n = ((p + q * b) % n + b) % n := by rw [Nat.mod_add_mod, Nat.add_mul, Nat.one_mul, Nat.add_assoc]
          rw [this]
          rcases h.next _ (Nat.mod_lt _ (by omega)) ih with h1 | h1
          · exact h1
          · rw [h1]; exact hk
      rw [← e]
      exact all q
end

theorem seen_start (n b k : Nat) : ¬ SeenBy n b 0 k := by
  rintro ⟨j, hj, _⟩
  omega

theorem seenAt_made {w w' : World} {n : Nat} (h : w'.ownsRow w.heap.size 4 1 (.slice (some ⟨w.heap.size, 0, none⟩) n n) n (List.replicate n (.bool false))) : SeenAt w.heap.size w.heap.size n (fun _ => false) w' := by
  refine ⟨?_, Nat.le_refl _⟩
  rcases h.2 with ⟨hv, _⟩ | ⟨g, cap, cur, hv, hb, hg, hnc, hm, hcs, ht⟩
  · cases hv
  · cases hv
    rw [hg]
    have hl : cur.toList = List.replicate n (Value.bool false) := by
      rw [← ht, List.take_of_length_le (by simp only [Array.length_toList]; omega)]
    have hc : cur = (List.replicate n (Value.bool false)).toArray := by rw [← hl]
    rw [hc]
    congr 3
    refine List.ext_getElem (by simp) fun i h1 h2 => ?_
    simp

theorem ring_pair (w : World) (x y : Int) (T : TypeId) (hx : (Lit.int .i64 x).wf = true) (hy : (Lit.int .i64 y).wf = true) : Row .i64 (w.alloc (.cells #[.int .i64 x, .int .i64 y] T)) (some ⟨w.heap.size, 0, none⟩) 2 2 [x, y] := by
  refine ⟨rfl, Nat.le_refl _, by unfold maxLen; omega, fun e => (by cases e), fun ad had j hj => ?_, fun n hn => by simp at hn; rcases hn with rfl | rfl <;> assumption⟩
  cases had
  rw [add_zeroC, cell_of_row _ w.heap.size j _ T (0, 0) (heap_alloc_new w _)]
  rcases (show j = 0 ∨ j = 1 by omega) with rfl | rfl <;> rfl

end Go.Proofs.YtflbjfcmnopfaaaDoor

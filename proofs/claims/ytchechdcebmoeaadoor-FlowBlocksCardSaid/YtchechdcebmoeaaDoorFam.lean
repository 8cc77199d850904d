/-
  Several rows of integers, each the call's own, apart from one another.
-/
import Derived.Test.YtchechdcebmoeaaDoorFBase
import Derived.Maps.AppendAt
namespace Go.Proofs.YtchechdcebmoeaaDoor
open Go.RowKit

def updV {β : Type} (f : Nat → β) (j : Nat) (x : β) : Nat → β := fun i => if i = j then x else f i
theorem updV_same {β : Type} (f : Nat → β) (j : Nat) (x : β) : updV f j x j = x := by simp [updV]
theorem updV_other {β : Type} (f : Nat → β) {i j : Nat} (x : β) (h : i ≠ j) : updV f j x i = f i := by simp [updV, h]

/-- Rows of integers, each the call's own, apart from one another. -/
structure Fam (B n : Nat) (vs : Nat → Value) (F : Nat → List Int) (w : World) : Prop where
  own : ∀ j, j < n → w.ownsRow B 3 1 (vs j) (F j).length ((F j).map (Value.int .i64))
  apart : ∀ i j k, i < n → j < n → (vs i).ownBlock = some k → (vs j).ownBlock = some k → i = j

section
variable {B n : Nat} {vs : Nat → Value} {F : Nat → List Int} {w : World}

theorem Fam.nils (B n : Nat) (w : World) : Fam B n (fun _ => .slice none 0 0) (fun _ => []) w :=
  ⟨fun _ _ => World.ownsRow_nil _ _ _ _, fun i j k _ _ h => by simp [Value.ownBlock] at h⟩

theorem Fam.shape (h : Fam B n vs F w) {j : Nat} (hj : j < n) : ∃ a c, vs j = .slice a (F j).length c ∧ (F j).length ≤ c ∧ c ≤ maxLen := by
  rcases (h.own j hj).2 with ⟨e, h1⟩ | ⟨g, cap, cur, e, _, _, h2, h3, _⟩
  · exact ⟨none, 0, by rw [e, h1], by omega, Nat.zero_le _⟩
  · exact ⟨_, _, e, h2, h3⟩

theorem Fam.lt (h : Fam B n vs F w) {j k : Nat} (hj : j < n) (hk : (vs j).ownBlock = some k) : B ≤ k ∧ k < w.heap.size ∧ ∃ cur, w.heap[k]? = some (.cells cur 3 (0, 0)) := by
  obtain ⟨cur, hc⟩ := own_typeM (h.own j hj) hk
  exact ⟨own_block_lt (h.own j hj) k hk, (Array.getElem?_eq_some_iff.1 hc).1, cur, hc⟩

theorem Fam.kept (h : Fam B n vs F w) {w' : World} (hk : ∀ j k, j < n → (vs j).ownBlock = some k → w'.heap[k]? = w.heap[k]?) : Fam B n vs F w' :=
  ⟨fun j hj => owns_keptF (h.own j hj) fun k hk2 => hk j k hj hk2, h.apart⟩
where
  owns_keptF {w w' : World} {N e k n : Nat} {v : Value} {xs : List Value} (h : w.ownsRow N e k v n xs) (hk : ∀ k, v.ownBlock = some k → w'.heap[k]? = w.heap[k]?) : w'.ownsRow N e k v n xs := by
    refine ⟨h.1, ?_⟩
    rcases h.2 with h2 | ⟨g, cap, cur, hv, hb, hg, h3⟩
    · exact .inl h2
    · exact .inr ⟨g, cap, cur, hv, hb, (hk g (by rw [hv]; rfl)).trans hg, h3⟩

theorem Fam.all (h : Fam B n vs F w) {w' : World} (hk : ∀ k, k < w.heap.size → w'.heap[k]? = w.heap[k]?) : Fam B n vs F w' :=
  h.kept fun _ k hj hk2 => hk k (h.lt hj hk2).2.1

theorem Fam.congr (h : Fam B n vs F w) {G : Nat → List Int} (e : ∀ j, j < n → F j = G j) : Fam B n vs G w :=
  ⟨fun j hj => by rw [← e j hj]; exact h.own j hj, h.apart⟩

/-- A number at the end of one of them. -/
theorem Fam.app (h : Fam B n vs F w) {w1 w5 : World} {j : Nat} {v' : Value} {x : Int} (hj : j < n) (h1 : ∀ k, k < w.heap.size → w1.heap[k]? = w.heap[k]?) (hs : w.heap.size ≤ w1.heap.size)
    (ho : w5.ownsRow B 3 1 v' ((F j).length + 1) ((F j).map (Value.int .i64) ++ [.int .i64 x])) (hg : w1.grownBy w5 (vs j).ownBlock) (ha : v'.ownBlock = (vs j).ownBlock ∨ v'.ownBlock = some w1.heap.size) :
    Fam B n (updV vs j v') (updV F j (F j ++ [x])) w5 := by
  refine ⟨fun i hi => ?_, fun i i2 k hi hi2 e1 e2 => ?_⟩
  · by_cases e : i = j
    · subst e
      rw [updV_same, updV_same, List.length_append, List.map_append]
      exact ho
    · rw [updV_other _ _ e, updV_other _ _ e]
      refine Fam.kept.owns_keptF (h.own i hi) fun k hk => ?_
      have hl := (h.lt hi hk).2.1
      rw [hg.block k (by omega) (fun e2 => e (h.apart i j k hi hj hk e2.symm)), h1 k hl]
  · have new : ∀ i, i < n → i ≠ j → (vs i).ownBlock = some k → v'.ownBlock = some k → False := fun i hi hne e1 e2 => by
      rcases ha with h2 | h2
      · exact hne (h.apart i j k hi hj e1 (h2.symm.trans e2))
      · rw [h2] at e2
        have := Option.some.inj e2
        have := (h.lt hi e1).2.1
        omega
    by_cases e : i = j
    · by_cases e3 : i2 = j
      · rw [e, e3]
      · rw [e, updV_same] at e1
        rw [updV_other _ _ e3] at e2
        exact absurd e1 (fun e1 => new i2 hi2 e3 e2 e1)
    · rw [updV_other _ _ e] at e1
      by_cases e3 : i2 = j
      · rw [e3, updV_same] at e2
        exact absurd e2 (fun e2 => new i hi e e1 e2)
      · rw [updV_other _ _ e3] at e2
        exact h.apart i i2 k hi hi2 e1 e2

/-- As a row that is read. -/
theorem Fam.row (h : Fam B n vs F w) {j : Nat} (hj : j < n) (hw : ∀ x ∈ F j, (Lit.int .i64 x).wf = true) : ∃ a c, vs j = .slice a (F j).length c ∧ Row .i64 w a (F j).length c (F j) := by
  obtain ⟨a, c, e, hr⟩ := row_of_owns (h.own j hj) hw
  exact ⟨a, c, e, hr⟩
end

end Go.Proofs.YtchechdcebmoeaaDoor

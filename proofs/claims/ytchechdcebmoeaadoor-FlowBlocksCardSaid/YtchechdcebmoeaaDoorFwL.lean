/-
  flow.newWalk, plainly: who is entered stands on the path, who is left is told, each once.
-/
import Derived.Test.YtchechdcebmoeaaDoorFwA
namespace Go.Proofs.YtchechdcebmoeaaDoor
open Go.RowKit

/-- Who is entered stands on the path, who is left is told; each once. -/
structure BasW (s : Wk) : Prop where
  nodupL : s.left.Nodup
  two : ∀ v, s.st v = 2 ↔ v ∈ s.left
  one : ∀ v, s.st v = 1 ↔ v ∈ s.path.map Prod.fst
  nodupP : (s.path.map Prod.fst).Nodup

theorem BasW.step {g : List (List Int)} {s : Wk} (h : BasW s) {v k : Nat} (hp : s.path.getLast? = some (v, k)) : BasW (stepW g s v k) := by
  have hmf : s.path.map Prod.fst = s.path.dropLast.map Prod.fst ++ [v] := by
    conv => lhs; rw [last_split hp]
    rw [List.map_append]
    rfl
  have hnp := h.nodupP
  rw [hmf] at hnp
  have hvd : v ∉ s.path.dropLast.map Prod.fst := fun hm => (List.nodup_append.1 hnp).2.2 v hm v (by simp) rfl
  have hv1 : s.st v = 1 := (h.one v).2 (by rw [hmf]; simp)
  unfold stepW
  by_cases hk : k = degW g v
  · rw [if_pos hk]
    have hvl : v ∉ s.left := fun hm => by have := (h.two v).2 hm; omega
    refine ⟨List.nodup_append.2 ⟨h.nodupL, by simp, fun a ha b hb e => ?_⟩, fun w => ?_, fun w => ?_, (List.nodup_append.1 hnp).1⟩
    · simp at hb; subst hb; rw [e] at ha; exact hvl ha
    · show setN s.st v 2 w = 2 ↔ w ∈ s.left ++ [v]
      by_cases e : w = v
      · subst e; rw [setN_same]; simp
      · rw [setN_other _ _ e, h.two]; simp [e]
    · show setN s.st v 2 w = 1 ↔ w ∈ s.path.dropLast.map Prod.fst
      by_cases e : w = v
      · subst e; rw [setN_same]; exact ⟨fun h => by omega, fun hm => absurd hm hvd⟩
      · rw [setN_other _ _ e, h.one, hmf]; simp [e]
  · rw [if_neg hk]
    have hm2 : (s.path.dropLast ++ [(v, k + 1)]).map Prod.fst = s.path.map Prod.fst := by rw [hmf, List.map_append]; rfl
    unfold meetW
    generalize edgeW g v k = y
    by_cases h1 : y < 0 ∨ (g.length : Int) ≤ y
    · rw [if_pos h1]
      exact ⟨h.nodupL, h.two, fun w => by show s.st w = 1 ↔ w ∈ (s.path.dropLast ++ [(v, k + 1)]).map Prod.fst; rw [hm2]; exact h.one w, by show ((s.path.dropLast ++ [(v, k + 1)]).map Prod.fst).Nodup; rw [hm2]; exact h.nodupP⟩
    · rw [if_neg h1]
      dsimp only
      by_cases h2 : s.st y.toNat = 0
      · rw [if_pos h2]
        dsimp only
        have hyp : y.toNat ∉ s.path.map Prod.fst := fun hm => by have := (h.one _).2 hm; omega
        have hyl : y.toNat ∉ s.left := fun hm => by have := (h.two _).2 hm; omega
        have hm3 : (s.path.dropLast ++ [(v, k + 1)] ++ [(y.toNat, 0)]).map Prod.fst = s.path.map Prod.fst ++ [y.toNat] := by rw [List.map_append, hm2]; rfl
        refine ⟨h.nodupL, fun w => ?_, fun w => ?_, ?_⟩
        · show setN s.st y.toNat 1 w = 2 ↔ w ∈ s.left
          by_cases e : w = y.toNat
          · subst e; rw [setN_same]; exact ⟨fun h => by omega, fun hm => absurd hm hyl⟩
          · rw [setN_other _ _ e]; exact h.two w
        · show setN s.st y.toNat 1 w = 1 ↔ w ∈ (s.path.dropLast ++ [(v, k + 1)] ++ [(y.toNat, 0)]).map Prod.fst
          rw [hm3]
          by_cases e : w = y.toNat
          · subst e; rw [setN_same]; simp
          · rw [setN_other _ _ e, h.one]; simp [e]
        · show ((s.path.dropLast ++ [(v, k + 1)] ++ [(y.toNat, 0)]).map Prod.fst).Nodup
          rw [hm3, List.nodup_append]
          exact ⟨h.nodupP, by simp, fun a ha b hb e => by simp at hb; subst hb; rw [e] at ha; exact hyp ha⟩
      · rw [if_neg h2]
        by_cases h3 : s.st y.toNat = 1
        · rw [if_pos h3]
          exact ⟨h.nodupL, h.two, fun w => by show s.st w = 1 ↔ w ∈ (s.path.dropLast ++ [(v, k + 1)]).map Prod.fst; rw [hm2]; exact h.one w, by show ((s.path.dropLast ++ [(v, k + 1)]).map Prod.fst).Nodup; rw [hm2]; exact h.nodupP⟩
        · rw [if_neg h3]
          exact ⟨h.nodupL, h.two, fun w => by show s.st w = 1 ↔ w ∈ (s.path.dropLast ++ [(v, k + 1)]).map Prod.fst; rw [hm2]; exact h.one w, by show ((s.path.dropLast ++ [(v, k + 1)]).map Prod.fst).Nodup; rw [hm2]; exact h.nodupP⟩

theorem BasW.begin : BasW beginW := by
  refine ⟨List.nodup_nil, fun v => ?_, fun v => ?_, by simp [beginW]⟩
  · unfold beginW setN
    dsimp only
    constructor
    · intro h; split at h <;> omega
    · intro h; cases h
  · unfold beginW setN
    dsimp only
    constructor
    · intro h
      split at h
      · rename_i e; subst e; simp
      · omega
    · intro h
      simp at h
      rw [if_pos h]

theorem run_keeps {g : List (List Int)} {P : Wk → Prop} (hs : ∀ s v k, P s → s.path.getLast? = some (v, k) → P (stepW g s v k)) : ∀ (f : Nat) (s : Wk), P s → P (runW g f s)
  | 0, _, h => h
  | f + 1, s, h => by
    cases hp : s.path.getLast? with
    | none =>
      have e : s.path = [] := by simpa using hp
      rw [runW_end e]
      exact h
    | some x =>
      obtain ⟨v, k⟩ := x
      rw [runW_next hp]
      exact run_keeps hs f _ (hs s v k h hp)

/-- What holds at the walk's end: just who is left was entered, each once. -/
theorem walk_bas (g : List (List Int)) (h0 : 0 < g.length) : BasW (walkW g) ∧ (walkW g).path = [] := by
  have hne : g ≠ [] := fun e => by rw [e] at h0; simp at h0
  unfold walkW
  rw [if_neg hne]
  refine ⟨run_keeps (fun s v k h hp => h.step hp) _ _ BasW.begin, ?_⟩
  have hok : OkW g (muW g beginW + 1) beginW :=
    ⟨fun p hp => by simp [beginW] at hp; subst hp; exact ⟨h0, Nat.zero_le _⟩, fun v => by unfold beginW setN; dsimp only; split <;> decide, fun v hv => by simp [beginW] at hv, fun e he => by simp [beginW] at he, by simp [beginW]; omega⟩
  exact runW_enough _ _ hok (Nat.le_refl _)

end Go.Proofs.YtchechdcebmoeaaDoor

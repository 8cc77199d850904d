/-
  flow.newWalk, plainly: a walk in depth; its sizes; it ends.
-/
import Derived.Test.YtchechdcebmoeaaDoorMem
namespace Go.Proofs.YtchechdcebmoeaaDoor
open Go.RowKit

/-- A walk in depth, plainly: of each place 0 (not entered), 1 (entered), 2 (left); the places left; the loops; the path, its first place first. -/
structure Wk where
  st : Nat → Nat
  left : List Nat
  loops : List (Nat × Nat)
  path : List (Nat × Nat)

def setN (S : Nat → Nat) (i x : Nat) : Nat → Nat := fun j => if j = i then x else S j
theorem setN_same (S : Nat → Nat) (i x : Nat) : setN S i x i = x := by simp [setN]
theorem setN_other (S : Nat → Nat) {i j : Nat} (x : Nat) (h : j ≠ i) : setN S i x j = S j := by simp [setN, h]

def degW (g : List (List Int)) (v : Nat) : Nat := (g.getD v []).length
def edgeW (g : List (List Int)) (v k : Nat) : Int := (g.getD v []).getD k 0

/-- What an edge does to the walk: whether it is gone along. -/
def meetW (n : Nat) (s : Wk) (v : Nat) (y : Int) : Wk × Bool :=
  if y < 0 ∨ (n : Int) ≤ y then (s, false) else
  if s.st y.toNat = 0 then (⟨setN s.st y.toNat 1, s.left, s.loops, s.path⟩, true) else
  if s.st y.toNat = 1 then (⟨s.st, s.left, s.loops ++ [(v, y.toNat)], s.path⟩, false) else (s, false)

def stepW (g : List (List Int)) (s : Wk) (v k : Nat) : Wk :=
  if k = degW g v then ⟨setN s.st v 2, s.left ++ [v], s.loops, s.path.dropLast⟩ else
  match meetW g.length ⟨s.st, s.left, s.loops, s.path.dropLast ++ [(v, k + 1)]⟩ v (edgeW g v k) with
  | (t, true) => ⟨t.st, t.left, t.loops, t.path ++ [((edgeW g v k).toNat, 0)]⟩
  | (t, false) => t

def runW (g : List (List Int)) : Nat → Wk → Wk
  | 0, s => s
  | f + 1, s => match s.path.getLast? with
    | none => s
    | some (v, k) => runW g f (stepW g s v k)

def restW (g : List (List Int)) (S : Nat → Nat) : Nat → Nat
  | 0 => 0
  | n + 1 => restW g S n + (if S n = 0 then degW g n + 2 else 0)
def pathW (g : List (List Int)) : List (Nat × Nat) → Nat
  | [] => 0
  | p :: r => (degW g p.1 + 1 - p.2) + pathW g r
def muW (g : List (List Int)) (s : Wk) : Nat := restW g s.st g.length + pathW g s.path

theorem restW_set (g : List (List Int)) (S : Nat → Nat) (v x : Nat) (hx : x ≠ 0) : ∀ n, restW g (setN S v x) n + (if v < n ∧ S v = 0 then degW g v + 2 else 0) = restW g S n
  | 0 => by simp [restW]
  | n + 1 => by
    have ih := restW_set g S v x hx n
    unfold restW
    by_cases e : n = v
    · subst e
      rw [setN_same, if_neg hx]
      rw [if_neg (show ¬ (n < n ∧ S n = 0) by omega)] at ih
      by_cases h0 : S n = 0
      · rw [if_pos (show n < n + 1 ∧ S n = 0 from ⟨by omega, h0⟩), if_pos h0]; omega
      · rw [if_neg (show ¬ (n < n + 1 ∧ S n = 0) from fun h => h0 h.2), if_neg h0]; omega
    · rw [setN_other S x e]
      generalize (if S n = 0 then degW g n + 2 else 0) = d
      by_cases h0 : v < n ∧ S v = 0
      · rw [if_pos h0] at ih
        rw [if_pos (show v < n + 1 ∧ S v = 0 from ⟨by omega, h0.2⟩)]
        omega
      · rw [if_neg h0] at ih
        rw [if_neg (show ¬ (v < n + 1 ∧ S v = 0) from fun h => h0 ⟨by omega, h.2⟩)]
        omega

theorem pathW_app (g : List (List Int)) (l r : List (Nat × Nat)) : pathW g (l ++ r) = pathW g l + pathW g r := by
  induction l with
  | nil => simp [pathW]
  | cons p l ih => simp only [List.cons_append, pathW, ih]; omega

structure OkW (g : List (List Int)) (N : Nat) (s : Wk) : Prop where
  place : ∀ p ∈ s.path, p.1 < g.length ∧ p.2 ≤ degW g p.1
  st3 : ∀ v, s.st v ≤ 2
  lf : ∀ v ∈ s.left, v < g.length
  lp : ∀ e ∈ s.loops, e.1 < g.length ∧ e.2 < g.length
  size : s.left.length + s.loops.length + s.path.length + muW g s ≤ N

theorem last_split {l : List (Nat × Nat)} {p : Nat × Nat} (h : l.getLast? = some p) : l = l.dropLast ++ [p] := by
  cases hl : l with
  | nil => rw [hl] at h; cases h
  | cons a r =>
    have hne : l ≠ [] := by rw [hl]; simp
    rw [List.getLast?_eq_some_getLast hne] at h
    have := Option.some.inj h
    rw [← hl, ← this]
    exact (List.dropLast_concat_getLast hne).symm

theorem OkW.step {g : List (List Int)} {N : Nat} {s : Wk} (h : OkW g N s) {v k : Nat} (hp : s.path.getLast? = some (v, k)) : OkW g N (stepW g s v k) ∧ muW g (stepW g s v k) < muW g s := by
  have hsp := last_split hp
  have hmem : (v, k) ∈ s.path := by rw [hsp]; simp
  have hpl := h.place _ hmem
  dsimp only at hpl
  have hpw : pathW g s.path = pathW g s.path.dropLast + (degW g v + 1 - k) := by
    conv => lhs; rw [hsp]
    rw [pathW_app]
    simp [pathW]
  have hlen : s.path.length = s.path.dropLast.length + 1 := by
    conv => lhs; rw [hsp]
    simp
  have hdm : ∀ p ∈ s.path.dropLast, p ∈ s.path := fun p hp => by rw [hsp]; exact List.mem_append_left _ hp
  have hsz := h.size
  unfold muW at hsz ⊢
  unfold stepW
  by_cases hk : k = degW g v
  · rw [if_pos hk]
    have hr := restW_set g s.st v 2 (by decide) g.length
    have hle : restW g (setN s.st v 2) g.length ≤ restW g s.st g.length := by omega
    refine ⟨⟨fun p hp => h.place p (hdm p hp), fun w => ?_, fun w hw => ?_, h.lp, ?_⟩, ?_⟩
    · show setN s.st v 2 w ≤ 2
      unfold setN
      split
      · exact Nat.le_refl _
      · exact h.st3 w
    · rcases List.mem_append.1 hw with h1 | h1
      · exact h.lf w h1
      · simp at h1; subst h1; exact hpl.1
    · show (s.left ++ [v]).length + s.loops.length + s.path.dropLast.length + (restW g (setN s.st v 2) g.length + pathW g s.path.dropLast) ≤ N
      rw [List.length_append]
      simp only [List.length_cons, List.length_nil]
      omega
    · show restW g (setN s.st v 2) g.length + pathW g s.path.dropLast < _
      omega
  · rw [if_neg hk]
    have hp2 : pathW g (s.path.dropLast ++ [(v, k + 1)]) = pathW g s.path.dropLast + (degW g v + 1 - (k + 1)) := by rw [pathW_app]; simp [pathW]
    have hl2 : (s.path.dropLast ++ [(v, k + 1)]).length = s.path.length := by rw [hlen]; simp
    have hpl2 : ∀ p ∈ s.path.dropLast ++ [(v, k + 1)], p.1 < g.length ∧ p.2 ≤ degW g p.1 := fun p hp => by
      rcases List.mem_append.1 hp with h1 | h1
      · exact h.place p (hdm p h1)
      · simp at h1; subst h1; exact ⟨hpl.1, by dsimp only; omega⟩
    unfold meetW
    generalize edgeW g v k = y
    by_cases h1 : y < 0 ∨ (g.length : Int) ≤ y
    · rw [if_pos h1]
      refine ⟨⟨hpl2, h.st3, h.lf, h.lp, ?_⟩, ?_⟩
      · show s.left.length + s.loops.length + (s.path.dropLast ++ [(v, k + 1)]).length + (restW g s.st g.length + pathW g (s.path.dropLast ++ [(v, k + 1)])) ≤ N
        omega
      · show restW g s.st g.length + pathW g (s.path.dropLast ++ [(v, k + 1)]) < _
        omega
    · rw [if_neg h1]
      dsimp only
      by_cases h2 : s.st y.toNat = 0
      · rw [if_pos h2]
        dsimp only
        have hr := restW_set g s.st y.toNat 1 (by decide) g.length
        rw [if_pos ⟨by omega, h2⟩] at hr
        have hp3 : pathW g (s.path.dropLast ++ [(v, k + 1)] ++ [(y.toNat, 0)]) = pathW g (s.path.dropLast ++ [(v, k + 1)]) + (degW g y.toNat + 1) := by rw [pathW_app]; simp [pathW]
        refine ⟨⟨fun p hp => ?_, fun w => ?_, h.lf, h.lp, ?_⟩, ?_⟩
        · rcases List.mem_append.1 hp with h3 | h3
          · exact hpl2 p h3
          · simp at h3; subst h3; exact ⟨by dsimp only; omega, Nat.zero_le _⟩
        · show setN s.st y.toNat 1 w ≤ 2
          unfold setN
          split
          · decide
          · exact h.st3 w
        · show s.left.length + s.loops.length + (s.path.dropLast ++ [(v, k + 1)] ++ [(y.toNat, 0)]).length + (restW g (setN s.st y.toNat 1) g.length + pathW g (s.path.dropLast ++ [(v, k + 1)] ++ [(y.toNat, 0)])) ≤ N
          rw [List.length_append, hl2, hp3]
          simp only [List.length_cons, List.length_nil]
          omega
        · show restW g (setN s.st y.toNat 1) g.length + pathW g (s.path.dropLast ++ [(v, k + 1)] ++ [(y.toNat, 0)]) < _
          rw [hp3]
          omega
      · rw [if_neg h2]
        by_cases h3 : s.st y.toNat = 1
        · rw [if_pos h3]
          refine ⟨⟨hpl2, h.st3, h.lf, fun e he => ?_, ?_⟩, ?_⟩
          · rcases List.mem_append.1 he with h4 | h4
            · exact h.lp e h4
            · simp at h4; subst h4; exact ⟨hpl.1, by dsimp only; omega⟩
          · show s.left.length + (s.loops ++ [(v, y.toNat)]).length + (s.path.dropLast ++ [(v, k + 1)]).length + (restW g s.st g.length + pathW g (s.path.dropLast ++ [(v, k + 1)])) ≤ N
            rw [List.length_append]
            simp only [List.length_cons, List.length_nil]
            omega
          · show restW g s.st g.length + pathW g (s.path.dropLast ++ [(v, k + 1)]) < _
            omega
        · rw [if_neg h3]
          refine ⟨⟨hpl2, h.st3, h.lf, h.lp, ?_⟩, ?_⟩
          · show s.left.length + s.loops.length + (s.path.dropLast ++ [(v, k + 1)]).length + (restW g s.st g.length + pathW g (s.path.dropLast ++ [(v, k + 1)])) ≤ N
            omega
          · show restW g s.st g.length + pathW g (s.path.dropLast ++ [(v, k + 1)]) < _
            omega

theorem runW_next {g : List (List Int)} {s : Wk} {v k : Nat} (hp : s.path.getLast? = some (v, k)) (f : Nat) : runW g (f + 1) s = runW g f (stepW g s v k) := by
  rw [runW, hp]
theorem runW_end {g : List (List Int)} {s : Wk} (hp : s.path = []) : ∀ f, runW g f s = s
  | 0 => rfl
  | f + 1 => by rw [runW, hp]; rfl

/-- The whole walk. -/
def beginW : Wk := ⟨setN (fun _ => 0) 0 1, [], [], [(0, 0)]⟩
def walkW (g : List (List Int)) : Wk := if g = [] then ⟨fun _ => 0, [], [], []⟩ else runW g (muW g beginW) beginW
def orderW5 (g : List (List Int)) : List Nat := (walkW g).left.reverse

theorem runW_enough {g : List (List Int)} {N : Nat} : ∀ (f : Nat) (s : Wk), OkW g N s → muW g s ≤ f → (runW g f s).path = []
  | 0, s, h, hf => by
    cases hp : s.path.getLast? with
    | none => exact (show s.path = [] by simpa using hp)
    | some p =>
      obtain ⟨v, k⟩ := p
      have := (h.step hp).2
      omega
  | f + 1, s, h, hf => by
    cases hp : s.path.getLast? with
    | none =>
      have e : s.path = [] := by simpa using hp
      rw [runW_end e]
      exact e
    | some p =>
      obtain ⟨v, k⟩ := p
      rw [runW_next hp]
      have := h.step hp
      exact runW_enough f _ this.1 (by omega)

example : orderW5 [[1, 2], [3], [3], [0]] = [0, 2, 1, 3] := by decide
example : (walkW [[1, 2], [3], [3], [0]]).loops = [(3, 0)] := by decide

end Go.Proofs.YtchechdcebmoeaaDoor

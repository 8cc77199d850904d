/-
  flow: place 0 is left last; each edge once.
-/
import Derived.Test.YtchechdcebmoeaaDoorFwL
namespace Go.Proofs.YtchechdcebmoeaaDoor
open Go.RowKit

/-- The path begins with place 0; who is left last is place 0. -/
structure ZerW (s : Wk) : Prop where
  head : s.path ≠ [] → ∃ k r, s.path = (0, k) :: r
  last : s.path = [] → s.left.getLast? = some 0

theorem ZerW.step {g : List (List Int)} {s : Wk} (h : ZerW s) {v k : Nat} (hp : s.path.getLast? = some (v, k)) : ZerW (stepW g s v k) := by
  have hne : s.path ≠ [] := fun e => by rw [e] at hp; cases hp
  obtain ⟨k0, r, hpa⟩ := h.head hne
  have hsp := last_split hp
  unfold stepW
  by_cases hk : k = degW g v
  · rw [if_pos hk]
    refine ⟨fun h2 => ?_, fun h2 => ?_⟩
    · have h3 : s.path.dropLast ≠ [] := h2
      show ∃ k r, s.path.dropLast = (0, k) :: r
      rw [hpa] at h3 ⊢
      cases r with
      | nil => exact absurd rfl h3
      | cons a r => exact ⟨k0, (a :: r).dropLast, rfl⟩
    · have h3 : s.path.dropLast = [] := h2
      show (s.left ++ [v]).getLast? = some 0
      rw [h3, hpa] at hsp
      simp at hsp
      rw [← hsp.1.1]
      simp
  · rw [if_neg hk]
    have hx : ∃ m r, s.path.dropLast ++ [(v, k + 1)] = (0, m) :: r := by
      rw [hpa] at hsp ⊢
      cases r with
      | nil =>
        simp at hsp
        rw [← hsp.1]
        exact ⟨_, [], rfl⟩
      | cons a r => exact ⟨k0, (a :: r).dropLast ++ [(v, k + 1)], rfl⟩
    have stay : ∀ st lo, ZerW ⟨st, s.left, lo, s.path.dropLast ++ [(v, k + 1)]⟩ := fun st lo => ⟨fun _ => hx, fun h2 => by
      have h3 : s.path.dropLast ++ [(v, k + 1)] = [] := h2
      simp at h3⟩
    unfold meetW
    generalize edgeW g v k = y
    by_cases h1 : y < 0 ∨ (g.length : Int) ≤ y
    · rw [if_pos h1]; exact stay _ _
    · rw [if_neg h1]
      dsimp only
      by_cases h2 : s.st y.toNat = 0
      · rw [if_pos h2]
        dsimp only
        obtain ⟨k2, r2, hx2⟩ := hx
        refine ⟨fun _ => ⟨k2, r2 ++ [(y.toNat, 0)], by show s.path.dropLast ++ [(v, k + 1)] ++ [(y.toNat, 0)] = _; rw [hx2]; rfl⟩, fun h3 => ?_⟩
        have h4 : s.path.dropLast ++ [(v, k + 1)] ++ [(y.toNat, 0)] = [] := h3
        simp at h4
      · rw [if_neg h2]
        by_cases h3 : s.st y.toNat = 1
        · rw [if_pos h3]; exact stay _ _
        · rw [if_neg h3]; exact stay _ _

theorem walk_zero (g : List (List Int)) (h0 : 0 < g.length) : (walkW g).left.getLast? = some 0 := by
  have hne : g ≠ [] := fun e => by rw [e] at h0; simp at h0
  have h : ZerW (walkW g) := by
    unfold walkW
    rw [if_neg hne]
    exact run_keeps (fun s v k h hp => h.step hp) _ _ ⟨fun _ => ⟨0, [], rfl⟩, fun e => by cases e⟩
  exact h.last (walk_bas g h0).2

theorem walk_ok (g : List (List Int)) (h0 : 0 < g.length) : OkW g (muW g beginW + 1) (walkW g) := by
  have hne : g ≠ [] := fun e => by rw [e] at h0; simp at h0
  unfold walkW
  rw [if_neg hne]
  exact run_keeps (P := fun s => OkW g (muW g beginW + 1) s) (fun s v k h hp => (h.step hp).1) _ _
    ⟨fun p hp => by simp [beginW] at hp; subst hp; exact ⟨h0, Nat.zero_le _⟩, fun v => by unfold beginW setN; dsimp only; split <;> decide, fun v hv => by simp [beginW] at hv, fun e he => by simp [beginW] at he, by simp [beginW]; omega⟩

/-- Each once, where it stands first. -/
def dedE (l : List (Nat × Nat)) : List (Nat × Nat) := l.foldl (fun o e => if e ∈ o then o else o ++ [e]) []
theorem dedE_snoc (l : List (Nat × Nat)) (e : Nat × Nat) : dedE (l ++ [e]) = if e ∈ dedE l then dedE l else dedE l ++ [e] := by
  unfold dedE; rw [List.foldl_append]; rfl
theorem dedE_take (l : List (Nat × Nat)) (i : Nat) (h : i < l.length) : dedE (l.take (i + 1)) = if l.getD i (0, 0) ∈ dedE (l.take i) then dedE (l.take i) else dedE (l.take i) ++ [l.getD i (0, 0)] := by
  rw [← dedE_snoc]
  congr 1
  rw [List.take_add_one, List.getElem?_eq_getElem h]
  simp [List.getD, h]
theorem dedE_mem (l : List (Nat × Nat)) (e : Nat × Nat) : e ∈ dedE l ↔ e ∈ l := by
  have key : ∀ (l o : List (Nat × Nat)), e ∈ l.foldl (fun o e => if e ∈ o then o else o ++ [e]) o ↔ e ∈ o ∨ e ∈ l := by
    intro l
    induction l with
    | nil => intro o; simp
    | cons x r ih =>
      intro o
      rw [List.foldl_cons, ih]
      split
      · rename_i hx
        constructor
        · rintro (h | h) <;> simp [h]
        · rintro (h | h)
          · exact .inl h
          · rcases List.mem_cons.1 h with e2 | h2
            · rw [e2]; exact .inl hx
            · exact .inr h2
      · rw [List.mem_append, List.mem_singleton, List.mem_cons, or_assoc]
  have := key l []
  simpa [dedE] using this
theorem dedE_len (l : List (Nat × Nat)) : (dedE l).length ≤ l.length := by
  have key : ∀ (l o : List (Nat × Nat)), (l.foldl (fun o e => if e ∈ o then o else o ++ [e]) o).length ≤ o.length + l.length := by
    intro l
    induction l with
    | nil => intro o; simp
    | cons x r ih =>
      intro o
      rw [List.foldl_cons]
      have := ih (if x ∈ o then o else o ++ [x])
      have h2 : (if x ∈ o then o else o ++ [x]).length ≤ o.length + 1 := by split <;> simp
      simp only [List.length_cons]
      omega
  simpa [dedE] using key l []
theorem dedE_nodup (l : List (Nat × Nat)) (h : l.Nodup) : dedE l = l := by
  have key : ∀ (r o : List (Nat × Nat)), (o ++ r).Nodup → r.foldl (fun o e => if e ∈ o then o else o ++ [e]) o = o ++ r := by
    intro r
    induction r with
    | nil => intro o _; simp
    | cons x r ih =>
      intro o ho
      have hx : x ∉ o := fun hm => (List.nodup_append.1 ho).2.2 x hm x (by simp) rfl
      rw [List.foldl_cons, if_neg hx, ih _ (by simpa using ho)]
      simp
  simpa [dedE] using key l [] (by simpa using h)

end Go.Proofs.YtchechdcebmoeaaDoor

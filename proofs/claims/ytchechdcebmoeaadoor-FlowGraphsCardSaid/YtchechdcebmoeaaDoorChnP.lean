/-
  The law on a chain, plainly; a new row in a row of rows; how long a walk may be.
-/
import Derived.Test.YtchechdcebmoeaaDoorRws
import Derived.Test.YtchechdcebmoeaaDoorFwN
import Derived.Test.YtchechdcebmoeaaDoorFwQ
namespace Go.Proofs.YtchechdcebmoeaaDoor
open Go.RowKit

theorem restW_max (g : List (List Int)) (S : Nat → Nat) (D : Nat) (hd : ∀ v, degW g v ≤ D) : ∀ n, restW g S n ≤ n * (D + 2)
  | 0 => by simp [restW]
  | n + 1 => by
    unfold restW
    have := restW_max g S D hd n
    have := hd n
    rw [Nat.succ_mul]
    split <;> omega
theorem muW_max (g : List (List Int)) (D : Nat) (hd : ∀ v, degW g v ≤ D) : muW g beginW ≤ g.length * (D + 2) + D + 1 := by
  unfold muW
  have h1 := restW_max g beginW.st D hd g.length
  have h2 := hd 0
  have h3 : pathW g beginW.path = degW g 0 + 1 := by simp [beginW, pathW]
  omega

/-- Where the i-th way back leads, if it is one. -/
def tF (zs : List Int) (len N : Nat) (j : Nat) : Option Nat :=
  if j < len ∧ j < N then (if (((zs.getD j 0).tmod N + N).tmod N).toNat ≤ j then some (((zs.getD j 0).tmod N + N).tmod N).toNat else none) else none
theorem tF_le (zs : List Int) (len N j x : Nat) (h : tF zs len N j = some x) : x ≤ j := by
  unfold tF at h
  split at h
  · split at h
    · cases h; assumption
    · cases h
  · cases h
theorem rem_bounds (x : Int) {N : Nat} (h : 0 < N) : -(N : Int) < x.tmod N ∧ x.tmod N < N := ⟨Int.lt_tmod_of_pos x (by omega), Int.tmod_lt_of_pos x (by omega)⟩
theorem rem_again {r : Int} {N : Nat} (h : 0 < N) (hr : -(N : Int) < r) : 0 ≤ (r + N).tmod N ∧ (r + N).tmod N < N := ⟨Int.tmod_nonneg _ (by omega), Int.tmod_lt_of_pos _ (by omega)⟩

def backL (t : Nat → Option Nat) (j : Nat) : List Int := match t j with | some x => [(x : Int)] | none => []
/-- The rows, when the first i ways back are looked at. -/
def rowF (N : Nat) (t : Nat → Option Nat) (i j : Nat) : List Int := (if j + 1 < N then [((j + 1 : Nat) : Int)] else []) ++ (if j < i then backL t j else [])
theorem rowF_none {N : Nat} {t : Nat → Option Nat} {i : Nat} (h : t i = none) (j : Nat) : rowF N t (i + 1) j = rowF N t i j := by
  unfold rowF
  by_cases e : j < i
  · rw [if_pos e, if_pos (show j < i + 1 by omega)]
  · rw [if_neg e]
    by_cases e2 : j = i
    · rw [if_pos (show j < i + 1 by omega), e2, backL, h]
    · rw [if_neg (show ¬ j < i + 1 by omega)]
theorem rowF_some {N : Nat} {t : Nat → Option Nat} {i x : Nat} (h : t i = some x) (j : Nat) : updV (rowF N t i) i (rowF N t i i ++ [(x : Int)]) j = rowF N t (i + 1) j := by
  unfold updV
  by_cases e2 : j = i
  · rw [if_pos e2, e2]
    unfold rowF
    rw [if_neg (Nat.lt_irrefl i), if_pos (Nat.lt_succ_self i), backL, h]
    simp
  · rw [if_neg e2]
    unfold rowF
    by_cases e : j < i
    · rw [if_pos e, if_pos (show j < i + 1 by omega)]
    · rw [if_neg e, if_neg (show ¬ j < i + 1 by omega)]
theorem rowF_len (N : Nat) (t : Nat → Option Nat) (i j : Nat) : (rowF N t i j).length ≤ 2 := by
  unfold rowF backL
  rw [List.length_append]
  split <;> split <;> (try split) <;> simp
theorem rowF_wf {N : Nat} {t : Nat → Option Nat} (hN : N ≤ 100) (ht : ∀ i x, t i = some x → x ≤ i) (i j : Nat) (hj : j < N) : ∀ x ∈ rowF N t i j, (Lit.int .i64 x).wf = true := by
  intro x hx
  have : 0 ≤ x ∧ x ≤ 100 := by
    unfold rowF backL at hx
    rcases List.mem_append.1 hx with h | h
    · split at h
      · simp at h; omega
      · cases h
    · split at h
      · split at h
        · rename_i y hy
          have := ht j y hy
          simp at h; omega
        · cases h
      · cases h
  simp [Lit.wf, IntKind.min, IntKind.max, IntKind.signed, IntKind.bits]
  omega

/-- The first rows of a chain: each place goes on to the next one. -/
def row1F (i j : Nat) : List Int := if j < i then [((j + 1 : Nat) : Int)] else []
theorem row1F_next (i j : Nat) : updV (row1F i) i [((i + 1 : Nat) : Int)] j = row1F (i + 1) j := by
  unfold updV row1F
  by_cases e : j = i
  · rw [if_pos e, if_pos (by omega), e]
  · rw [if_neg e]
    by_cases e2 : j < i
    · rw [if_pos e2, if_pos (by omega)]
    · rw [if_neg e2, if_neg (by omega)]
theorem row1F_all {N : Nat} (h : 0 < N) (t : Nat → Option Nat) (j : Nat) (hj : j < N) : row1F (N - 1) j = rowF N t 0 j := by
  unfold row1F rowF
  rw [if_neg (Nat.not_lt_zero j), List.append_nil]
  by_cases e : j < N - 1
  · rw [if_pos e, if_pos (by omega)]
  · rw [if_neg e, if_neg (by omega)]

theorem chn_of {N i : Nat} {t : Nat → Option Nat} (hN : 0 < N) (ht : ∀ i x, t i = some x → x ≤ i) (he : ∀ j, i ≤ j → j < N → t j = none) : ChnW N t ((List.range N).map (rowF N t i)) := by
  refine ⟨by simp, hN, fun j hj => ?_, ht⟩
  have e : ((List.range N).map (rowF N t i)).getD j [] = rowF N t i j := by simp [List.getD, hj]
  rw [e]
  unfold rowF backL
  congr 1
  by_cases h : j < i
  · rw [if_pos h]
    cases t j <;> rfl
  · rw [if_neg h, he j (by omega) hj]
theorem cnt_end {t : Nat → Option Nat} {i : Nat} : ∀ N, i ≤ N → (∀ j, i ≤ j → j < N → t j = none) → cntT t N = cntT t i
  | 0, h, _ => by rw [show i = 0 by omega]
  | N + 1, h, he => by
    by_cases e : i = N + 1
    · rw [e]
    · rw [cntT, cnt_end N (by omega) (fun j h1 h2 => he j h1 (by omega)), he N (by omega) (by omega)]
      simp
theorem cnt_le (t : Nat → Option Nat) : ∀ i, cntT t i ≤ i
  | 0 => Nat.le_refl _
  | i + 1 => by unfold cntT; have := cnt_le t i; split <;> omega

section
variable {B b n : Nat} {vs : Nat → Value} {F : Nat → List Int} {w : World}
/-- A new row of one number. -/
theorem Rws.put (h : Rws B b n vs F w) {j : Nat} {x : Int} (hj : j < n) (hF : F j = []) :
    (w.alloc (.cells #[.int .i64 x] 3)).frozen? ⟨b, j, none⟩ = false ∧ (∃ v, (w.alloc (.cells #[.int .i64 x] 3)).cell? ⟨b, j, none⟩ = some v) ∧
      Rws B b n (updV vs j (.slice (some ⟨w.heap.size, 0, none⟩) 1 1)) (updV F j [x]) ((w.alloc (.cells #[.int .i64 x] 3)).setCell ⟨b, j, none⟩ (.slice (some ⟨w.heap.size, 0, none⟩) 1 1)) := by
  have hlt := h.lt
  have hlo := h.lo
  obtain ⟨f1, f2, f3⟩ := h.app (w1 := w) (w5 := w.alloc (.cells #[.int .i64 x] 3)) (v' := .slice (some ⟨w.heap.size, 0, none⟩) 1 1) (x := x) hj (fun _ _ => rfl) (Nat.le_refl _)
    (by
      rw [hF]
      exact ⟨rfl, .inr ⟨w.heap.size, 1, #[.int .i64 x], rfl, by omega, heap_alloc_new _ _, Nat.le_refl _, by unfold maxLen; omega, rfl, rfl⟩⟩)
    (World.grownBy_alloc w _ _) (.inr rfl)
  rw [hF] at f3
  exact ⟨f1, ⟨_, f2⟩, f3⟩
end

end Go.Proofs.YtchechdcebmoeaaDoor

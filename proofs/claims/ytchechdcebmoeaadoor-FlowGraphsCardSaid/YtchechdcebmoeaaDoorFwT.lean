/-
  flow.Preds, plainly: who goes on where, turned round and turned again.
-/
import Derived.Test.YtchechdcebmoeaaDoorFwA
import Derived.Test.YtchechdcebmoeaaDoorSrtL
namespace Go.Proofs.YtchechdcebmoeaaDoor
open Go.RowKit
theorem insU_pair (x : Int) : ∀ l : List Int, l.Pairwise (· < ·) → (insU x l).Pairwise (· < ·)
  | [], _ => by simp [insU]
  | y :: r, h => by
    have h1 := List.pairwise_cons.1 h
    unfold insU
    split
    · rename_i hy
      refine List.pairwise_cons.2 ⟨fun z hz => ?_, insU_pair x r h1.2⟩
      rcases (insU_mem x z r).1 hz with e | h2
      · rw [e]; exact hy
      · exact h1.1 z h2
    · split
      · exact h
      · refine List.pairwise_cons.2 ⟨fun z hz => ?_, h⟩
        rcases List.mem_cons.1 hz with e | h2
        · rw [e]; omega
        · have := h1.1 z h2; omega
theorem sortU_pair (l : List Int) : (sortU l).Pairwise (· < ·) := by
  have key : ∀ (l o : List Int), o.Pairwise (· < ·) → (l.foldl (fun o x => insU x o) o).Pairwise (· < ·) := by
    intro l
    induction l with
    | nil => intro o h; exact h
    | cons x r ih => intro o h; exact ih _ (insU_pair x o h)
  exact key l [] List.Pairwise.nil

/-- Who goes on to t, among the first i places and the first k edges of the next one. -/
def predG (g : List (List Int)) (i k t : Nat) : List Int :=
  ((List.range i).filter fun f => decide ((t : Int) ∈ g.getD f [])).map (fun f : Nat => (f : Int)) ++ (if (t : Int) ∈ (g.getD i []).take k then [(i : Int)] else [])

theorem predG_zero (g : List (List Int)) (t : Nat) : predG g 0 0 t = [] := by simp [predG]

theorem predG_row (g : List (List Int)) (i t : Nat) : predG g i (degW g i) t = predG g (i + 1) 0 t := by
  unfold predG degW
  rw [List.take_length, List.range_succ, List.filter_append, List.map_append]
  simp only [List.take_zero, List.not_mem_nil, if_false, List.append_nil]
  congr 1
  by_cases h : (t : Int) ∈ g.getD i []
  · rw [if_pos h, List.filter_cons_of_pos (by simpa using h)]; rfl
  · rw [if_neg h, List.filter_cons_of_neg (by simpa using h)]; rfl

theorem take_edge (g : List (List Int)) (i k : Nat) (hk : k < degW g i) : (g.getD i []).take (k + 1) = (g.getD i []).take k ++ [edgeW g i k] := by
  unfold edgeW
  unfold degW at hk
  rw [List.take_add_one, List.getElem?_eq_getElem hk]
  generalize g.getD i [] = l at hk ⊢
  simp [List.getD, hk]

theorem predG_other (g : List (List Int)) (i k t : Nat) (hk : k < degW g i) (h : (t : Int) ≠ edgeW g i k) : predG g i (k + 1) t = predG g i k t := by
  unfold predG
  rw [take_edge g i k hk]
  simp [h]

theorem predG_lt (g : List (List Int)) (i k t : Nat) (h : (t : Int) ∉ (g.getD i []).take k) : ∀ x ∈ predG g i k t, x < (i : Int) := by
  unfold predG
  rw [if_neg h, List.append_nil]
  intro x hx
  obtain ⟨f, hf, rfl⟩ := List.mem_map.1 hx
  have := List.mem_range.1 (List.mem_filter.1 hf).1
  omega

theorem predG_same (g : List (List Int)) (i k t : Nat) (hk : k < degW g i) (h : (t : Int) ∈ (g.getD i []).take k) : predG g i (k + 1) t = predG g i k t := by
  unfold predG
  rw [take_edge g i k hk, if_pos h, if_pos (List.mem_append_left _ h)]

theorem predG_last (g : List (List Int)) (i k t : Nat) (h : (t : Int) ∈ (g.getD i []).take k) : 0 < (predG g i k t).length ∧ (predG g i k t).getD ((predG g i k t).length - 1) 0 = (i : Int) := by
  unfold predG
  rw [if_pos h]
  simp [List.getD]

theorem predG_new (g : List (List Int)) (i k t : Nat) (hk : k < degW g i) (ht : (t : Int) = edgeW g i k) (h : (t : Int) ∉ (g.getD i []).take k) :
    predG g i (k + 1) t = predG g i k t ++ [(i : Int)] ∧ (0 < (predG g i k t).length → (predG g i k t).getD ((predG g i k t).length - 1) 0 ≠ (i : Int)) := by
  refine ⟨?_, fun hp e => ?_⟩
  · unfold predG
    rw [take_edge g i k hk, if_neg h, if_pos (by simp [ht])]
    simp
  · have hlt := predG_lt g i k t h
    have hm : (predG g i k t).getD ((predG g i k t).length - 1) 0 ∈ predG g i k t := by
      generalize predG g i k t = l at hp
      simp [List.getD, show l.length - 1 < l.length by omega]
    have := hlt _ hm
    omega

/-- Who goes on to t. -/
def predF (g : List (List Int)) (t : Nat) : List Int := predG g g.length 0 t
theorem predF_eq (g : List (List Int)) (t : Nat) : predF g t = ((List.range g.length).filter fun f => decide ((t : Int) ∈ g.getD f [])).map (fun f : Nat => (f : Int)) := by
  simp [predF, predG]
theorem predF_mem (g : List (List Int)) (t : Nat) (x : Int) : x ∈ predF g t ↔ ∃ f : Nat, f < g.length ∧ (f : Int) = x ∧ (t : Int) ∈ g.getD f [] := by
  rw [predF_eq]
  simp only [List.mem_map, List.mem_filter, List.mem_range, decide_eq_true_eq]
  constructor
  · rintro ⟨f, ⟨h1, h2⟩, rfl⟩; exact ⟨f, h1, rfl, h2⟩
  · rintro ⟨f, h1, rfl, h2⟩; exact ⟨f, ⟨h1, h2⟩, rfl⟩
theorem predG_len (g : List (List Int)) (i k t : Nat) : (predG g i k t).length ≤ i + 1 := by
  unfold predG
  rw [List.length_append, List.length_map]
  have h1 := List.length_filter_le (fun f => decide ((t : Int) ∈ g.getD f [])) (List.range i)
  rw [List.length_range] at h1
  generalize (List.range i).filter (fun f => decide ((t : Int) ∈ g.getD f [])) = q at *
  split <;> simp <;> omega
theorem predG_le (g : List (List Int)) (i k t : Nat) : ∀ x ∈ predG g i k t, 0 ≤ x ∧ x ≤ (i : Int) := by
  intro x hx
  unfold predG at hx
  rcases List.mem_append.1 hx with h | h
  · obtain ⟨f, hf, rfl⟩ := List.mem_map.1 h
    have := List.mem_range.1 (List.mem_filter.1 hf).1
    omega
  · split at h
    · simp at h; omega
    · cases h
theorem predF_rising (g : List (List Int)) (t : Nat) : (predF g t).Pairwise (· < ·) := by
  rw [predF_eq]
  refine List.pairwise_map.2 (List.Pairwise.filter _ ?_)
  exact List.Pairwise.imp (fun h => by omega) List.pairwise_lt_range

/-- The graph turned round. -/
def turnG (g : List (List Int)) : List (List Int) := (List.range g.length).map (predF g)
theorem turnG_len (g : List (List Int)) : (turnG g).length = g.length := by simp [turnG]
theorem turnG_at (g : List (List Int)) {t : Nat} (h : t < g.length) : (turnG g).getD t [] = predF g t := by simp [turnG, List.getD, h]

theorem eq_of_rising : ∀ (l r : List Int), l.Pairwise (· < ·) → r.Pairwise (· < ·) → (∀ z, z ∈ l ↔ z ∈ r) → l = r
  | [], [], _, _, _ => rfl
  | [], y :: r, _, _, h => by have := (h y).2 (by simp); cases this
  | x :: l, [], _, _, h => by have := (h x).1 (by simp); cases this
  | x :: l, y :: r, hl, hr, h => by
    have hl1 := List.pairwise_cons.1 hl
    have hr1 := List.pairwise_cons.1 hr
    have e : x = y := by
      rcases List.mem_cons.1 ((h x).1 (by simp)) with e | h1
      · exact e
      · rcases List.mem_cons.1 ((h y).2 (by simp)) with e | h2
        · exact e.symm
        · have := hl1.1 y h2
          have := hr1.1 x h1
          omega
    subst e
    rw [eq_of_rising l r hl1.2 hr1.2 fun z => ?_]
    constructor
    · intro hz
      rcases List.mem_cons.1 ((h z).1 (by simp [hz])) with e | h1
      · subst e; have := hl1.1 z hz; omega
      · exact h1
    · intro hz
      rcases List.mem_cons.1 ((h z).2 (by simp [hz])) with e | h1
      · subst e; have := hr1.1 z hz; omega
      · exact h1

def inG (g : List (List Int)) (i : Nat) : List Int := (g.getD i []).filter fun x => decide (0 ≤ x ∧ x < (g.length : Int))

theorem turned_twice (g : List (List Int)) {i : Nat} (hi : i < g.length) (r : List Int) (hr : r.Pairwise (· < ·)) (hm : ∀ z, z ∈ r ↔ z ∈ inG g i) : predF (turnG g) i = r := by
  refine eq_of_rising _ _ (predF_rising _ _) hr fun z => ?_
  rw [predF_mem, hm, turnG_len]
  unfold inG
  simp only [List.mem_filter, decide_eq_true_eq]
  constructor
  · rintro ⟨f, hf, rfl, h⟩
    rw [turnG_at g hf, predF_mem] at h
    obtain ⟨f2, _, h2, h3⟩ := h
    obtain rfl : f2 = i := by omega
    exact ⟨h3, by omega⟩
  · rintro ⟨h1, h2, h3⟩
    obtain ⟨f, rfl⟩ : ∃ f : Nat, z = f := ⟨z.toNat, by omega⟩
    refine ⟨f, by omega, rfl, ?_⟩
    rw [turnG_at g (by omega), predF_mem]
    exact ⟨i, hi, rfl, h1⟩

end Go.Proofs.YtchechdcebmoeaaDoor

/-
  Sorted, plainly: each number once, rising.
-/
namespace Go.Proofs.YtchechdcebmoeaaDoor

def insU (x : Int) : List Int → List Int
  | [] => [x]
  | y :: r => if y < x then y :: insU x r else if y = x then y :: r else x :: y :: r

def sortU (l : List Int) : List Int := l.foldl (fun o x => insU x o) []

/-- How many at the head are less. -/
def lessN (x : Int) : List Int → Nat
  | [] => 0
  | y :: r => if y < x then lessN x r + 1 else 0

theorem lessN_le (x : Int) : ∀ l, lessN x l ≤ l.length
  | [] => Nat.le_refl _
  | y :: r => by
    unfold lessN
    have := lessN_le x r
    split <;> simp <;> omega

theorem lessN_lt (x : Int) : ∀ (l : List Int) (k : Nat), k < lessN x l → l.getD k 0 < x
  | [], k, h => by simp [lessN] at h
  | y :: r, 0, h => by
    unfold lessN at h
    split at h
    · simpa
    · omega
  | y :: r, k + 1, h => by
    unfold lessN at h
    split at h
    · have := lessN_lt x r k (by omega); simpa using this
    · omega

theorem lessN_at (x : Int) : ∀ (l : List Int), lessN x l < l.length → ¬ l.getD (lessN x l) 0 < x
  | [], h => by simp [lessN] at h
  | y :: r, h => by
    unfold lessN at h ⊢
    split
    · rename_i hy
      rw [if_pos hy] at h
      have := lessN_at x r (by simpa using h)
      simpa using this
    · rename_i hy
      simpa using hy

theorem insU_eq (x : Int) : ∀ (l : List Int), lessN x l < l.length → l.getD (lessN x l) 0 = x → insU x l = l
  | [], h, _ => by simp [lessN] at h
  | y :: r, h, he => by
    unfold lessN at h he
    unfold insU
    split
    · rename_i hy
      rw [if_pos hy] at h he
      rw [insU_eq x r (by simpa using h) (by simpa using he)]
    · rename_i hy
      rw [if_neg hy] at he
      rw [if_pos (by simpa using he)]

theorem insU_ne (x : Int) : ∀ (l : List Int), ¬ (lessN x l < l.length ∧ l.getD (lessN x l) 0 = x) → insU x l = l.take (lessN x l) ++ x :: l.drop (lessN x l)
  | [], _ => rfl
  | y :: r, h => by
    unfold lessN at h
    unfold insU lessN
    split
    · rename_i hy
      rw [if_pos hy] at h
      rw [insU_ne x r (by simpa using h)]
      simp
    · rename_i hy
      rw [if_neg hy] at h
      rw [if_neg (by simpa using h)]
      simp

theorem insU_len (x : Int) : ∀ l, (insU x l).length ≤ l.length + 1
  | [] => by simp [insU]
  | y :: r => by
    unfold insU
    have := insU_len x r
    split
    · simp; omega
    · split <;> simp

theorem insU_mem (x z : Int) : ∀ l, z ∈ insU x l ↔ z = x ∨ z ∈ l
  | [] => by simp [insU]
  | y :: r => by
    unfold insU
    have := insU_mem x z r
    split
    · simp only [List.mem_cons, this]
      constructor
      · rintro (h | h | h) <;> simp [h]
      · rintro (h | h | h) <;> simp [h]
    · split
      · rename_i hy
        subst hy
        simp
      · simp

theorem sortU_snoc (l : List Int) (x : Int) : sortU (l ++ [x]) = insU x (sortU l) := by simp [sortU, List.foldl_append]

theorem sortU_len (l : List Int) : (sortU l).length ≤ l.length := by
  have key : ∀ (l o : List Int), (l.foldl (fun o x => insU x o) o).length ≤ o.length + l.length := by
    intro l
    induction l with
    | nil => intro o; simp
    | cons x r ih =>
      intro o
      rw [List.foldl_cons]
      have h1 := ih (insU x o)
      have h2 := insU_len x o
      simp only [List.length_cons]
      omega
  have := key l []
  simpa [sortU] using this

theorem sortU_mem (z : Int) (l : List Int) : z ∈ sortU l ↔ z ∈ l := by
  have key : ∀ (l o : List Int), z ∈ l.foldl (fun o x => insU x o) o ↔ z ∈ o ∨ z ∈ l := by
    intro l
    induction l with
    | nil => intro o; simp
    | cons x r ih =>
      intro o
      rw [List.foldl_cons, ih, insU_mem]
      simp only [List.mem_cons]
      constructor
      · rintro ((h | h) | h) <;> simp [h]
      · rintro (h | h | h) <;> simp [h]
  have := key l []
  simpa [sortU] using this

/-- A number above all goes to the end. -/
theorem insU_top (x : Int) : ∀ l : List Int, (∀ y ∈ l, y < x) → insU x l = l ++ [x]
  | [], _ => rfl
  | y :: r, h => by
    unfold insU
    rw [if_pos (h y (by simp)), insU_top x r (fun z hz => h z (by simp [hz]))]
    rfl

theorem sortU_rising (l : List Int) (h : l.Pairwise (· < ·)) : sortU l = l := by
  have key : ∀ (r o : List Int), (o ++ r).Pairwise (· < ·) → r.foldl (fun o x => insU x o) o = o ++ r := by
    intro r
    induction r with
    | nil => intro o _; simp
    | cons x r ih =>
      intro o ho
      rw [List.foldl_cons, insU_top x o (fun y hy => (List.pairwise_append.1 ho).2.2 y hy x (by simp))]
      rw [ih _ (by simpa using ho)]
      simp
  simpa [sortU] using key l [] (by simpa using h)

end Go.Proofs.YtchechdcebmoeaaDoor

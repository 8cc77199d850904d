/-
  What can be reached, plainly: met in turn, each once.
-/
namespace Go.Proofs.YtflbjfcmnopfaaaDoor

def meetF (is : Int → Bool) (out : List Int) (r : Int) : List Int := if is r && !out.contains r then out ++ [r] else out

def outN (is : Int → Bool) (refs : Int → List Int) (roots : List Int) : Nat → List Int
  | 0 => roots.foldl (meetF is) []
  | k + 1 => (refs ((outN is refs roots k).getD k 0)).foldl (meetF is) (outN is refs roots k)

/-- Each once, and each an object. -/
def Neat (is : Int → Bool) (out : List Int) : Prop := out.Nodup ∧ ∀ r ∈ out, is r = true

theorem neat_nil (is : Int → Bool) : Neat is [] := ⟨List.nodup_nil, fun r h => by cases h⟩

theorem neat_meet {is : Int → Bool} {out : List Int} (h : Neat is out) (r : Int) : Neat is (meetF is out r) := by
  unfold meetF
  split
  · rename_i hc
    simp at hc
    refine ⟨?_, fun x hx => ?_⟩
    · rw [List.nodup_append]
      refine ⟨h.1, by simp, ?_⟩
      intro a ha b hb
      simp at hb
      subst hb
      intro e
      subst e
      exact hc.2 ha
    · rcases List.mem_append.1 hx with hx | hx
      · exact h.2 x hx
      · simp at hx; subst hx; exact hc.1
  · exact h

theorem neat_fold {is : Int → Bool} : ∀ (l : List Int) {out : List Int}, Neat is out → Neat is (l.foldl (meetF is) out)
  | [], _, h => h
  | x :: r, _, h => neat_fold r (neat_meet h x)

theorem neat_outN (is : Int → Bool) (refs : Int → List Int) (roots : List Int) : ∀ k, Neat is (outN is refs roots k)
  | 0 => neat_fold roots (neat_nil is)
  | k + 1 => neat_fold _ (neat_outN is refs roots k)

theorem nodup_le : ∀ (n : Nat) (l : List Int), l.Nodup → (∀ x ∈ l, 1 ≤ x ∧ x ≤ n) → l.length ≤ n
  | 0, l, _, h => by
    cases l with
    | nil => exact Nat.le_refl _
    | cons x r => have := h x (by simp); omega
  | n + 1, l, hn, h => by
    have h1 : (l.filter (fun x => x != ((n + 1 : Nat) : Int))).length ≤ n := by
      refine nodup_le n _ (hn.filter _) fun x hx => ?_
      rw [List.mem_filter] at hx
      have := h x hx.1
      have h2 : x ≠ ((n + 1 : Nat) : Int) := by simpa using hx.2
      omega
    have h2 : ∀ l : List Int, l.Nodup → l.length ≤ (l.filter (fun x => x != ((n + 1 : Nat) : Int))).length + 1 := by
      intro l
      induction l with
      | nil => intro _; simp
      | cons x r ih =>
        intro hx
        rw [List.nodup_cons] at hx
        by_cases e : x = ((n + 1 : Nat) : Int)
        · have : r.filter (fun x => x != ((n + 1 : Nat) : Int)) = r := by
            rw [List.filter_eq_self]
            intro y hy
            simp
            intro e2
            exact hx.1 (by rw [e, ← show y = ((n + 1 : Nat) : Int) by omega]; exact hy)
          simp only [List.filter_cons, e, bne_self_eq_false]
          rw [if_neg (by simp), this]
          simp
        · have := ih hx.2
          simp only [List.filter_cons]
          rw [if_pos (by simpa using e)]
          simp only [List.length_cons]
          omega
    have := h2 l hn
    omega

theorem neat_len {is : Int → Bool} {out : List Int} {n : Nat} (h : Neat is out) (hn : ∀ r, is r = true → 1 ≤ r ∧ r ≤ n) : out.length ≤ n := nodup_le n out h.1 fun x hx => hn x (h.2 x hx)

theorem meet_len (is : Int → Bool) (out : List Int) (r : Int) : out.length ≤ (meetF is out r).length := by
  unfold meetF; split <;> simp

/-- What is told of a reference: its number. -/
def toldF (out : List Int) (r : Int) : Int := if out.contains r then (out.idxOf r : Int) else -1

/-- The numbers of the first k. -/
def numS (out : List Int) (k : Nat) (x : Int) : Option Int := if (out.take k).contains x then some (out.idxOf x : Int) else none

theorem numS_zero (out : List Int) (x : Int) : numS out 0 x = none := by simp [numS]

theorem numS_all (out : List Int) (x : Int) : numS out out.length x = if out.contains x then some (out.idxOf x : Int) else none := by simp [numS]

theorem idxOf_getD : ∀ (out : List Int) (k : Nat), out.Nodup → k < out.length → out.idxOf (out.getD k 0) = k
  | x :: r, 0, _, _ => by simp
  | x :: r, k + 1, hn, hk => by
    rw [List.nodup_cons] at hn
    have hk' : k < r.length := by simpa using hk
    have ih := idxOf_getD r k hn.2 hk'
    have hmem : r.getD k 0 ∈ r := by simp [List.getD, hk']
    have hne : x ≠ r.getD k 0 := fun e => hn.1 (e ▸ hmem)
    show (x :: r).idxOf (r.getD k 0) = k + 1
    rw [List.idxOf_cons, ih]
    have hf : (x == r.getD k 0) = false := by simpa using hne
    rw [hf]
    rfl

theorem numS_next (out : List Int) (k : Nat) (hn : out.Nodup) (hk : k < out.length) (x : Int) : (if x = out.getD k 0 then some ((k : Nat) : Int) else numS out k x) = numS out (k + 1) x := by
  have e : out.take (k + 1) = out.take k ++ [out.getD k 0] := by rw [List.take_add_one]; simp [List.getD, hk]
  unfold numS
  rw [e]
  by_cases hx : x = out.getD k 0
  · subst hx
    rw [if_pos rfl, if_pos (by simp), idxOf_getD out k hn hk]
  · rw [if_neg hx]
    have : (out.take k ++ [out.getD k 0]).contains x = (out.take k).contains x := by
      rw [Bool.eq_iff_iff]
      simp only [List.contains_eq_mem, List.mem_append, List.mem_singleton, decide_eq_true_eq]
      constructor
      · rintro (h | h)
        · exact h
        · exact absurd h hx
      · exact fun h => .inl h
    rw [this]

end Go.Proofs.YtflbjfcmnopfaaaDoor

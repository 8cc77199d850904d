/-
  HeapRing, plainly: what is reached from a ring's object is the ring, from it on.
-/
import Derived.Test.YtjffbojgdemooaaDoorRchC
namespace Go.Proofs.YtjffbojgdemooaaDoor
open Go.RowKit

def rgL (P : Nat → Nat) (n s k : Nat) : List Int := (List.range k).map fun (t : Nat) => ((P ((s + t) % n) : Nat) : Int) + 1
theorem rgL_len (P : Nat → Nat) (n s k : Nat) : (rgL P n s k).length = k := by simp [rgL]
theorem rgL_next (P : Nat → Nat) (n s k : Nat) : rgL P n s (k + 1) = rgL P n s k ++ [((P ((s + k) % n) : Nat) : Int) + 1] := by simp [rgL, List.range_succ]
theorem rgL_at (P : Nat → Nat) (n s k t : Nat) (h : t < k) : (rgL P n s k).getD t 0 = ((P ((s + t) % n) : Nat) : Int) + 1 := by simp [rgL, List.getD, h]
theorem rgL_mem {P : Nat → Nat} {n s k : Nat} {x : Int} : x ∈ rgL P n s k ↔ ∃ t, t < k ∧ x = ((P ((s + t) % n) : Nat) : Int) + 1 := by
  simp [rgL]
  constructor
  · rintro ⟨t, ht, rfl⟩; exact ⟨t, ht, rfl⟩
  · rintro ⟨t, ht, rfl⟩; exact ⟨t, ht, rfl⟩

theorem mod_ne {n s a b : Nat} (hab : a < b) (hbn : b < a + n) : (s + a) % n ≠ (s + b) % n := by
  intro e
  have hn : 0 < n := by omega
  have h1 := Nat.div_add_mod (s + a) n
  have h2 := Nat.div_add_mod (s + b) n
  rw [e] at h1
  have h3 : n * ((s + b) / n) = n * ((s + a) / n) + (b - a) := by omega
  have h4 : (s + a) / n ≤ (s + b) / n := Nat.div_le_div_right (by omega)
  obtain ⟨d, hd⟩ : ∃ d, (s + b) / n = (s + a) / n + d := ⟨_, (Nat.add_sub_of_le h4).symm⟩
  rw [hd, Nat.mul_add] at h3
  have h5 : n * d = b - a := by omega
  cases d with
  | zero => simp at h5; omega
  | succ d =>
    rw [Nat.mul_succ] at h5
    have := Nat.zero_le (n * d)
    omega

section
variable {P : Nat → Nat} {n s : Nat} {is : Int → Bool} {refs : Int → List Int}

theorem meet_in {out : List Int} {r : Int} (h : r ∈ out) : meetF is out r = out := by
  unfold meetF
  rw [if_neg]
  simp [h]
theorem meet_no {out : List Int} {r : Int} (h : is r = false) : meetF is out r = out := by
  unfold meetF
  rw [if_neg]
  simp [h]
theorem meet_new {out : List Int} {r : Int} (h : is r = true) (hn : r ∉ out) : meetF is out r = out ++ [r] := by
  unfold meetF
  rw [if_pos]
  simp [h, hn]
theorem fold_in : ∀ (l : List Int) {out : List Int}, (∀ r ∈ l, r ∈ out) → l.foldl (meetF is) out = out
  | [], _, _ => rfl
  | r :: l, out, h => by
    rw [List.foldl_cons, meet_in (h r (by simp))]
    exact fold_in l fun q hq => h q (by simp [hq])

/-- All that is reached. -/
theorem ring_out (hn : 0 < n) (hs : s < n) (hP : ∀ a b, a < n → b < n → P a = P b → a = b) (his : ∀ a, a < n → is (((P a : Nat) : Int) + 1) = true) (h0 : is 0 = false)
    (hrefs : ∀ a, a < n → refs (((P a : Nat) : Int) + 1) = [((P ((a + 1) % n) : Nat) : Int) + 1]) (h00 : ∀ x ∈ refs 0, ∃ a, a < n ∧ x = ((P a : Nat) : Int) + 1) :
    ∀ k, outN is refs [((P s : Nat) : Int) + 1, 0, ((P s : Nat) : Int) + 1] k = rgL P n s (min (k + 1) n)
  | 0 => by
    have e1 : min (0 + 1) n = 1 := by omega
    rw [e1, rgL_next]
    show meetF is (meetF is (meetF is [] (((P s : Nat) : Int) + 1)) 0) (((P s : Nat) : Int) + 1) = _
    rw [meet_new (out := []) (his s hs) (List.not_mem_nil), meet_no h0, meet_in (List.mem_append_right _ (List.mem_singleton.2 rfl))]
    simp [rgL, Nat.mod_eq_of_lt hs]
  | k + 1 => by
    show (refs ((outN is refs _ k).getD k 0)).foldl (meetF is) (outN is refs _ k) = _
    rw [ring_out hn hs hP his h0 hrefs h00 k]
    by_cases hk : k < n
    · have hm : min (k + 1) n = k + 1 := by omega
      rw [hm, rgL_at P n s (k + 1) k (by omega), hrefs _ (Nat.mod_lt _ hn)]
      have hmm : ((s + k) % n + 1) % n = (s + (k + 1)) % n := by rw [Nat.mod_add_mod]; rfl
      rw [hmm]
      show meetF is (rgL P n s (k + 1)) _ = _
      by_cases hk1 : k + 1 < n
      · have hm2 : min (k + 1 + 1) n = k + 1 + 1 := by omega
        rw [hm2, rgL_next P n s (k + 1)]
        refine meet_new (his _ (Nat.mod_lt _ hn)) fun hx => ?_
        obtain ⟨t, ht, e⟩ := rgL_mem.1 hx
        have h2 : P ((s + (k + 1)) % n) = P ((s + t) % n) := by omega
        exact mod_ne (n := n) (s := s) ht (by omega) (hP _ _ (Nat.mod_lt _ hn) (Nat.mod_lt _ hn) h2).symm
      · have hkn : k + 1 = n := by omega
        have hm2 : min (k + 1 + 1) n = k + 1 := by omega
        rw [hm2]
        refine meet_in (rgL_mem.2 ⟨0, by omega, ?_⟩)
        rw [hkn, Nat.add_mod_right, Nat.add_zero]
    · have hm : min (k + 1) n = n := by omega
      have hm2 : min (k + 1 + 1) n = n := by omega
      rw [hm, hm2]
      have e : (rgL P n s n).getD k 0 = 0 := by simp [rgL, List.getD, show ¬ k < n from hk]
      rw [e]
      refine fold_in _ fun x hx => ?_
      obtain ⟨a, ha, rfl⟩ := h00 x hx
      refine rgL_mem.2 ⟨(a + n - s) % n, Nat.mod_lt _ hn, ?_⟩
      have : (s + (a + n - s) % n) % n = a := by
        rw [Nat.add_mod_mod, show s + (a + n - s) = a + n by omega, Nat.add_mod_right, Nat.mod_eq_of_lt ha]
      rw [this]

/-- Where the walk ends all are told. -/
theorem ring_end (hn : 0 < n) (hs : s < n) (hP : ∀ a b, a < n → b < n → P a = P b → a = b) (his : ∀ a, a < n → is (((P a : Nat) : Int) + 1) = true) (h0 : is 0 = false)
    (hrefs : ∀ a, a < n → refs (((P a : Nat) : Int) + 1) = [((P ((a + 1) % n) : Nat) : Int) + 1]) (h00 : ∀ x ∈ refs 0, ∃ a, a < n ∧ x = ((P a : Nat) : Int) + 1)
    {k : Nat} (hk : (outN is refs [((P s : Nat) : Int) + 1, 0, ((P s : Nat) : Int) + 1] k).length = k) : k = n ∧ outN is refs [((P s : Nat) : Int) + 1, 0, ((P s : Nat) : Int) + 1] k = rgL P n s n := by
  have e := ring_out hn hs hP his h0 hrefs h00 k
  rw [e, rgL_len] at hk
  have hkn : k = n := by omega
  subst hkn
  refine ⟨rfl, ?_⟩
  rw [e, show min (k + 1) k = k by omega]
end

end Go.Proofs.YtjffbojgdemooaaDoor

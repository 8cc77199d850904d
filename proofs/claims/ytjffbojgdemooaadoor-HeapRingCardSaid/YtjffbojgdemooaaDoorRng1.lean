/-
  HeapRing, plainly: what the objects' words are.
-/
import Derived.Test.YtjffbojgdemooaaDoorRng0
import Derived.Test.YtjffbojgdemooaaDoorHpM
namespace Go.Proofs.YtjffbojgdemooaaDoor
open Go.RowKit

/-- Where object i lies: a third of them in the nursery. -/
def rgP (i : Nat) : Nat := if i % 3 = 0 then 4 * (i / 3) else 100 + 4 * i
theorem rgP_mod (i : Nat) : rgP i % 4 = 0 := by unfold rgP; split <;> omega
theorem rgP_inj {a b : Nat} (ha : a < 41) (hb : b < 41) (h : rgP a = rgP b) : a = b := by
  unfold rgP at h
  split at h <;> split at h <;> omega
theorem rgP_le {i : Nat} (h : i < 41) : rgP i + 4 ≤ 400 := by unfold rgP; split <;> omega
theorem rgP_young {i : Nat} (h : i < 41) : rgP i < 56 ↔ i % 3 = 0 := by unfold rgP; split <;> omega

def mkW : Nat → Nat → Int
  | 0 => fun _ => 0
  | i + 1 => if i % 3 = 0 then laidW (laidW (mkW i) 0 (100 + 4 * i) 2) 0 (4 * (i / 3)) 2 else laidW (mkW i) 0 (100 + 4 * i) 2
def mkB : Nat → Nat → Bool
  | 0 => fun _ => false
  | i + 1 => if i % 3 = 0 then laidB (laidB (mkB i) (100 + 4 * i)) (4 * (i / 3)) else laidB (mkB i) (100 + 4 * i)

/-- Heads lie at fours; between them nothing yet. -/
structure Heads (W : Nat → Int) (B : Nat → Bool) : Prop where
  four : ∀ p, B p = true → p % 4 = 0
  head : ∀ p, B p = true → W p = word 0 2
  rest : ∀ p, B p = false → W p = 0

theorem heads_laid {W : Nat → Int} {B : Nat → Bool} (h : Heads W B) (q : Nat) (hq : q % 4 = 0) : Heads (laidW W 0 q 2) (laidB B q) := by
  refine ⟨fun p hp => ?_, fun p hp => ?_, fun p hp => ?_⟩
  · unfold laidB at hp
    split at hp
    · omega
    · exact h.four p hp
  · unfold laidB at hp
    unfold laidW
    split at hp
    · rename_i e
      rw [if_pos e]
      rfl
    · rename_i e
      have := h.four p hp
      rw [if_neg e, if_neg (by omega)]
      exact h.head p hp
  · unfold laidB at hp
    unfold laidW
    split at hp
    · cases hp
    · rename_i e
      rw [if_neg e]
      split
      · rfl
      · exact h.rest p hp

theorem heads_mk : ∀ i, Heads (mkW i) (mkB i)
  | 0 => ⟨fun _ h => (by cases h), fun _ h => (by cases h), fun _ _ => rfl⟩
  | i + 1 => by
    have h1 := heads_laid (heads_mk i) (100 + 4 * i) (by omega)
    unfold mkW mkB
    split
    · exact heads_laid h1 (4 * (i / 3)) (by omega)
    · exact h1

theorem laidB_up {B : Nat → Bool} {q p : Nat} (h : B p = true) : laidB B q p = true := by
  unfold laidB
  split
  · rfl
  · exact h
theorem laidB_at (B : Nat → Bool) (q : Nat) : laidB B q q = true := by unfold laidB; rw [if_pos rfl]

theorem mkB_at : ∀ (i j : Nat), j < i → mkB i (rgP j) = true
  | 0, _, h => absurd h (Nat.not_lt_zero _)
  | i + 1, j, h => by
    unfold mkB
    by_cases e : j = i
    · subst e
      unfold rgP
      by_cases h3 : j % 3 = 0
      · rw [if_pos h3, if_pos h3]; exact laidB_at _ _
      · rw [if_neg h3, if_neg h3]; exact laidB_at _ _
    · have ih := mkB_at i j (by omega)
      split
      · exact laidB_up (laidB_up ih)
      · exact laidB_up ih

theorem mkB_lt : ∀ (i : Nat), i ≤ 40 → ∀ p, mkB i p = true → p + 4 ≤ 400
  | 0, _, _, h => by cases h
  | i + 1, hi, p, h => by
    have ih := mkB_lt i (by omega) p
    unfold mkB at h
    split at h
    · unfold laidB at h
      split at h
      · omega
      · split at h
        · omega
        · exact ih h
    · unfold laidB at h
      split at h
      · omega
      · exact ih h

/-- Whether the k-th object is marked: an old one that gets a young one. -/
def marks (n k : Nat) : Bool := decide (¬ k % 3 = 0) && decide (((k + 1) % n) % 3 = 0)

def ptW (v : Int) (n : Nat) : Nat → Nat → Int
  | 0 => mkW n
  | k + 1 =>
    let W1 := putW (ptW v n k) (rgP k + 2 + 0) (IntKind.i64.wrap (v + k))
    let W2 := if marks n k = true then putW W1 (rgP k + 1) 1 else W1
    putW W2 (rgP k + 2 + 1) (((rgP ((k + 1) % n) : Nat) : Int) + 1)

theorem putW_at (W : Nat → Int) (j : Nat) (v : Int) : putW W j v j = v := by unfold putW; rw [if_pos rfl]
theorem putW_other (W : Nat → Int) {j i : Nat} (v : Int) (h : i ≠ j) : putW W j v i = W i := by unfold putW; rw [if_neg h]

/-- Away from the object's own three words a round changes nothing. -/
theorem ptW_away (v : Int) (n k : Nat) {i : Nat} (h1 : i ≠ rgP k + 1) (h2 : i ≠ rgP k + 2) (h3 : i ≠ rgP k + 3) : ptW v n (k + 1) i = ptW v n k i := by
  show putW (if marks n k = true then putW (putW (ptW v n k) (rgP k + 2 + 0) (IntKind.i64.wrap (v + k))) (rgP k + 1) 1 else putW (ptW v n k) (rgP k + 2 + 0) (IntKind.i64.wrap (v + k))) (rgP k + 2 + 1) _ i = _
  rw [putW_other _ _ (by omega)]
  split
  · rw [putW_other _ _ h1, putW_other _ _ (by omega)]
  · rw [putW_other _ _ (by omega)]

theorem ptW_head (v : Int) (n : Nat) : ∀ (k p : Nat), p % 4 = 0 → ptW v n k p = mkW n p
  | 0, _, _ => rfl
  | k + 1, p, h => by
    have := rgP_mod k
    rw [ptW_away v n k (by omega) (by omega) (by omega)]
    exact ptW_head v n k p h

/-- The words of an object that no round has come to. -/
theorem ptW_before (v : Int) (n : Nat) : ∀ (k j d : Nat), k ≤ j → j < 41 → d < 4 → ptW v n k (rgP j + d) = mkW n (rgP j + d)
  | 0, _, _, _, _, _ => rfl
  | k + 1, j, d, hk, hj, hd => by
    have e : rgP k ≠ rgP j := fun e => by have := rgP_inj (show k < 41 by omega) hj e; omega
    have h1 := rgP_mod k
    have h2 := rgP_mod j
    rw [ptW_away v n k (by omega) (by omega) (by omega)]
    exact ptW_before v n k j d (by omega) hj hd

/-- The values of an object that a round has come to. -/
theorem ptW_vals (v : Int) (n : Nat) : ∀ (k j : Nat), j < k → k ≤ 40 → ptW v n k (rgP j + 2) = IntKind.i64.wrap (v + j) ∧ ptW v n k (rgP j + 3) = ((rgP ((j + 1) % n) : Nat) : Int) + 1
  | 0, _, h, _ => absurd h (Nat.not_lt_zero _)
  | k + 1, j, h, hk => by
    by_cases e : j = k
    · subst e
      constructor
      · show putW (if marks n j = true then putW (putW (ptW v n j) (rgP j + 2 + 0) (IntKind.i64.wrap (v + j))) (rgP j + 1) 1 else putW (ptW v n j) (rgP j + 2 + 0) (IntKind.i64.wrap (v + j))) (rgP j + 2 + 1) _ (rgP j + 2) = _
        rw [putW_other _ _ (by omega)]
        split
        · rw [putW_other _ _ (by omega)]
          exact putW_at _ _ _
        · exact putW_at _ _ _
      · exact putW_at _ _ _
    · have hr : rgP k ≠ rgP j := fun q => by have := rgP_inj (show k < 41 by omega) (show j < 41 by omega) q; omega
      have h1 := rgP_mod k
      have h2 := rgP_mod j
      rw [ptW_away v n k (by omega) (by omega) (by omega), ptW_away v n k (by omega) (by omega) (by omega)]
      exact ptW_vals v n k j (by omega) (by omega)

/-- All words are integers. -/
theorem ptW_wf (v : Int) (n : Nat) : ∀ (k : Nat), k ≤ 40 → ∀ i, (Lit.int .i64 (ptW v n k i)).wf = true
  | 0, _, i => by
    show (Lit.int .i64 (mkW n i)).wf = true
    cases hb : mkB n i with
    | true =>
      rw [(heads_mk n).head i hb]
      have hw : word 0 2 = 4194306 := by decide
      rw [hw]
      decide
    | false => rw [(heads_mk n).rest i hb]; decide
  | k + 1, hk, i => by
    have ih := ptW_wf v n k (by omega)
    have hput : ∀ (W : Nat → Int) (j : Nat) (x : Int), (∀ i, (Lit.int .i64 (W i)).wf = true) → (Lit.int .i64 x).wf = true → ∀ i, (Lit.int .i64 (putW W j x i)).wf = true := fun W j x hW hx i => by
      unfold putW
      split
      · exact hx
      · exact hW i
    have h1 := hput (ptW v n k) (rgP k + 2 + 0) (IntKind.i64.wrap (v + k)) ih (by
      rw [IntKind.wrap_i64]
      refine wf64 ?_ ?_ <;> omega)
    have hm : (k + 1) % n ≤ k + 1 := Nat.mod_le _ _
    have hp : rgP ((k + 1) % n) ≤ 100 + 4 * ((k + 1) % n) := by unfold rgP; split <;> omega
    refine hput _ _ _ ?_ (wf64 (by omega) (by omega)) i
    intro i
    split
    · exact hput _ _ _ h1 (by decide) i
    · exact h1 i

end Go.Proofs.YtjffbojgdemooaaDoor

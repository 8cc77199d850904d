/-
  flow: a row of places with ways back, plainly.
-/
import Derived.Test.YtchechdcebmoeaaDoorFwL
namespace Go.Proofs.YtchechdcebmoeaaDoor
open Go.RowKit

/-- A row of places, some with a way back. -/
structure ChnW (n : Nat) (t : Nat → Option Nat) (g : List (List Int)) : Prop where
  len : g.length = n
  pos : 0 < n
  row : ∀ i, i < n → g.getD i [] = (if i + 1 < n then [((i + 1 : Nat) : Int)] else []) ++ (match t i with | some x => [(x : Int)] | none => [])
  back : ∀ i x, t i = some x → x ≤ i

def chB (n k : Nat) : Nat := if k + 1 < n then 1 else 0
def chP (k m : Nat) : List (Nat × Nat) := (List.range k).map (fun i => (i, 1)) ++ [(k, m)]
def chO (t : Nat → Option Nat) (k : Nat) : List (Nat × Nat) := match t k with | some x => [(k, x)] | none => []
/-- The places from the last one down to k. -/
def chL (n k : Nat) : List Nat := (List.range (n - k)).map fun i => n - 1 - i
def chE (t : Nat → Option Nat) (n k : Nat) : List (Nat × Nat) := (chL n k).flatMap (chO t)

theorem chL_next {n k : Nat} (h : k < n) : chL n k = chL n (k + 1) ++ [k] := by
  unfold chL
  rw [show n - k = (n - (k + 1)) + 1 by omega, List.range_succ, List.map_append]
  simp
  omega
theorem chE_next {t : Nat → Option Nat} {n k : Nat} (h : k < n) : chE t n k = chE t n (k + 1) ++ chO t k := by
  unfold chE
  rw [chL_next h, List.flatMap_append]
  simp

theorem chP_last (k m : Nat) : (chP k m).getLast? = some (k, m) := by simp [chP]
theorem chP_drop (k m : Nat) : (chP k m).dropLast = (List.range k).map (fun i => (i, 1)) := by simp [chP]
theorem chP_below (k m : Nat) : (chP (k + 1) m).dropLast = chP k 1 := by
  rw [chP_drop, List.range_succ]
  simp [chP]

structure ChA (n : Nat) (s : Wk) (k : Nat) : Prop where
  lt : k + 1 < n
  st : ∀ v, s.st v = if v ≤ k then 1 else 0
  left : s.left = []
  loops : s.loops = []
  path : s.path = chP k 0
structure ChR (n : Nat) (t : Nat → Option Nat) (s : Wk) (k : Nat) : Prop where
  lt : k < n
  st : ∀ v, s.st v = if v ≤ k then 1 else if v < n then 2 else 0
  left : s.left = chL n (k + 1)
  rest : (s.loops = chE t n (k + 1) ∧ s.path = chP k (chB n k)) ∨ (t k ≠ none ∧ s.loops = chE t n k ∧ s.path = chP k (chB n k + 1))
structure ChD (n : Nat) (t : Nat → Option Nat) (s : Wk) : Prop where
  left : s.left = chL n 0
  loops : s.loops = chE t n 0
  path : s.path = []

def ChI (n : Nat) (t : Nat → Option Nat) (s : Wk) : Prop := (∃ k, ChA n s k) ∨ (∃ k, ChR n t s k) ∨ ChD n t s

theorem ChnW.deg {n : Nat} {t : Nat → Option Nat} {g : List (List Int)} (h : ChnW n t g) {i : Nat} (hi : i < n) : degW g i = chB n i + (if t i = none then 0 else 1) := by
  unfold degW chB
  rw [h.row i hi]
  cases ht : t i <;> split <;> simp
theorem ChnW.on {n : Nat} {t : Nat → Option Nat} {g : List (List Int)} (h : ChnW n t g) {i : Nat} (hi : i + 1 < n) : edgeW g i 0 = ((i + 1 : Nat) : Int) := by
  unfold edgeW
  rw [h.row i (by omega), if_pos hi]
  simp
theorem ChnW.to {n : Nat} {t : Nat → Option Nat} {g : List (List Int)} (h : ChnW n t g) {i x : Nat} (hi : i < n) (hx : t i = some x) : edgeW g i (chB n i) = (x : Int) := by
  unfold edgeW chB
  rw [h.row i hi, hx]
  split <;> simp

theorem leave_step {n : Nat} {t : Nat → Option Nat} {s : Wk} {k m : Nat} (hlt : k < n) (hst : ∀ v, s.st v = if v ≤ k then 1 else if v < n then 2 else 0) (hl : s.left = chL n (k + 1)) (ho : s.loops = chE t n k) (hp : s.path = chP k m) :
    ChI n t ⟨setN s.st k 2, s.left ++ [k], s.loops, s.path.dropLast⟩ := by
  have hleft : s.left ++ [k] = chL n k := by rw [hl, chL_next hlt]
  cases k with
  | zero => exact .inr (.inr ⟨hleft, ho, by show s.path.dropLast = []; rw [hp, chP_drop]; rfl⟩)
  | succ k =>
    refine .inr (.inl ⟨k, ⟨by omega, fun v => ?_, hleft, .inl ⟨ho, ?_⟩⟩⟩)
    · show setN s.st (k + 1) 2 v = _
      by_cases e : v = k + 1
      · subst e; rw [setN_same, if_neg (by omega), if_pos hlt]
      · rw [setN_other _ _ e, hst]
        by_cases e2 : v ≤ k
        · rw [if_pos e2, if_pos (by omega)]
        · rw [if_neg e2, if_neg (by omega)]
    · show s.path.dropLast = _
      rw [hp, chP_below, chB, if_pos (by omega)]

theorem ChI.step {n : Nat} {t : Nat → Option Nat} {g : List (List Int)} (hc : ChnW n t g) {s : Wk} (h : ChI n t s) {v k : Nat} (hp : s.path.getLast? = some (v, k)) : ChI n t (stepW g s v k) := by
  rcases h with ⟨j, h⟩ | ⟨j, h⟩ | h
  · rw [h.path, chP_last] at hp
    obtain ⟨rfl, rfl⟩ : j = v ∧ 0 = k := by simpa using hp
    have hj := h.lt
    have hd := hc.deg (i := j) (by omega)
    unfold chB at hd
    rw [if_pos hj] at hd
    unfold stepW
    rw [if_neg (by omega), hc.on hj]
    unfold meetW
    rw [if_neg (by rw [hc.len]; omega), Int.toNat_natCast]
    dsimp only
    rw [if_pos (by rw [h.st, if_neg (by omega)])]
    dsimp only
    have hpath : s.path.dropLast ++ [(j, 0 + 1)] ++ [(j + 1, 0)] = chP (j + 1) 0 := by
      rw [h.path, chP_drop]
      unfold chP
      rw [List.range_succ]
      simp
    by_cases hl : j + 1 + 1 < n
    · refine .inl ⟨j + 1, hl, fun v => ?_, h.left, h.loops, hpath⟩
      show setN s.st (j + 1) 1 v = _
      by_cases e : v = j + 1
      · subst e; rw [setN_same, if_pos (by omega)]
      · rw [setN_other _ _ e, h.st]
        by_cases e2 : v ≤ j
        · rw [if_pos e2, if_pos (by omega)]
        · rw [if_neg e2, if_neg (by omega)]
    · refine .inr (.inl ⟨j + 1, by omega, fun v => ?_, ?_, .inl ⟨?_, ?_⟩⟩)
      · show setN s.st (j + 1) 1 v = _
        by_cases e : v = j + 1
        · subst e; rw [setN_same, if_pos (by omega)]
        · rw [setN_other _ _ e, h.st]
          by_cases e2 : v ≤ j
          · rw [if_pos e2, if_pos (by omega)]
          · rw [if_neg e2, if_neg (by omega), if_neg (by omega)]
      · show s.left = _
        rw [h.left, chL, show n - (j + 1 + 1) = 0 by omega]
        rfl
      · show s.loops = _
        rw [h.loops, chE, chL, show n - (j + 1 + 1) = 0 by omega]
        rfl
      · show s.path.dropLast ++ [(j, 0 + 1)] ++ [(j + 1, 0)] = _
        rw [hpath, chB, if_neg (by omega)]
  · have hj := h.lt
    have hd := hc.deg hj
    rcases h.rest with ⟨hl, hpa⟩ | ⟨hne, hl, hpa⟩
    · rw [hpa, chP_last] at hp
      obtain ⟨rfl, rfl⟩ : j = v ∧ chB n j = k := by simpa using hp
      cases ht : t j with
      | none =>
        rw [ht, if_pos rfl] at hd
        unfold stepW
        rw [if_pos (by omega)]
        exact leave_step hj h.st h.left (by rw [hl, chE_next hj, chO, ht]; simp) hpa
      | some x =>
        rw [ht, if_neg (by simp)] at hd
        have hx := hc.back j x ht
        unfold stepW
        rw [if_neg (by omega), hc.to hj ht]
        unfold meetW
        rw [if_neg (by rw [hc.len]; omega), Int.toNat_natCast]
        dsimp only
        rw [if_neg (by rw [h.st, if_pos hx]; omega), if_pos (by rw [h.st, if_pos hx])]
        refine .inr (.inl ⟨j, hj, h.st, h.left, .inr ⟨by rw [ht]; simp, ?_, ?_⟩⟩)
        · show s.loops ++ [(j, x)] = _
          rw [hl, chE_next hj, chO, ht]
        · show s.path.dropLast ++ [(j, chB n j + 1)] = _
          rw [hpa, chP_drop]
          rfl
    · rw [hpa, chP_last] at hp
      obtain ⟨rfl, rfl⟩ : j = v ∧ chB n j + 1 = k := by simpa using hp
      rw [if_neg hne] at hd
      unfold stepW
      rw [if_pos (by omega)]
      exact leave_step hj h.st h.left hl hpa
  · rw [h.path] at hp; cases hp

theorem chain_walk {n : Nat} {t : Nat → Option Nat} {g : List (List Int)} (hc : ChnW n t g) : (walkW g).left = chL n 0 ∧ (walkW g).loops = chE t n 0 := by
  have hpos := hc.pos
  have h0 : 0 < g.length := by rw [hc.len]; exact hpos
  have hend := (walk_bas g h0).2
  have hne : g ≠ [] := fun e => by rw [e] at h0; simp at h0
  have hI : ChI n t (walkW g) := by
    unfold walkW
    rw [if_neg hne]
    refine run_keeps (fun s v k h hp => h.step hc hp) _ _ ?_
    by_cases h1 : 0 + 1 < n
    · refine .inl ⟨0, h1, fun v => ?_, rfl, rfl, rfl⟩
      show setN (fun _ => 0) 0 1 v = _
      unfold setN
      by_cases e : v = 0
      · rw [if_pos e, if_pos (by omega)]
      · rw [if_neg e, if_neg (by omega)]
    · refine .inr (.inl ⟨0, hpos, fun v => ?_, ?_, .inl ⟨?_, ?_⟩⟩)
      · show setN (fun _ => 0) 0 1 v = _
        unfold setN
        by_cases e : v = 0
        · rw [if_pos e, if_pos (by omega)]
        · rw [if_neg e, if_neg (by omega), if_neg (by omega)]
      · show [] = _
        rw [chL, show n - (0 + 1) = 0 by omega]
        rfl
      · show [] = _
        rw [chE, chL, show n - (0 + 1) = 0 by omega]
        rfl
      · show [(0, 0)] = _
        rw [chB, if_neg h1]
        rfl
  rcases hI with ⟨k, h⟩ | ⟨k, h⟩ | h
  · have := h.path; rw [hend] at this; simp [chP] at this
  · rcases h.rest with ⟨_, h2⟩ | ⟨_, _, h2⟩ <;> (rw [hend] at h2; simp [chP] at h2)
  · exact ⟨h.left, h.loops⟩

theorem chL_rev (n : Nat) : (chL n 0).reverse = List.range n := by
  unfold chL
  refine List.ext_getElem (by simp) fun i h1 h2 => ?_
  simp at h1 h2 ⊢
  omega

theorem chE_nodup (t : Nat → Option Nat) (n k : Nat) : (chE t n k).Nodup := by
  unfold chE
  have hn : (chL n k).Nodup := by
    unfold chL
    refine List.pairwise_map.2 ?_
    refine List.Pairwise.imp_of_mem ?_ List.nodup_range
    intro a b ha hb hab
    simp at ha hb
    omega
  refine List.pairwise_flatMap.2 ⟨fun a _ => ?_, List.Pairwise.imp (fun {a b} hab x hx y hy e => ?_) hn⟩
  · unfold chO; split <;> simp
  · unfold chO at hx hy
    subst e
    split at hx <;> split at hy <;> simp at hx hy
    rw [hx] at hy
    exact hab (by simpa using congrArg Prod.fst hy)

/-- How many of the first places have a way back. -/
def cntT (t : Nat → Option Nat) : Nat → Nat
  | 0 => 0
  | k + 1 => cntT t k + (if t k = none then 0 else 1)

theorem chE_len (t : Nat → Option Nat) (n : Nat) : ∀ k, k ≤ n → (chE t n k).length + cntT t k = cntT t n := by
  intro k hk
  obtain ⟨d, rfl⟩ : ∃ d, n = k + d := ⟨n - k, by omega⟩
  induction d generalizing k with
  | zero => simp [chE, chL]
  | succ d ih =>
    have := ih (k + 1) (by omega)
    rw [show k + 1 + d = k + (d + 1) by omega] at this
    rw [chE_next (by omega), List.length_append, ← this]
    simp only [cntT]
    unfold chO
    cases ht : t k <;> simp <;> omega

end Go.Proofs.YtchechdcebmoeaaDoor

/-
  Moves, plainly: the law's count of rounds.
-/
import Derived.Test.YtflbjfcmnopfaaaDoorMvX
namespace Go.Proofs.YtflbjfcmnopfaaaDoor
open Go.RowKit

/-- Which move lays what this one asks for: the last such. -/
def nxtF (l : List (Int × Int)) (y : Int) (j : Nat) : Int := (List.range j).foldl (fun nx q => if (l.getD q (0, 0)).1 = y then (q : Int) else nx) (-1)
theorem nxtF_next (l : List (Int × Int)) (y : Int) (j : Nat) : nxtF l y (j + 1) = if (l.getD j (0, 0)).1 = y then (j : Int) else nxtF l y j := by
  unfold nxtF
  rw [List.range_succ, List.foldl_append]
  rfl
theorem nxtF_le (l : List (Int × Int)) (y : Int) : ∀ j, nxtF l y j = -1 ∨ (0 ≤ nxtF l y j ∧ nxtF l y j < j ∧ (l.getD (nxtF l y j).toNat (0, 0)).1 = y)
  | 0 => .inl rfl
  | j + 1 => by
    rw [nxtF_next]
    by_cases h : (l.getD j (0, 0)).1 = y
    · rw [if_pos h]
      exact .inr ⟨by omega, by omega, by simpa using h⟩
    · rw [if_neg h]
      rcases nxtF_le l y j with h1 | h1
      · exact .inl h1
      · exact .inr ⟨h1.1, by omega, h1.2.2⟩
theorem nxtF_hit (l : List (Int × Int)) (y : Int) (k : Nat) (hk : (l.getD k (0, 0)).1 = y) (hu : ∀ q, (l.getD q (0, 0)).1 = y → q < l.length → q = k) (hkl : k < l.length) : ∀ j, k < j → j ≤ l.length → nxtF l y j = k
  | 0, h, _ => absurd h (Nat.not_lt_zero _)
  | j + 1, h, hj => by
    rw [nxtF_next]
    by_cases e : (l.getD j (0, 0)).1 = y
    · rw [if_pos e, hu j e (by omega)]
    · rw [if_neg e]
      have : k ≠ j := fun q => e (by rw [← q]; exact hk)
      exact nxtF_hit l y k hk hu hkl j (by omega) (by omega)

/-- Is this move the first of its round? -/
def stepR (l : List (Int × Int)) (i : Nat) : Nat → Nat → Bool → Nat → Bool
  | 0, _, _, _ => false
  | f + 1, k, fi, st => if nxtF l (l.getD k (0, 0)).2 l.length < 0 then false else if nxtF l (l.getD k (0, 0)).2 l.length = i then decide (0 < st) && fi else stepR l i f (nxtF l (l.getD k (0, 0)).2 l.length).toNat (fi && decide ((i : Int) < nxtF l (l.getD k (0, 0)).2 l.length)) (st + 1)

def firstR (l : List (Int × Int)) (i : Nat) : Bool := stepR l i (l.length + 1) i true 0
def roundsF (l : List (Int × Int)) : Nat → Nat
  | 0 => 0
  | i + 1 => roundsF l i + (if firstR l i = true then 1 else 0)

theorem nd_index {l : List (Int × Int)} (hn : (l.map Prod.fst).Nodup) {i j : Nat} (hi : i < l.length) (hj : j < l.length) (e : (l.getD i (0, 0)).1 = (l.getD j (0, 0)).1) : i = j := by
  have hpw := List.pairwise_iff_getElem.1 hn
  have e1 : ∀ q (h : q < l.length), (l.getD q (0, 0)).1 = (l.map Prod.fst)[q]'(by simpa using h) := fun q h => by simp [List.getD, h]
  rw [e1 i hi, e1 j hj] at e
  rcases Nat.lt_trichotomy i j with q | q | q
  · exact absurd e (hpw i j _ _ q)
  · exact q
  · exact absurd e.symm (hpw j i _ _ q)

theorem nxtF_is {l : List (Int × Int)} (hn : (l.map Prod.fst).Nodup) {k : Nat} (hk : k < l.length) {y : Int} (e : (l.getD k (0, 0)).1 = y) : nxtF l y l.length = k :=
  nxtF_hit l y k e (fun _q h1 h2 => nd_index hn h2 hk (h1.trans e.symm)) hk l.length hk (Nat.le_refl _)

theorem mem_get {l : List (Int × Int)} {i : Nat} (h : i < l.length) : l.getD i (0, 0) ∈ l := by simp [List.getD, h]

section
variable {l : List (Int × Int)} (hn : (l.map Prod.fst).Nodup)
include hn

theorem begF_at {i : Nat} (hi : i < l.length) (h : (l.getD i (0, 0)).1 ≠ (l.getD i (0, 0)).2) : (begF l).F (l.getD i (0, 0)).1 = some (l.getD i (0, 0)).2 := by
  have := (begI l hn).y _ (mem_get hi)
  rw [if_neg h] at this
  exact this
theorem begF_some {x v : Int} (h : (begF l).F x = some v) : ∃ i, i < l.length ∧ (l.getD i (0, 0)).1 = x ∧ (l.getD i (0, 0)).2 = v ∧ x ≠ v := by
  by_cases hm : x ∈ l.map Prod.fst
  · obtain ⟨m, hm1, rfl⟩ := List.mem_map.1 hm
    rw [(begI l hn).y m hm1] at h
    obtain ⟨i, hi, rfl⟩ := List.getElem_of_mem hm1
    split at h
    · cases h
    · rename_i q
      cases h
      exact ⟨i, hi, by simp [List.getD, hi], by simp [List.getD, hi], q⟩
  · rw [(begI l hn).n x hm] at h
    cases h

theorem stepR_yes {i : Nat} (hi : i < l.length) : ∀ (f k : Nat) (fi : Bool) (st : Nat), k < l.length → (k = i → st = 0) → stepR l i f k fi st = true → fi = true ∧ ∃ p, 0 < p ∧ itO (begF l).F p (l.getD k (0, 0)).1 = some (l.getD i (0, 0)).1 ∧ ∀ q, 0 < q → q < p → ∃ j, i < j ∧ j < l.length ∧ itO (begF l).F q (l.getD k (0, 0)).1 = some (l.getD j (0, 0)).1
  | 0, _, _, _, _, _, h => by cases h
  | f + 1, k, fi, st, hk, hst, h => by
    unfold stepR at h
    rcases nxtF_le l (l.getD k (0, 0)).2 l.length with h1 | ⟨h1, h2, h3⟩
    · rw [h1, if_pos (by decide)] at h
      cases h
    · generalize hnx : nxtF l (l.getD k (0, 0)).2 l.length = nx at *
      rw [if_neg (by omega)] at h
      by_cases e : nx = (i : Int)
      · rw [if_pos e] at h
        have h4 : 0 < st ∧ fi = true := by simpa using h
        have hki : k ≠ i := fun q => by have := hst q; omega
        subst e
        simp only [Int.toNat_natCast] at h3
        refine ⟨h4.2, 1, by omega, ?_, fun q h5 h6 => by omega⟩
        rw [itO_one, begF_at hn hk (fun q => hki (nd_index hn hk hi (q.trans h3.symm))), ← h3]
      · rw [if_neg e] at h
        obtain ⟨m, rfl⟩ : ∃ m : Nat, nx = m := ⟨nx.toNat, by omega⟩
        simp only [Int.toNat_natCast] at h h3
        obtain ⟨g1, p, g2, g3, g4⟩ := stepR_yes hi f m _ (st + 1) (by omega) (fun q => absurd (by rw [q]) e) h
        have g5 : fi = true ∧ i < m := by simpa using g1
        have hkm : k ≠ m := by
          -- a move that goes nowhere is never left
          intro q
          subst q
          have loop : ∀ f fi st, stepR l i f k fi st = false := by
            intro f
            induction f with
            | zero => intros; rfl
            | succ f ih =>
              intro fi st
              unfold stepR
              rw [hnx, if_neg (by omega), if_neg e, Int.toNat_natCast]
              exact ih _ _
          rw [loop] at h
          cases h
        have hF : (begF l).F (l.getD k (0, 0)).1 = some (l.getD m (0, 0)).1 := by
          rw [begF_at hn hk (fun q => hkm (nd_index hn hk (by omega) (q.trans h3.symm))), ← h3]
        have hit : ∀ q, itO (begF l).F (q + 1) (l.getD k (0, 0)).1 = itO (begF l).F q (l.getD m (0, 0)).1 := fun q => by
          show ((begF l).F (l.getD k (0, 0)).1).bind _ = _
          rw [hF]
          rfl
        refine ⟨g5.1, p + 1, by omega, by rw [hit]; exact g3, fun q h5 h6 => ?_⟩
        obtain ⟨r, rfl⟩ : ∃ r, q = r + 1 := ⟨q - 1, by omega⟩
        rw [hit]
        by_cases r0 : r = 0
        · subst r0
          exact ⟨m, g5.2, by omega, rfl⟩
        · exact g4 r (by omega) (by omega)

theorem stepR_no {i p : Nat} (hi : i < l.length) (hp : itO (begF l).F p (l.getD i (0, 0)).1 = some (l.getD i (0, 0)).1) (hj : ∀ q, 0 < q → q < p → ∃ j, i < j ∧ j < l.length ∧ itO (begF l).F q (l.getD i (0, 0)).1 = some (l.getD j (0, 0)).1) (h2 : 2 ≤ p) :
    ∀ (d q k f : Nat), q + d = p → 0 < d → d ≤ f → k < l.length → itO (begF l).F q (l.getD i (0, 0)).1 = some (l.getD k (0, 0)).1 → stepR l i f k true q = true
  | 0, _, _, _, _, h, _, _, _ => absurd h (Nat.lt_irrefl _)
  | d + 1, q, k, f, hq, _, hf, hk, hit => by
    obtain ⟨g, rfl⟩ : ∃ g, f = g + 1 := ⟨f - 1, by omega⟩
    unfold stepR
    have hnext : ∀ j, j < l.length → itO (begF l).F (q + 1) (l.getD i (0, 0)).1 = some (l.getD j (0, 0)).1 → nxtF l (l.getD k (0, 0)).2 l.length = j := fun j hjl e => by
      rw [itO_last, hit] at e
      obtain ⟨k2, hk2, e1, e2, _⟩ := begF_some hn e
      have : k2 = k := nd_index hn hk2 hk e1
      subst this
      exact nxtF_is hn hjl e2.symm
    by_cases hd : d = 0
    · subst hd
      rw [hnext i hi (by rw [hq]; exact hp), if_neg (by omega), if_pos rfl]
      simp
      omega
    · obtain ⟨j, h3, h4, h5⟩ := hj (q + 1) (by omega) (by omega)
      rw [hnext j h4 h5, if_neg (by omega), if_neg (by omega), Int.toNat_natCast, show (true && decide ((i : Int) < (j : Int))) = true by simp; omega]
      exact stepR_no hi hp hj h2 d (q + 1) j g (by omega) (by omega) (by omega) h4 h5

theorem firstR_iff {i : Nat} (hi : i < l.length) : firstR l i = true ↔ (Cyc (begF l).F (l.getD i (0, 0)).1 ∧ ∀ j, j < i → ¬ Orb (begF l).F (l.getD i (0, 0)).1 (l.getD j (0, 0)).1) := by
  constructor
  · intro h
    obtain ⟨_, p, h1, h2, h3⟩ := stepR_yes hn hi _ i true 0 hi (fun _ => rfl) h
    refine ⟨⟨p, h1, h2⟩, ?_⟩
    rintro j hj ⟨k, e⟩
    have hall : ∀ k y, itO (begF l).F k (l.getD i (0, 0)).1 = some y → ∃ q, q < p ∧ itO (begF l).F q (l.getD i (0, 0)).1 = some y := by
      intro k
      induction k using Nat.strongRecOn with
      | _ k ih =>
        intro y hy
        by_cases hk : k < p
        · exact ⟨k, hk, hy⟩
        · refine ih (k - p) (by omega) y ?_
          rw [show k = p + (k - p) by omega, itO_add, h2] at hy
          exact hy
    obtain ⟨q, hq, e2⟩ := hall k _ e
    by_cases q0 : q = 0
    · subst q0
      have e3 : (l.getD i (0, 0)).1 = (l.getD j (0, 0)).1 := Option.some.inj e2
      have := nd_index hn hi (show j < l.length by omega) e3
      omega
    · obtain ⟨j2, g1, g2, g3⟩ := h3 q (by omega) hq
      rw [e2] at g3
      have := nd_index hn (show j < l.length by omega) g2 (Option.some.inj g3)
      omega
  · rintro ⟨⟨p0, hp0, hp1⟩, ho⟩
    obtain ⟨p, _, ⟨h1, h2⟩, hmin⟩ := least (P := fun p => 0 < p ∧ itO (begF l).F p (l.getD i (0, 0)).1 = some (l.getD i (0, 0)).1) p0 ⟨hp0, hp1⟩
    have hex : ∀ q, q < p → ∃ j, j < l.length ∧ itO (begF l).F q (l.getD i (0, 0)).1 = some (l.getD j (0, 0)).1 := fun q hq => by
      cases hy : itO (begF l).F q (l.getD i (0, 0)).1 with
      | none =>
        rw [show p = q + (p - q) by omega, itO_add, hy] at h2
        cases h2
      | some y =>
        have h3 := h2
        rw [show p = q + ((p - q - 1) + 1) by omega, itO_add, hy] at h3
        have h4 : ((begF l).F y).bind (itO (begF l).F (p - q - 1)) = some (l.getD i (0, 0)).1 := h3
        cases hv : (begF l).F y with
        | none => rw [hv] at h4; cases h4
        | some v =>
          obtain ⟨j, hj, e1, _⟩ := begF_some hn hv
          exact ⟨j, hj, by rw [e1]⟩
    have hdis : ∀ a c, a < c → c < p → itO (begF l).F a (l.getD i (0, 0)).1 ≠ itO (begF l).F c (l.getD i (0, 0)).1 := fun a c hac hcp e => by
      refine hmin (a + (p - c)) (by omega) ⟨by omega, ?_⟩
      rw [itO_add, e, ← itO_add, show c + (p - c) = p by omega]
      exact h2
    have hj : ∀ q, 0 < q → q < p → ∃ j, i < j ∧ j < l.length ∧ itO (begF l).F q (l.getD i (0, 0)).1 = some (l.getD j (0, 0)).1 := fun q q0 hq => by
      obtain ⟨j, hj, e⟩ := hex q hq
      refine ⟨j, ?_, hj, e⟩
      rcases Nat.lt_trichotomy i j with g | g | g
      · exact g
      · subst g; exact absurd e (fun e => hmin q hq ⟨q0, e⟩)
      · exact absurd ⟨q, e⟩ (ho j g)
    have hpl : p ≤ l.length := by
      have hx : ∀ q, ∃ y : Int, q < p → itO (begF l).F q (l.getD i (0, 0)).1 = some y ∧ y ∈ l.map Prod.fst := fun q => by
        by_cases hq : q < p
        · obtain ⟨j, hj, e⟩ := hex q hq
          exact ⟨_, fun _ => ⟨e, List.mem_map_of_mem (mem_get hj)⟩⟩
        · exact ⟨0, fun h => absurd h hq⟩
      have hy : ∃ Y : Nat → Int, ∀ q, q < p → itO (begF l).F q (l.getD i (0, 0)).1 = some (Y q) ∧ Y q ∈ l.map Prod.fst := ⟨fun q => Classical.choose (hx q), fun q => Classical.choose_spec (hx q)⟩
      obtain ⟨Y, hY⟩ := hy
      have := nodup_short (K := (List.range p).map Y) (L := l.map Prod.fst) (by
        refine List.pairwise_iff_getElem.2 fun a c ha hc hac e => ?_
        simp at ha hc
        simp at e
        refine hdis a c hac hc ?_
        rw [(hY a ha).1, (hY c hc).1, e]) (fun x hx => by
        obtain ⟨q, hq, rfl⟩ := List.mem_map.1 hx
        exact (hY q (by simpa using hq)).2)
      simpa using this
    have hp2 : 2 ≤ p := by
      rcases Nat.lt_or_ge p 2 with g | g
      · exfalso
        obtain rfl : p = 1 := by omega
        rw [itO_one] at h2
        obtain ⟨_, _, e1, e2, e3⟩ := begF_some hn h2
        exact e3 rfl
      · exact g
    exact stepR_no hn hi h2 hj hp2 p 0 i (l.length + 1) (by omega) (by omega) (by omega) hi rfl

theorem rounds_cyc : ∀ i, i ≤ l.length → roundsF l i = cycN (begF l).F l i
  | 0, _ => rfl
  | i + 1, h => by
    show roundsF l i + _ = _
    rw [rounds_cyc i (by omega)]
    by_cases q : firstR l i = true
    · rw [if_pos q, cycN_yes ((firstR_iff hn h).1 q)]
    · rw [if_neg q, cycN_no (fun h2 => q ((firstR_iff hn h).2 h2))]
      rfl
end

end Go.Proofs.YtflbjfcmnopfaaaDoor

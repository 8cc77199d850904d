/-
  flow: the document's walk in depth is the walk, plainly.
-/
import Derived.Test.YtchechdcebmoeaaDoorFwQ
namespace Go.Proofs.YtchechdcebmoeaaDoor
open Go.RowKit

/-- The places where a row goes on: each once, in order; o: those that are there already. -/
def clnR (n : Nat) : List Int → List Int → List Nat
  | _, [] => []
  | o, x :: r => if (0 ≤ x ∧ x < (n : Int)) ∧ x ∉ o then x.toNat :: clnR n (o ++ [x]) r else clnR n o r

def seeR (i : Nat) (t : Wk) (j : Nat) : Wk := if t.st j = 1 then ⟨t.st, t.left, t.loops ++ [(i, j)], t.path⟩ else t
def rowR (E : Nat → Wk → Option Wk) (i : Nat) : List Nat → Wk → Option Wk
  | [], t => some t
  | j :: r, t => if t.st j = 0 then (E j t).bind (rowR E i r) else rowR E i r (seeR i t j)
def inR (i : Nat) (s : Wk) : Wk := ⟨setN s.st i 1, s.left, s.loops, s.path⟩
def outR (i : Nat) (t : Wk) : Wk := ⟨setN t.st i 2, t.left ++ [i], t.loops, t.path⟩
/-- The document's walk in depth: place i is entered; f: how deep at most. -/
def entR (c : Nat → List Nat) : Nat → Nat → Wk → Option Wk
  | 0, _, _ => none
  | f + 1, i, s => (rowR (entR c f) i (c i) (inR i s)).map (outR i)

theorem runW_add (g : List (List Int)) : ∀ (a b : Nat) (s : Wk), runW g (a + b) s = runW g b (runW g a s)
  | 0, b, s => by rw [Nat.zero_add]; rfl
  | a + 1, b, s => by
    cases hp : s.path.getLast? with
    | none =>
      have e : s.path = [] := by simpa using hp
      rw [runW_end e, runW_end e, runW_end e]
    | some x =>
      obtain ⟨v, k⟩ := x
      rw [show a + 1 + b = (a + b) + 1 by omega, runW_next hp, runW_next hp]
      exact runW_add g a b _

theorem rowR_some {E : Nat → Wk → Option Wk} {i : Nat} {Q : Wk → Wk → Prop} (refl : ∀ s, Q s s) (trans : ∀ a b c, Q a b → Q b c → Q a c) (see : ∀ s j, Q s (seeR i s j))
    (hE : ∀ j s s', s.st j = 0 → E j s = some s' → Q s s') : ∀ (l : List Nat) (s s' : Wk), rowR E i l s = some s' → Q s s'
  | [], s, s', h => by cases h; exact refl s
  | j :: r, s, s', h => by
    unfold rowR at h
    by_cases h0 : s.st j = 0
    · rw [if_pos h0] at h
      obtain ⟨t, ht, h2⟩ := Option.bind_eq_some_iff.1 h
      exact trans _ _ _ (hE j s t h0 ht) (rowR_some refl trans see hE r t s' h2)
    · rw [if_neg h0] at h
      exact trans _ _ _ (see s j) (rowR_some refl trans see hE r _ s' h)

/-- What has been entered stays as it is. -/
theorem entR_frame (c : Nat → List Nat) : ∀ (f i : Nat) (s s' : Wk), s.st i = 0 → entR c f i s = some s' → (∀ v, s.st v ≠ 0 → s'.st v = s.st v) ∧ s'.st i = 2
  | 0, _, _, _, _, h => by cases h
  | f + 1, i, s, s', h0, h => by
    unfold entR at h
    obtain ⟨t, ht, rfl⟩ := Option.map_eq_some_iff.1 h
    have fr := rowR_some (Q := fun a b => ∀ v, a.st v ≠ 0 → b.st v = a.st v) (fun _ _ _ => rfl) (fun a b c h1 h2 v hv => by rw [h2 v (by rw [h1 v hv]; exact hv), h1 v hv])
      (fun s j v _ => by unfold seeR; split <;> rfl) (fun j s s' hj hs => (entR_frame c f j s s' hj hs).1) _ _ _ ht
    refine ⟨fun v hv => ?_, setN_same _ _ _⟩
    have hvi : v ≠ i := fun e => hv (by rw [e]; exact h0)
    show setN t.st i 2 v = _
    rw [setN_other _ _ hvi]
    have h1 : (inR i s).st v = s.st v := setN_other _ _ hvi
    rw [fr v (by rw [h1]; exact hv), h1]

/-- The walk does what the document's does. -/
structure SimI (i : Nat) (o : List Int) (lo : List (Nat × Nat)) (t : Wk) : Prop where
  here : t.st i = 1
  ded : dedE lo = t.loops
  met : ∀ y : Nat, (y : Int) ∈ o → t.st y ≠ 0 ∧ (t.st y = 1 → (i, y) ∈ lo)
  own : ∀ b, (i, b) ∈ lo → (b : Int) ∈ o
  all : ∀ e ∈ lo, t.st e.1 ≠ 0

theorem sim_ent (g : List (List Int)) (c : Nat → List Nat) (hc : ∀ i, i < g.length → c i = clnR g.length [] (g.getD i [])) : ∀ (f i : Nat) (s s' : Wk) (lo : List (Nat × Nat)) (P : List (Nat × Nat)), i < g.length → s.st i = 0 → dedE lo = s.loops → (∀ e ∈ lo, s.st e.1 ≠ 0) → entR c f i s = some s' →
    ∃ m lo', runW g m ⟨setN s.st i 1, s.left, lo, P ++ [(i, 0)]⟩ = ⟨s'.st, s'.left, lo', P⟩ ∧ dedE lo' = s'.loops ∧ (∀ e ∈ lo', s'.st e.1 ≠ 0) ∧ (∀ e ∈ lo', s.st e.1 ≠ 0 → e ∈ lo) ∧ ∀ e ∈ lo, e ∈ lo'
  | 0, _, _, _, _, _, _, _, _, _, h => by cases h
  | f + 1, i, s, s', lo, P, hi, h0, hd, ha, h => by
    unfold entR at h
    obtain ⟨t', ht, rfl⟩ := Option.map_eq_some_iff.1 h
    rw [hc i hi] at ht
    have row : ∀ (d k : Nat) (o : List Int) (lo1 : List (Nat × Nat)) (t : Wk), degW g i = k + d → SimI i o lo1 t → rowR (entR c f) i (clnR g.length o ((g.getD i []).drop k)) t = some t' →
        ∃ m lo', runW g m ⟨t.st, t.left, lo1, P ++ [(i, k)]⟩ = ⟨t'.st, t'.left, lo', P ++ [(i, degW g i)]⟩ ∧ dedE lo' = t'.loops ∧ (∀ e ∈ lo', t'.st e.1 ≠ 0) ∧ (∀ v, t.st v ≠ 0 → t'.st v = t.st v) ∧ (∀ e ∈ lo', e.1 ≠ i → t.st e.1 ≠ 0 → e ∈ lo1) ∧ ∀ e ∈ lo1, e ∈ lo' := by
      intro d
      induction d with
      | zero =>
        intro k o lo1 t hk hI hr
        rw [List.drop_eq_nil_of_le (by unfold degW at hk; omega)] at hr
        cases hr
        exact ⟨0, lo1, by rw [hk]; rfl, hI.ded, hI.all, fun _ _ => rfl, fun e he _ _ => he, fun _ he => he⟩
      | succ d ih =>
        intro k o lo1 t hk hI hr
        have hkl : k < (g.getD i []).length := by unfold degW at hk; omega
        have hcons : (g.getD i []).drop k = edgeW g i k :: (g.getD i []).drop (k + 1) := by
          rw [List.drop_eq_getElem_cons hkl]
          unfold edgeW
          generalize g.getD i [] = l at hkl ⊢
          simp [List.getD, hkl]
        rw [hcons] at hr
        have hlast : (P ++ [(i, k)]).getLast? = some (i, k) := by simp
        have hdrop : (P ++ [(i, k)]).dropLast = P := by simp
        -- one step of the walk
        have one : ∀ t2 : Wk, stepW g ⟨t.st, t.left, lo1, P ++ [(i, k)]⟩ i k = t2 → ∀ m, runW g (1 + m) ⟨t.st, t.left, lo1, P ++ [(i, k)]⟩ = runW g m t2 := fun t2 h2 m => by
          rw [Nat.add_comm, runW_next (s := ⟨t.st, t.left, lo1, P ++ [(i, k)]⟩) hlast, h2]
        have stp : stepW g ⟨t.st, t.left, lo1, P ++ [(i, k)]⟩ i k = match meetW g.length ⟨t.st, t.left, lo1, P ++ [(i, k + 1)]⟩ i (edgeW g i k) with
            | (t, true) => ⟨t.st, t.left, t.loops, t.path ++ [((edgeW g i k).toNat, 0)]⟩
            | (t, false) => t := by
          unfold stepW
          rw [if_neg (by omega)]
          dsimp only
          rw [hdrop]
          rfl
        generalize edgeW g i k = x at hr stp
        by_cases hx : x < 0 ∨ (g.length : Int) ≤ x
        · -- none
          unfold clnR at hr
          rw [if_neg (fun h => by omega)] at hr
          have hm : meetW g.length ⟨t.st, t.left, lo1, P ++ [(i, k + 1)]⟩ i x = (⟨t.st, t.left, lo1, P ++ [(i, k + 1)]⟩, false) := by unfold meetW; rw [if_pos hx]
          rw [hm] at stp
          obtain ⟨m, lo', h1, h2⟩ := ih (k + 1) o lo1 t (by omega) hI hr
          exact ⟨1 + m, lo', by rw [one _ stp m]; exact h1, h2⟩
        · obtain ⟨y, rfl⟩ : ∃ y : Nat, x = y := ⟨x.toNat, by omega⟩
          have hm : meetW g.length ⟨t.st, t.left, lo1, P ++ [(i, k + 1)]⟩ i y = if t.st y = 0 then (⟨setN t.st y 1, t.left, lo1, P ++ [(i, k + 1)]⟩, true) else if t.st y = 1 then (⟨t.st, t.left, lo1 ++ [(i, y)], P ++ [(i, k + 1)]⟩, false) else (⟨t.st, t.left, lo1, P ++ [(i, k + 1)]⟩, false) := by
            unfold meetW
            rw [if_neg hx, Int.toNat_natCast]
          rw [hm, Int.toNat_natCast] at stp
          by_cases hmem : (y : Int) ∈ o
          · -- met already
            unfold clnR at hr
            rw [if_neg (fun h => h.2 hmem)] at hr
            obtain ⟨hy0, hy1⟩ := hI.met y hmem
            rw [if_neg hy0] at stp
            by_cases h1 : t.st y = 1
            · rw [if_pos h1] at stp
              dsimp only at stp
              have hI2 : SimI i o (lo1 ++ [(i, y)]) t := ⟨hI.here, by rw [dedE_snoc, if_pos ((dedE_mem _ _).2 (hy1 h1))]; exact hI.ded, fun z hz => ⟨(hI.met z hz).1, fun h => List.mem_append_left _ ((hI.met z hz).2 h)⟩,
                fun b hb => by
                  rcases List.mem_append.1 hb with h | h
                  · exact hI.own b h
                  · simp at h; subst h; exact hmem,
                fun e he => by
                  rcases List.mem_append.1 he with h | h
                  · exact hI.all e h
                  · simp at h; subst h; show t.st i ≠ 0; rw [hI.here]; decide⟩
              obtain ⟨m, lo', a1, a2, a3, a4, a5, a6⟩ := ih (k + 1) o _ t (by omega) hI2 hr
              refine ⟨1 + m, lo', by rw [one _ stp m]; exact a1, a2, a3, a4, fun e he hei hst => ?_, fun e he => a6 e (List.mem_append_left _ he)⟩
              rcases List.mem_append.1 (a5 e he hei hst) with h | h
              · exact h
              · simp at h; subst h; exact absurd rfl hei
            · rw [if_neg h1] at stp
              dsimp only at stp
              obtain ⟨m, lo', a1, a2⟩ := ih (k + 1) o lo1 t (by omega) hI hr
              exact ⟨1 + m, lo', by rw [one _ stp m]; exact a1, a2⟩
          · -- met for the first time
            unfold clnR at hr
            rw [if_pos ⟨by omega, hmem⟩, Int.toNat_natCast] at hr
            unfold rowR at hr
            have hno : (i, y) ∉ lo1 := fun h => hmem (hI.own y h)
            by_cases hy0 : t.st y = 0
            · rw [if_pos hy0] at stp hr
              dsimp only at stp
              obtain ⟨u, hu, hr⟩ := Option.bind_eq_some_iff.1 hr
              obtain ⟨m1, lo2, b1, b2, b3, b4, b5⟩ := sim_ent g c hc f y t u lo1 (P ++ [(i, k + 1)]) (by omega) hy0 hI.ded hI.all hu
              obtain ⟨fr, fr2⟩ := entR_frame c f y t u hy0 hu
              have hii : t.st i ≠ 0 := by rw [hI.here]; decide
              have keepO : ∀ e ∈ lo2, t.st e.1 ≠ 0 → e ∈ lo1 := b4
              have loK : ∀ e ∈ lo1, e ∈ lo2 := b5
              have hI2 : SimI i (o ++ [(y : Int)]) lo2 u := ⟨by rw [fr i hii]; exact hI.here, b2, fun z hz => by
                  rcases List.mem_append.1 hz with h | h
                  · obtain ⟨z0, z1⟩ := hI.met z h
                    rw [fr z z0]
                    exact ⟨z0, fun h1 => loK _ (z1 h1)⟩
                  · have hzy : z = y := by have := List.mem_singleton.1 h; omega
                    rw [hzy, fr2]
                    exact ⟨by decide, fun h => by omega⟩,
                fun b hb => List.mem_append_left _ (hI.own b (keepO _ hb hii)), b3⟩
              obtain ⟨m, lo', a1, a2, a3, a4, a5, a6⟩ := ih (k + 1) _ lo2 u (by omega) hI2 hr
              refine ⟨1 + (m1 + m), lo', ?_, a2, a3, fun v hv => by rw [a4 v (by rw [fr v hv]; exact hv), fr v hv], fun e he hei hst => ?_, fun e he => a6 e (loK e he)⟩
              · rw [one _ stp, runW_add, b1]; exact a1
              · exact keepO e (a5 e he hei (by rw [fr _ hst]; exact hst)) hst
            · rw [if_neg hy0] at stp hr
              by_cases h1 : t.st y = 1
              · rw [if_pos h1] at stp
                dsimp only at stp
                have hsee : seeR i t y = ⟨t.st, t.left, t.loops ++ [(i, y)], t.path⟩ := by unfold seeR; rw [if_pos h1]
                rw [hsee] at hr
                have hI2 : SimI i (o ++ [(y : Int)]) (lo1 ++ [(i, y)]) ⟨t.st, t.left, t.loops ++ [(i, y)], t.path⟩ := ⟨hI.here, by
                    rw [dedE_snoc, if_neg (fun h => hno ((dedE_mem _ _).1 h)), hI.ded], fun z hz => by
                    rcases List.mem_append.1 hz with h | h
                    · exact ⟨(hI.met z h).1, fun h2 => List.mem_append_left _ ((hI.met z h).2 h2)⟩
                    · have hzy : z = y := by have := List.mem_singleton.1 h; omega
                      rw [hzy]
                      exact ⟨hy0, fun _ => by simp⟩,
                  fun b hb => by
                    rcases List.mem_append.1 hb with h | h
                    · exact List.mem_append_left _ (hI.own b h)
                    · simp at h; subst h; simp,
                  fun e he => by
                    rcases List.mem_append.1 he with h | h
                    · exact hI.all e h
                    · simp at h; subst h; show t.st i ≠ 0; rw [hI.here]; decide⟩
                obtain ⟨m, lo', a1, a2, a3, a4, a5, a6⟩ := ih (k + 1) _ _ _ (by omega) hI2 hr
                refine ⟨1 + m, lo', by rw [one _ stp m]; exact a1, a2, a3, a4, fun e he hei hst => ?_, fun e he => a6 e (List.mem_append_left _ he)⟩
                rcases List.mem_append.1 (a5 e he hei hst) with h | h
                · exact h
                · simp at h; subst h; exact absurd rfl hei
              · rw [if_neg h1] at stp
                dsimp only at stp
                have hsee : seeR i t y = t := by unfold seeR; rw [if_neg h1]
                rw [hsee] at hr
                have hI2 : SimI i (o ++ [(y : Int)]) lo1 t := ⟨hI.here, hI.ded, fun z hz => by
                    rcases List.mem_append.1 hz with h | h
                    · exact hI.met z h
                    · have hzy : z = y := by have := List.mem_singleton.1 h; omega
                      rw [hzy]
                      exact ⟨hy0, fun h => absurd h h1⟩, fun b hb => List.mem_append_left _ (hI.own b hb), hI.all⟩
                obtain ⟨m, lo', a1, a2⟩ := ih (k + 1) _ lo1 t (by omega) hI2 hr
                exact ⟨1 + m, lo', by rw [one _ stp m]; exact a1, a2⟩
    have hne : ∀ e ∈ lo, e.1 ≠ i := fun e he e2 => ha e he (by rw [e2]; exact h0)
    have hI0 : SimI i [] lo (inR i s) := by
      refine ⟨setN_same _ _ _, hd, fun y hy => (by cases hy), fun b hb => absurd rfl (hne (i, b) hb), fun e he => ?_⟩
      show setN s.st i 1 e.1 ≠ 0
      rw [setN_other _ _ (hne e he)]
      exact ha e he
    obtain ⟨m, lo', a1, a2, a3, a4, a5, a6⟩ := row (degW g i) 0 [] lo (inR i s) (by omega) hI0 (by simpa using ht)
    have a1' : runW g m ⟨setN s.st i 1, s.left, lo, P ++ [(i, 0)]⟩ = ⟨t'.st, t'.left, lo', P ++ [(i, degW g i)]⟩ := a1
    refine ⟨m + 1, lo', ?_, a2, fun e he => ?_, fun e he hst => ?_, a6⟩
    · rw [runW_add, a1', runW_next (s := ⟨t'.st, t'.left, lo', P ++ [(i, degW g i)]⟩) (v := i) (k := degW g i) (by simp)]
      show stepW g _ _ _ = _
      unfold stepW
      rw [if_pos rfl]
      simp [outR]
    · show setN t'.st i 2 e.1 ≠ 0
      unfold setN
      split
      · decide
      · exact a3 e he
    · have hei : e.1 ≠ i := fun e2 => hst (by rw [e2]; exact h0)
      refine a5 e he hei ?_
      show setN s.st i 1 e.1 ≠ 0
      rw [setN_other _ _ hei]
      exact hst

theorem restZ_set (S : Nat → Nat) (v x n : Nat) (hx : x ≠ 0) : restW [] (setN S v x) n + (if v < n ∧ S v = 0 then 2 else 0) = restW [] S n := by
  have := restW_set [] S v x hx n
  simpa [degW] using this

theorem rowR_more {E : Nat → Wk → Option Wk} {i n f : Nat} (hE : ∀ j s, j < n → s.st j = 0 → restW [] s.st n ≤ 2 * f → ∃ s', E j s = some s' ∧ restW [] s'.st n ≤ restW [] s.st n) : ∀ (l : List Nat) (s : Wk), (∀ j ∈ l, j < n) → restW [] s.st n ≤ 2 * f → ∃ s', rowR E i l s = some s' ∧ restW [] s'.st n ≤ restW [] s.st n
  | [], s, _, _ => ⟨s, rfl, Nat.le_refl _⟩
  | j :: r, s, hl, hf => by
    unfold rowR
    by_cases h0 : s.st j = 0
    · rw [if_pos h0]
      obtain ⟨u, hu, hle⟩ := hE j s (hl j (by simp)) h0 hf
      obtain ⟨s', h1, h2⟩ := rowR_more hE r u (fun k hk => hl k (by simp [hk])) (by omega)
      exact ⟨s', by rw [hu]; exact h1, by omega⟩
    · rw [if_neg h0]
      have e : (seeR i s j).st = s.st := by unfold seeR; split <;> rfl
      obtain ⟨s', h1, h2⟩ := rowR_more (i := i) hE r (seeR i s j) (fun k hk => hl k (by simp [hk])) (by rw [e]; exact hf)
      exact ⟨s', h1, by rw [e] at h2; exact h2⟩

theorem entR_more (c : Nat → List Nat) (n : Nat) (hc : ∀ i, i < n → ∀ j ∈ c i, j < n) : ∀ (f i : Nat) (s : Wk), i < n → s.st i = 0 → restW [] s.st n ≤ 2 * f → ∃ s', entR c f i s = some s' ∧ restW [] s'.st n ≤ restW [] s.st n
  | 0, i, s, hi, h0, hf => by
    have := restZ_set s.st i 1 n (by decide)
    rw [if_pos ⟨hi, h0⟩] at this
    omega
  | f + 1, i, s, hi, h0, hf => by
    have h1 := restZ_set s.st i 1 n (by decide)
    rw [if_pos ⟨hi, h0⟩] at h1
    have e : (inR i s).st = setN s.st i 1 := rfl
    obtain ⟨t, ht, hle⟩ := rowR_more (i := i) (fun j s hj h0 hf => entR_more c n hc f j s hj h0 hf) (c i) (inR i s) (hc i hi) (by rw [e]; omega)
    refine ⟨outR i t, by unfold entR; rw [ht]; rfl, ?_⟩
    show restW [] (setN t.st i 2) n ≤ _
    have h2 := restZ_set t.st i 2 n (by decide)
    rw [e] at hle
    omega

theorem clnR_lt (n : Nat) : ∀ (o l : List Int), ∀ j ∈ clnR n o l, j < n
  | _, [], j, h => by cases h
  | o, x :: r, j, h => by
    unfold clnR at h
    split at h
    · rename_i hx
      rcases List.mem_cons.1 h with e | h2
      · rw [e]; omega
      · exact clnR_lt n _ r j h2
    · exact clnR_lt n _ r j h

def s0R : Wk := ⟨fun _ => 0, [], [], []⟩
theorem restW_le (S : Nat → Nat) : ∀ n, restW [] S n ≤ 2 * n
  | 0 => by simp [restW]
  | n + 1 => by
    unfold restW
    have := restW_le S n
    have e : degW [] n = 0 := by simp [degW]
    rw [e]
    split <;> omega

/-- The document's walk is the walk. -/
theorem ref_walk (g : List (List Int)) (h0 : 0 < g.length) (c : Nat → List Nat) (hc : ∀ i, i < g.length → c i = clnR g.length [] (g.getD i [])) :
    ∃ s', entR c g.length 0 s0R = some s' ∧ s'.left = (walkW g).left ∧ s'.loops = dedE (walkW g).loops ∧ s'.st = (walkW g).st := by
  obtain ⟨s', hs, _⟩ := entR_more c g.length (fun i hi j hj => by rw [hc i hi] at hj; exact clnR_lt _ _ _ j hj) g.length 0 s0R h0 rfl (restW_le _ _)
  obtain ⟨m, lo', h1, h2, _⟩ := sim_ent g c hc g.length 0 s0R s' [] [] h0 rfl rfl (fun e he => by cases he) hs
  have hne : g ≠ [] := fun e => by rw [e] at h0; simp at h0
  have hend := (walk_bas g h0).2
  have hw : walkW g = runW g (muW g beginW) beginW := by unfold walkW; rw [if_neg hne]
  have h1' : runW g m beginW = ⟨s'.st, s'.left, lo', []⟩ := h1
  have e1 : runW g (m + muW g beginW) beginW = ⟨s'.st, s'.left, lo', []⟩ := by rw [runW_add, h1', runW_end rfl]
  have e2 : runW g (muW g beginW + m) beginW = walkW g := by rw [runW_add, ← hw, runW_end hend]
  rw [Nat.add_comm] at e2
  rw [e1] at e2
  refine ⟨s', hs, ?_, ?_, ?_⟩
  · rw [← e2]
  · rw [← e2]; exact h2.symm
  · rw [← e2]

/-- Clean, in order: what has come in so far. -/
def clnI (n : Nat) (l : List Int) : List Int := l.foldl (fun o x => if (0 ≤ x ∧ x < (n : Int)) ∧ x ∉ o then o ++ [x] else o) []
theorem clnI_take (n : Nat) (l : List Int) (k : Nat) (h : k < l.length) : clnI n (l.take (k + 1)) = if (0 ≤ l.getD k 0 ∧ l.getD k 0 < (n : Int)) ∧ l.getD k 0 ∉ clnI n (l.take k) then clnI n (l.take k) ++ [l.getD k 0] else clnI n (l.take k) := by
  have e : l.take (k + 1) = l.take k ++ [l.getD k 0] := by rw [List.take_add_one, List.getElem?_eq_getElem h]; simp [List.getD, h]
  rw [e]
  unfold clnI
  rw [List.foldl_append]
  rfl
theorem clnI_eq (n : Nat) (l : List Int) : clnI n l = (clnR n [] l).map fun j : Nat => (j : Int) := by
  have key : ∀ (l o : List Int), l.foldl (fun o x => if (0 ≤ x ∧ x < (n : Int)) ∧ x ∉ o then o ++ [x] else o) o = o ++ (clnR n o l).map fun j : Nat => (j : Int) := by
    intro l
    induction l with
    | nil => intro o; simp [clnR]
    | cons x r ih =>
      intro o
      rw [List.foldl_cons, ih]
      by_cases h : (0 ≤ x ∧ x < (n : Int)) ∧ x ∉ o
      · rw [if_pos h, clnR, if_pos h]
        have : ((x.toNat : Nat) : Int) = x := by omega
        simp [this]
      · rw [if_neg h, clnR, if_neg h]
  simpa [clnI] using key l []
theorem clnI_mem (n : Nat) (l : List Int) (z : Int) : z ∈ clnI n l ↔ z ∈ l ∧ 0 ≤ z ∧ z < (n : Int) := by
  have key : ∀ (l o : List Int), z ∈ l.foldl (fun o x => if (0 ≤ x ∧ x < (n : Int)) ∧ x ∉ o then o ++ [x] else o) o ↔ z ∈ o ∨ (z ∈ l ∧ 0 ≤ z ∧ z < (n : Int)) := by
    intro l
    induction l with
    | nil => intro o; simp
    | cons x r ih =>
      intro o
      rw [List.foldl_cons, ih]
      by_cases h : (0 ≤ x ∧ x < (n : Int)) ∧ x ∉ o
      · rw [if_pos h]
        simp only [List.mem_append, List.mem_cons, List.not_mem_nil, or_false]
        constructor
        · rintro ((h1 | h1) | h1)
          · exact .inl h1
          · exact .inr ⟨.inl h1, by omega⟩
          · exact .inr ⟨.inr h1.1, h1.2⟩
        · rintro (h1 | ⟨h1 | h1, h2⟩)
          · exact .inl (.inl h1)
          · exact .inl (.inr h1)
          · exact .inr ⟨h1, h2⟩
      · rw [if_neg h]
        simp only [List.mem_cons]
        constructor
        · rintro (h1 | h1)
          · exact .inl h1
          · exact .inr ⟨.inr h1.1, h1.2⟩
        · rintro (h1 | ⟨h1 | h1, h2⟩)
          · exact .inl h1
          · subst h1
            by_cases hm : z ∈ o
            · exact .inl hm
            · exact absurd ⟨h2, hm⟩ h
          · exact .inr ⟨h1, h2⟩
  simpa [clnI] using key l []

end Go.Proofs.YtchechdcebmoeaaDoor

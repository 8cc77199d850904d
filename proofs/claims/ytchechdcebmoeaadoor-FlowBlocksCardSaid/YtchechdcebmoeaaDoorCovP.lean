/-
  Blocks of a method that may be, plainly.
-/
import Derived.Test.YtchechdcebmoeaaDoorOfW
import Derived.Test.YtchechdcebmoeaaDoorMayB
namespace Go.Proofs.YtchechdcebmoeaaDoor
open Go.RowKit

def BoolQ (W0 : World) (b : Bool) (e : Ending) (w' : World) : Prop := e = .returned (.bool b) ∧ BelB W0 w'

/-- A method whose jumps lead into it. -/
def FineT (x : Meth) : Prop := x.len ≤ 120 ∧ ∀ i, i < x.len → x.gv i 0 = 22 ∨ x.gv i 0 = 23 → 0 ≤ x.gv i 1 ∧ x.gv i 1 < (x.len : Int)

theorem instrC_target {nb : Bool} {cl : Nat} {op A B N : Int} (h : instrC nb cl op A B N = 0) : op = 22 ∨ op = 23 → 0 ≤ A ∧ A < (cl : Int) := by
  unfold instrC at h
  split at h
  · cases h
  · split at h
    · cases h
    · split at h
      · cases h
      · rename_i h1 h2 h3
        intro e
        have h4 : ¬ inside A cl = false := fun h5 => h3 ⟨e, h5⟩
        simpa [inside] using h4

theorem verdict_target {nc nm : Nat} {f : Nat → ByteArray} {ms : Nat → Meth} (h : verdict nc nm f ms = none) {m : Nat} (hm : m < nm) : FineT (ms m) := by
  unfold verdict progW at h
  split at h
  · cases h
  · split at h
    · rename_i h1 h2
      exact absurd h (goodM_bad h2)
    · rename_i h1 h2
      have h3 := goodM_ok (nc := nc) (nm := nm) (f := f) (ms := ms) (i := m) (by omega)
      unfold mthV methW at h3
      split at h3
      · cases h3
      · split at h3
        · cases h3
        · rename_i h4 h5
          have h6 : (ms m).len ≤ 120 := by
            rcases Nat.lt_or_ge 120 (ms m).len with h7 | h7
            · exact absurd (by rw [headA, if_pos (.inr (.inr h7))]; omega) h4
            · exact h7
          refine ⟨h6, fun i hi => ?_⟩
          have h8 := goodI_ok (nc := nc) (nm := nm) (f := f) (ms m) (i := i) (by omega)
          unfold icA icOf at h8
          exact instrC_target h8

def MayT (nm : Nat) (ms : Nat → Meth) (B : World) (e : Ending) (w2 : World) : Prop :=
  ∃ (C : Int) (ad : Option Addr) (n c : Nat), e = .returned (.agg #[.int .i64 C, .slice ad n c]) ∧ BelB B w2 ∧ (C = 0 → ∀ m, m < nm → FineT (ms m))

theorem mayT_of (ca : Option Addr) (nc cc : Nat) (f : Nat → ByteArray) (ma : Option Addr) (nm mc : Nat) (ms : Nat → Meth) (B w' : World) (h : BelB B w') (hP : Prg w' ca nc cc f ma nm mc ms) (hS : Sml nc f nm ms) (hc : nc ≤ 20) (hm : nm ≤ 20) :
    Calls Tryd.prog 44 #[.agg #[.slice ca nc cc, .slice ma nm mc]] w' (MayT nm ms B) := by
  by_cases hbare : 12 < nc ∨ nm = 0 ∨ 12 < nm
  · exact (rmay_bare ca nc cc ma nm mc w' (by omega) hbare).mono (by rintro e w2 ⟨rfl, h2⟩; exact ⟨101, none, 0, 0, rfl, Below.trans h (Below.mono h2 h.size), fun e => by cases e⟩)
  · refine (rMay_any ca nc cc f ma nm mc ms w' (by omega) (by omega) (by omega) hP hS).mono ?_
    cases hv : verdict nc nm f ms with
    | none =>
      rintro e w2 ⟨h2, rfl⟩
      exact ⟨0, none, 0, 0, rfl, Below.trans h (Below.mono h2 h.size), fun _ m hm => verdict_target hv hm⟩
    | some x =>
      obtain ⟨c, m, pc⟩ := x
      rintro e w2 ⟨h2, g, rfl, y0, y1⟩
      exact ⟨_, _, 2, 2, rfl, Below.trans h (Below.mono h2 h.size), fun e => by omega⟩

theorem hdS_mono (n : Nat) (f : Nat → Bool) (T A : Int) (k j : Nat) (h : f j = true) : hdS n f T A k j = true := by
  unfold hdS addB
  split
  · simp [h]
  · split
    · simp [h]
    · exact h
theorem hdF_mono (n : Nat) (gv : Nat → Nat → Int) {j : Nat} : ∀ {k k' : Nat}, k ≤ k' → hdF n gv k j = true → hdF n gv k' j = true := by
  intro k k' hk h
  obtain ⟨d, rfl⟩ : ∃ d, k' = k + d := ⟨k' - k, by omega⟩
  induction d with
  | zero => exact h
  | succ d ih =>
    show hdS n (hdF n gv (k + d)) _ _ _ j = true
    exact hdS_mono _ _ _ _ _ _ (ih (by omega))
theorem hd_next (n : Nat) (gv : Nat → Nat → Int) {i : Nat} (hi : i + 1 < n) (h : gv i 0 = 22 ∨ gv i 0 = 23 ∨ gv i 0 = 33) : hdF n gv n (i + 1) = true := by
  refine hdF_mono n gv (k := i + 1) (by omega) ?_
  show hdS n (hdF n gv i) (gv i 0) (gv i 1) i (i + 1) = true
  have e : ((i : Int) + 1).toNat = i + 1 := by omega
  have e2 : inB ((i : Int) + 1) n = true := inB_of (by omega)
  unfold hdS
  by_cases h1 : gv i 0 = 22 ∨ gv i 0 = 23
  · rw [if_pos h1]
    unfold addB
    rw [e, e2]
    simp
  · rw [if_neg h1, if_pos (by omega)]
    unfold addB
    rw [e, e2]
    simp
theorem hd_target (n : Nat) (gv : Nat → Nat → Int) {i a : Nat} (hi : i < n) (ha : a < n) (h : gv i 0 = 22 ∨ gv i 0 = 23) (hA : gv i 1 = (a : Int)) : hdF n gv n a = true := by
  refine hdF_mono n gv (k := i + 1) (by omega) ?_
  show hdS n (hdF n gv i) (gv i 0) (gv i 1) i a = true
  unfold hdS
  rw [if_pos h, hA]
  unfold addB
  have e2 : inB (a : Int) n = true := inB_of (by omega)
  rw [e2]
  simp

theorem nextL_has (T A : Int) (k : Nat) (h : T = 22 ∨ T = 23) : A ∈ nextL T A k := by
  unfold nextL
  rw [if_neg (by omega)]
  by_cases h2 : T = 22
  · rw [if_pos h2]; simp
  · rw [if_neg h2]
    by_cases h3 : T = 23 ∧ A < k + 1
    · rw [if_pos h3]; simp
    · rw [if_neg h3]
      by_cases h4 : T = 23 ∧ (k : Int) + 1 < A
      · rw [if_pos h4]; simp
      · rw [if_neg h4]
        have : A = (k : Int) + 1 := by omega
        rw [this]; simp

/-- Blocks, and what the law on their cover asks. -/
structure CovOk (n : Nat) (gv : Nat → Nat → Int) (f : Nat → Bool) : Prop where
  first : 0 < n → frB f n 0 = 0 ∧ 0 < nB f n
  last : ∀ b, b < nB f n → ∀ pc, frB f n b ≤ pc → pc + 1 < frB f n (b + 1) → ¬ (gv pc 0 = 22 ∨ gv pc 0 = 23 ∨ gv pc 0 = 33)
  jump : ∀ b, b < nB f n → ∀ pc, frB f n b ≤ pc → pc < frB f n (b + 1) → gv pc 0 = 22 ∨ gv pc 0 = 23 → ∃ k, k < nB f n ∧ (frB f n k : Int) = gv pc 1 ∧ (k : Int) ∈ sucF n gv f b

theorem cov_ok (x : Meth) (h : FineT x) : CovOk x.len x.gv (hdF x.len x.gv x.len) := by
  have hlast : ∀ b, b < nB (hdF x.len x.gv x.len) x.len → ∀ pc, frB (hdF x.len x.gv x.len) x.len b ≤ pc → pc + 1 < frB (hdF x.len x.gv x.len) x.len (b + 1) → ¬ (x.gv pc 0 = 22 ∨ x.gv pc 0 = 23 ∨ x.gv pc 0 = 33) := by
    intro b hb pc h1 h2 ho
    have hle := frB_le (hdF x.len x.gv x.len) x.len (b + 1)
    have := hd_next x.len x.gv (i := pc) (by omega) ho
    rw [frB_none (hdF x.len x.gv x.len) x.len (i := b) (pc := pc + 1) (by omega) h2] at this
    cases this
  refine ⟨fun h0 => frB_first _ _ h0 (hd_zero x.len x.gv h0 x.len), hlast, fun b hb pc h1 h2 ho => ?_⟩
  have hle := frB_le (hdF x.len x.gv x.len) x.len (b + 1)
  have hpc : pc + 1 = frB (hdF x.len x.gv x.len) x.len (b + 1) := by
    rcases Nat.lt_or_ge (pc + 1) (frB (hdF x.len x.gv x.len) x.len (b + 1)) with h3 | h3
    · exact absurd (by omega) (hlast b hb pc h1 h3)
    · omega
  obtain ⟨ha0, ha1⟩ := h.2 pc (by omega) ho
  obtain ⟨a, ha⟩ : ∃ a : Nat, x.gv pc 1 = (a : Int) := ⟨(x.gv pc 1).toNat, by omega⟩
  rw [ha] at ha0 ha1
  have hal : a < x.len := by omega
  obtain ⟨k, hk, hka⟩ := frB_has (hdF x.len x.gv x.len) x.len hal (hd_target x.len x.gv (by omega) hal ho ha)
  refine ⟨k, hk, by rw [ha, hka], ?_⟩
  have hat : atB (hdF x.len x.gv x.len) a = k := atB_eq (hdF x.len x.gv x.len) x.len k a (by omega) (by have := frB_rise (hdF x.len x.gv x.len) x.len (i := k) (j := k + 1) (by omega) hk; omega)
  have hnx : (a : Int) ∈ nxB x.len x.gv (hdF x.len x.gv x.len) b := by
    unfold nxB nextM
    rw [if_pos (by omega), show ((frB (hdF x.len x.gv x.len) x.len (b + 1) : Int) - 1).toNat = pc by omega, ← ha]
    exact nextL_has _ _ _ ho
  unfold sucF sucP
  rw [List.take_length]
  exact List.mem_map.2 ⟨(a : Int), List.mem_filter.2 ⟨hnx, by simp; omega⟩, by rw [Int.toNat_natCast, hat]⟩

end Go.Proofs.YtchechdcebmoeaaDoor

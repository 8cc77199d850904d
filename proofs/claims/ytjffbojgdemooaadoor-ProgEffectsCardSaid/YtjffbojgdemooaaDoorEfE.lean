/-
  ProgEffects: what a verdict of none gives; the law's walk.
-/
import Derived.Test.YtjffbojgdemooaaDoorEfB
import Derived.Test.YtjffbojgdemooaaDoorPMy1
import Derived.Test.YtjffbojgdemooaaDoorLgt
namespace Go.Proofs.YtjffbojgdemooaaDoor
open Go.RowKit

/-- What each method of a program that may be keeps. -/
def FineM (nc nm : Nat) (f : Nat → ByteArray) (x : Meth) : Prop :=
  x.len ≤ 120 ∧ ∀ i, i < x.len → (1 ≤ x.gv i 0 ∧ x.gv i 0 ≤ 35) ∧ namedB nc nm ((x.ps.size : Int) + x.ls.size) (fun i => (f i).size) (x.gv i 0) (x.gv i 1) (x.gv i 2) = true ∧ (x.gv i 0 = 22 ∨ x.gv i 0 = 23 → (Lit.int .i64 (x.gv i 1)).wf = true)

theorem instrC_fine {nb : Bool} {cl : Nat} {op A B N : Int} (h : instrC nb cl op A B N = 0) (hl : cl ≤ 120) : (1 ≤ op ∧ op ≤ 35) ∧ nb = true ∧ (op = 22 ∨ op = 23 → (Lit.int .i64 A).wf = true) := by
  unfold instrC at h
  split at h
  · cases h
  · split at h
    · cases h
    · split at h
      · cases h
      · rename_i h1 h2 h3
        refine ⟨by omega, by simpa using h2, fun e => ?_⟩
        have h4 : ¬ inside A cl = false := fun h5 => h3 ⟨e, h5⟩
        have h6 : 0 ≤ A ∧ A < (cl : Int) := by simpa [inside] using h4
        exact wf64y (by omega) (by omega)

theorem verdict_fine {nc nm : Nat} {f : Nat → ByteArray} {ms : Nat → Meth} (h : verdict nc nm f ms = none) {m : Nat} (hm : m < nm) : FineM nc nm f (ms m) := by
  unfold verdict progW at h
  split at h
  · cases h
  · split at h
    · rename_i h1 h2
      exact absurd h (goodM_bad h2)
    · rename_i h1 h2
      have h3 := goodM_ok (nc := nc) (nm := nm) (f := f) (ms := ms) (i := m) (by omega)
      unfold mthV methW at h3
      split at h3
      · cases h3
      · split at h3
        · cases h3
        · rename_i h4 h5
          have h6 : (ms m).len ≤ 120 := by
            rcases Nat.lt_or_ge 120 (ms m).len with h7 | h7
            · exact absurd (by rw [headA, if_pos (.inr (.inr h7))]; omega) h4
            · exact h7
          refine ⟨h6, fun i hi => ?_⟩
          have h8 := goodI_ok (nc := nc) (nm := nm) (f := f) (ms m) (i := i) (by omega)
          unfold icA icOf at h8
          have h9 := instrC_fine h8 h6
          refine ⟨h9.1, ?_, h9.2.2⟩
          have := h9.2.1
          rw [show (((ms m).ps.size + (ms m).ls.size : Nat) : Int) = ((ms m).ps.size : Int) + (ms m).ls.size by omega] at this
          exact this

def NxQ (B : World) (L : List Int) (w1 : World) (e : Ending) (w2 : World) : Prop := ∃ ad n c, e = .returned (.slice ad n c) ∧ BelB B w2 ∧ BelB w1 w2 ∧ Row .i64 w2 ad n c L

theorem Row.belowB {w w' : World} {a : Option Addr} {len cap : Nat} {zs : List Int} (h : Row .i64 w a len cap zs) (hb : BelB w w') : Row .i64 w' a len cap zs :=
  Row_kept h fun p _v hc => (Below.cell hb (World.block_lt_of_cell? w p hc)).trans hc

theorem nx_of {B w' : World} {L : List Int} {fn : Nat} {args : Array Value} (h : BelB B w') (hc : Calls Tryd.prog fn args w' (NextQ L w')) : Calls Tryd.prog fn args w' (NxQ B L w') :=
  hc.mono (by rintro e w2 ⟨a, n, c, rfl, h1, h2⟩; exact ⟨a, n, c, rfl, Below.trans h (Below.mono h2 h.size), h2, h1⟩)

theorem bq_of {B w' : World} {b : Bool} {fn : Nat} {args : Array Value} (h : BelB B w') (hc : Calls Tryd.prog fn args w' (BoolPost b w')) : Calls Tryd.prog fn args w' (BoolQ B b) :=
  hc.mono (by rintro e w2 ⟨rfl, h2⟩; exact ⟨rfl, Below.trans h (Below.mono h2 h.size)⟩)

theorem si_of {B w' : World} {L : List Int} {a1 a2 : Option Addr} {n1 c1 n2 c2 : Nat} (hl : L.length ≤ 2) (h : BelB B w') (h1 : Row .i64 w' a1 n1 c1 L) (h2 : Row .i64 w' a2 n2 c2 L) :
    Calls Tryd.prog 28 #[.slice a1 n1 c1, .slice a2 n2 c2] w' (BoolQ B true) :=
  (same_ints a1 a2 n1 c1 n2 c2 L L w' h1 h2 (by have := h1.len_eq; omega)).mono (by
    rintro e w2 ⟨rfl, q, rfl⟩
    exact ⟨by simp, below_drewN h q⟩)

theorem next_len (len : Nat) (gv : Nat → Nat → Int) (pc : Int) : (nextM len gv pc).length ≤ 2 := by
  unfold nextM nextL
  split
  · split
    · simp
    · split
      · simp
      · split
        · simp
        · split <;> simp
  · simp

/-- What the document's May answers: its number; none: each method is fine. -/
def MayF (nc nm : Nat) (f : Nat → ByteArray) (ms : Nat → Meth) (B : World) (e : Ending) (w2 : World) : Prop :=
  ∃ (C : Int) (ad : Option Addr) (n c : Nat), e = .returned (.agg #[.int .i64 C, .slice ad n c]) ∧ BelB B w2 ∧ (C = 0 → ∀ m, m < nm → FineM nc nm f (ms m))

theorem mayF_of (ca : Option Addr) (nc cc : Nat) (f : Nat → ByteArray) (ma : Option Addr) (nm mc : Nat) (ms : Nat → Meth) (B w' : World) (h : BelB B w') (hP : Prg w' ca nc cc f ma nm mc ms) (hS : Sml nc f nm ms) (hc : nc ≤ 20) (hm : nm ≤ 20) :
    Calls Tryd.prog 37 #[.agg #[.slice ca nc cc, .slice ma nm mc]] w' (MayF nc nm f ms B) := by
  by_cases hbare : 12 < nc ∨ nm = 0 ∨ 12 < nm
  · exact (rmay_bare ca nc cc ma nm mc w' (by omega) hbare).mono (by rintro e w2 ⟨rfl, h2⟩; exact ⟨101, none, 0, 0, rfl, Below.trans h (Below.mono h2 h.size), fun e => by cases e⟩)
  · refine (rMay_any ca nc cc f ma nm mc ms w' (by omega) (by omega) (by omega) hP hS).mono ?_
    cases hv : verdict nc nm f ms with
    | none =>
      rintro e w2 ⟨h2, rfl⟩
      exact ⟨0, none, 0, 0, rfl, Below.trans h (Below.mono h2 h.size), fun _ m hm => verdict_fine hv hm⟩
    | some x =>
      obtain ⟨c, m, pc⟩ := x
      rintro e w2 ⟨h2, g, rfl, y0, y1⟩
      exact ⟨_, _, 2, 2, rfl, Below.trans h (Below.mono h2 h.size), fun e => by omega⟩

def EffRel (n : Nat) (W0 : World) (si : Value) (wr : World) : Prop := ∃ k : Nat, k ≤ n ∧ si = .int .i64 k ∧ BelB W0 wr

end Go.Proofs.YtjffbojgdemooaaDoor

/-
  A program in memory, and what keeps it from being one, plainly.
-/
import Derived.Test.YtjffbojgdemooaaDoorRfA
import Derived.Test.YtjffbojgdemooaaDoorPrg7
namespace Go.Proofs.YtjffbojgdemooaaDoor
open Go.RowKit

structure Meth where
  ps : ByteArray
  ls : ByteArray
  rt : ByteArray
  co : Option Addr
  len : Nat
  cp : Nat
  gv : Nat → Nat → Int

/-- A program as it lies in memory. -/
structure Prg (w : World) (ca : Option Addr) (nc cc : Nat) (f : Nat → ByteArray) (ma : Option Addr) (nm mc : Nat) (ms : Nat → Meth) : Prop where
  cls : Cls w ca nc cc f
  le : nm ≤ mc
  max : mc ≤ maxLen
  nil : ma = none → mc = 0
  cells : ∀ ad, ma = some ad → ∀ i, i < nm → w.cell? (ad.add (i * 4)) = some (.string (ms i).ps) ∧ w.cell? (ad.add (i * 4 + 1)) = some (.string (ms i).ls) ∧ w.cell? (ad.add (i * 4 + 2)) = some (.string (ms i).rt) ∧ w.cell? (ad.add (i * 4 + 3)) = some (.slice (ms i).co (ms i).len (ms i).cp)
  code : ∀ i, i < nm → Picks w (ms i).co (ms i).len (ms i).cp (ms i).gv

theorem Prg_at {w : World} {ca : Option Addr} {nc cc : Nat} {f : Nat → ByteArray} {ma : Option Addr} {nm mc : Nat} {ms : Nat → Meth} (h : Prg w ca nc cc f ma nm mc ms) (hp : 0 < nm) :
    ∃ mb mo, ma = some ⟨mb, mo, none⟩ ∧ mb < w.heap.size ∧ ∀ i, i < nm → w.cell? ⟨mb, mo + i * 4, none⟩ = some (.string (ms i).ps) ∧ w.cell? ⟨mb, mo + i * 4 + 1, none⟩ = some (.string (ms i).ls) ∧ w.cell? ⟨mb, mo + i * 4 + 2, none⟩ = some (.string (ms i).rt) ∧ w.cell? ⟨mb, mo + i * 4 + 3, none⟩ = some (.slice (ms i).co (ms i).len (ms i).cp) := by
  cases ma with
  | none => have h1 := h.nil rfl; have h2 := h.le; omega
  | some ad =>
    obtain ⟨b, off, s⟩ := ad
    have h0 := (h.cells _ rfl 0 hp).1
    have hs : s = none := by simpa [Addr.add] using World.cell?_spot h0
    subst hs
    have e : ∀ k, (⟨b, off, none⟩ : Addr).add k = ⟨b, off + k, none⟩ := by
      intro k
      unfold Addr.add
      split
      · rename_i h; subst h; rfl
      · rfl
    rw [e] at h0
    refine ⟨b, off, rfl, World.block_lt_of_cell? w _ h0, fun i hi => ?_⟩
    have hc := h.cells _ rfl i hi
    rw [e, e, e, e] at hc
    exact hc

theorem Prg.below {w w' : World} {ca : Option Addr} {nc cc : Nat} {f : Nat → ByteArray} {ma : Option Addr} {nm mc : Nat} {ms : Nat → Meth} (h : Prg w ca nc cc f ma nm mc ms) (hb : Below w.heap.size w w') : Prg w' ca nc cc f ma nm mc ms :=
  ⟨h.cls.below hb, h.le, h.max, h.nil, fun ad had i hi => by
    obtain ⟨a0, a1, a2, a3⟩ := h.cells ad had i hi
    exact ⟨(hb.cell (World.block_lt_of_cell? w _ a0)).trans a0, (hb.cell (World.block_lt_of_cell? w _ a1)).trans a1, (hb.cell (World.block_lt_of_cell? w _ a2)).trans a2, (hb.cell (World.block_lt_of_cell? w _ a3)).trans a3⟩,
    fun i hi => (h.code i hi).below hb⟩

/-- Methods' texts and code are not long. -/
structure Sml (nc : Nat) (f : Nat → ByteArray) (nm : Nat) (ms : Nat → Meth) : Prop where
  fs : ∀ i, i < nc → (f i).size ≤ maxLen
  ps : ∀ i, i < nm → (ms i).ps.size ≤ 1000
  ls : ∀ i, i < nm → (ms i).ls.size ≤ 1000
  rt : ∀ i, i < nm → (ms i).rt.size ≤ 1000
  len : ∀ i, i < nm → (ms i).len ≤ 1000

/-- How many of n are good ahead of the first bad one. -/
def firstBad (bad : Nat → Bool) : Nat → Nat
  | 0 => 0
  | n + 1 => if firstBad bad n < n then firstBad bad n else if bad n = true then n else n + 1

theorem firstBad_le (bad : Nat → Bool) : ∀ n, firstBad bad n ≤ n
  | 0 => Nat.le_refl _
  | n + 1 => by
    unfold firstBad
    have := firstBad_le bad n
    split
    · omega
    · split <;> omega

theorem firstBad_ok (bad : Nat → Bool) : ∀ n i, i < firstBad bad n → bad i = false
  | 0, _, h => absurd h (Nat.not_lt_zero _)
  | n + 1, i, h => by
    unfold firstBad at h
    have ih := firstBad_ok bad n
    have hle := firstBad_le bad n
    split at h
    · exact ih i h
    · split at h
      · exact ih i (by omega)
      · rename_i h1 h2
        by_cases e : i = n
        · subst e; simpa using h2
        · exact ih i (by omega)

theorem firstBad_bad (bad : Nat → Bool) : ∀ n, firstBad bad n < n → bad (firstBad bad n) = true
  | 0, h => absurd h (Nat.not_lt_zero _)
  | n + 1, h => by
    unfold firstBad at h ⊢
    have ih := firstBad_bad bad n
    split
    · rename_i h1; exact ih h1
    · split
      · assumption
      · rename_i h1 h2
        rw [if_neg h1, if_neg h2] at h
        omega

theorem firstBad_one (bad : Nat → Bool) : firstBad bad 1 = if bad 0 = true then 0 else 1 := by
  unfold firstBad
  simp [firstBad]

/-- What keeps a class from being one. -/
noncomputable def clsC (s : ByteArray) : Nat := if 10 < s.size then 1 else if fairB s = true then 0 else 2

/-- Which answer a method gives: none, an integer, a reference; 3: no such thing. -/
def retK (s : ByteArray) : Nat := if s = ⟨#[]⟩ then 0 else if s = ⟨#[73]⟩ then 1 else if s = ⟨#[82]⟩ then 2 else 3

/-- What keeps a method's head from being one. fi: it is the first. -/
noncomputable def headA (fi : Bool) (ps ls rt : ByteArray) (len : Nat) : Nat :=
  if 12 < ps.size + ls.size ∨ len = 0 ∨ 120 < len then 1
  else if fairB ps = false ∨ fairB ls = false ∨ retK rt = 3 ∨ (fi = true ∧ (ps ≠ ⟨#[]⟩ ∨ retK rt = 2)) then 2 else 0

/-- What keeps instruction i of a method from being one. -/
def icA (nc nm : Nat) (f : Nat → ByteArray) (x : Meth) (i : Nat) : Nat := icOf nc nm (x.ps.size + x.ls.size) f x.len x.gv i

noncomputable def mthV (nc nm : Nat) (f : Nat → ByteArray) (ms : Nat → Meth) (m : Nat) : Option (Nat × Int × Int) :=
  methW (headA (decide (m = 0)) (ms m).ps (ms m).ls (ms m).rt (ms m).len) m (ms m).len (firstBad (fun i => decide (icA nc nm f (ms m) i ≠ 0)) (ms m).len) (icA nc nm f (ms m))

noncomputable def goodC (nc : Nat) (f : Nat → ByteArray) : Nat := firstBad (fun i => decide (clsC (f i) ≠ 0)) nc
noncomputable def goodM (nc nm : Nat) (f : Nat → ByteArray) (ms : Nat → Meth) : Nat := firstBad (fun m => (mthV nc nm f ms m).isSome) nm

/-- What keeps a program of few classes and methods from being one. -/
noncomputable def verdict (nc nm : Nat) (f : Nat → ByteArray) (ms : Nat → Meth) : Option (Nat × Int × Int) :=
  progW nc (goodC nc f) nm (goodM nc nm f ms) (fun i => clsC (f i)) (mthV nc nm f ms)

section
variable {nc nm : Nat} {f : Nat → ByteArray} {ms : Nat → Meth}
theorem goodC_le : goodC nc f ≤ nc := firstBad_le _ _
theorem goodC_ok {i : Nat} (h : i < goodC nc f) : clsC (f i) = 0 := by have := firstBad_ok _ _ _ h; simpa using this
theorem goodC_bad (h : goodC nc f < nc) : clsC (f (goodC nc f)) ≠ 0 := of_decide_eq_true (firstBad_bad (fun i => decide (clsC (f i) ≠ 0)) nc h)
theorem goodM_le : goodM nc nm f ms ≤ nm := firstBad_le _ _
theorem goodM_ok {i : Nat} (h : i < goodM nc nm f ms) : mthV nc nm f ms i = none := by have := firstBad_ok _ _ _ h; simpa using this
theorem goodM_bad (h : goodM nc nm f ms < nm) : mthV nc nm f ms (goodM nc nm f ms) ≠ none := by
  have := firstBad_bad (fun m => (mthV nc nm f ms m).isSome) nm h
  intro e
  have e2 : mthV nc nm f ms (firstBad (fun m => (mthV nc nm f ms m).isSome) nm) = none := e
  rw [e2] at this
  cases this
theorem goodI_le (x : Meth) : firstBad (fun i => decide (icA nc nm f x i ≠ 0)) x.len ≤ x.len := firstBad_le _ _
theorem goodI_ok (x : Meth) {i : Nat} (h : i < firstBad (fun i => decide (icA nc nm f x i ≠ 0)) x.len) : icA nc nm f x i = 0 := by have := firstBad_ok _ _ _ h; simpa using this
theorem goodI_bad (x : Meth) (h : firstBad (fun i => decide (icA nc nm f x i ≠ 0)) x.len < x.len) : icA nc nm f x (firstBad (fun i => decide (icA nc nm f x i ≠ 0)) x.len) ≠ 0 := of_decide_eq_true (firstBad_bad (fun i => decide (icA nc nm f x i ≠ 0)) x.len h)
end

end Go.Proofs.YtjffbojgdemooaaDoor

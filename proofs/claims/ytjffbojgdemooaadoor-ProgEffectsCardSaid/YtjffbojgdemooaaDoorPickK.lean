/-
  A list of four numbers each, in memory.
-/
import Derived.Test.YtjffbojgdemooaaDoorMayK
namespace Go.Proofs.YtjffbojgdemooaaDoor
open Go.RowKit

/-- A list of picks: four numbers each. -/
structure Picks (w : World) (a : Option Addr) (len cap : Nat) (gv : Nat → Nat → Int) : Prop where
  le : len ≤ cap
  max : cap ≤ maxLen
  nil : a = none → cap = 0
  cells : ∀ ad, a = some ad → ∀ i j, i < len → j < 4 → w.cell? (ad.add (i * 4 + j)) = some (.int .i64 (gv i j))

theorem Picks_at {w : World} {a : Option Addr} {len cap : Nat} {gv : Nat → Nat → Int} (h : Picks w a len cap gv) (hp : 0 < len) :
    ∃ b off, a = some ⟨b, off, none⟩ ∧ b < w.heap.size ∧ ∀ i j, i < len → j < 4 → w.cell? ⟨b, off + (i * 4 + j), none⟩ = some (.int .i64 (gv i j)) := by
  cases a with
  | none => have h1 := h.nil rfl; have h2 := h.le; omega
  | some ad =>
    obtain ⟨b, off, s⟩ := ad
    have h0 := h.cells _ rfl 0 0 hp (by omega)
    have hs : s = none := by simpa [Addr.add] using World.cell?_spot h0
    subst hs
    have e : ∀ k, (⟨b, off, none⟩ : Addr).add k = ⟨b, off + k, none⟩ := by
      intro k
      unfold Addr.add
      split
      · rename_i h; subst h; rfl
      · rfl
    rw [e] at h0
    refine ⟨b, off, rfl, World.block_lt_of_cell? w _ h0, fun i j hi hj => ?_⟩
    have hc := h.cells _ rfl i j hi hj
    rw [e] at hc
    exact hc

theorem Picks.below {w w' : World} {a : Option Addr} {len cap : Nat} {gv : Nat → Nat → Int} (h : Picks w a len cap gv) (hb : Below w.heap.size w w') : Picks w' a len cap gv :=
  ⟨h.le, h.max, h.nil, fun ad had i j hi hj => (hb.cell (World.block_lt_of_cell? w _ (h.cells ad had i j hi hj))).trans (h.cells ad had i j hi hj)⟩

end Go.Proofs.YtjffbojgdemooaaDoor

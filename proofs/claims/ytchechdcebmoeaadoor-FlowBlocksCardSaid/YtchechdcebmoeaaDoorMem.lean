/-
  What the walks share on memory: rows of integers, what a call owns, what lies below a block. Over any program.
-/
import Derived.Test.YtchechdcebmoeaaDoorKit
import Derived.OwnWalk
import Derived.Maps.RangeWalk
import Derived.Lib.Hide
import Derived.Deep.QuietTactic
import Derived.BigQuiet
namespace Go.Proofs.YtchechdcebmoeaaDoor
open Go.RowKit

/-- A slice of integers of a kind that can be read: its elements. -/
structure Row (k : IntKind) (w : World) (a : Option Addr) (len cap : Nat) (zs : List Int) : Prop where
  len_eq : zs.length = len
  le : len ≤ cap
  max : cap ≤ maxLen
  nil : a = none → cap = 0
  cells : ∀ ad, a = some ad → ∀ j, j < len → w.cell? (ad.add j) = some (.int k (zs.getD j 0))
  wf : ∀ n ∈ zs, (Lit.int k n).wf = true

/-- A row that is not empty begins at an address, and its cells lie one behind the other. -/
theorem Row_at {k : IntKind} {w : World} {a : Option Addr} {len cap : Nat} {zs : List Int} (h : Row k w a len cap zs) (hp : 0 < len) :
    ∃ b off, a = some ⟨b, off, none⟩ ∧ ∀ j, j < len → w.cell? ⟨b, off + j, none⟩ = some (.int k (zs.getD j 0)) := by
  cases a with
  | none => have h1 := h.nil rfl; have h2 := h.le; omega
  | some ad =>
    obtain ⟨b, off, s⟩ := ad
    have h0 := h.cells _ rfl 0 hp
    have hs : s = none := by simpa [Addr.add] using World.cell?_spot h0
    subst hs
    refine ⟨b, off, rfl, fun j hj => ?_⟩
    have hj' := h.cells _ rfl j hj
    have e : (⟨b, off, none⟩ : Addr).add j = ⟨b, off + j, none⟩ := by
      unfold Addr.add
      split
      · rename_i h; subst h; rfl
      · rfl
    rw [e] at hj'
    exact hj'

/-- What a call owns reads as a row. -/
theorem row_of_owns {k : IntKind} {w : World} {base e m : Nat} {v : Value} {zs : List Int} (h : w.ownsRow base e 1 v m (zs.map (Value.int k))) (hwf : ∀ n ∈ zs, (Lit.int k n).wf = true) :
    ∃ a cap, v = .slice a m cap ∧ Row k w a m cap zs := by
  have hl : zs.length = m := by simpa using h.1
  rcases h.2 with ⟨rfl, hm⟩ | ⟨g, cap, cur, rfl, hb, hg, hnc, hcm, hcs, ht⟩
  · subst hm
    exact ⟨none, 0, rfl, ⟨hl, Nat.le_refl _, Nat.zero_le _, fun _ => rfl, fun ad h => (by cases h), hwf⟩⟩
  · refine ⟨some ⟨g, 0, none⟩, cap, rfl, ⟨hl, hnc, hcm, fun h => (by cases h), fun ad had j hj => ?_, hwf⟩⟩
    cases had
    have e : (⟨g, 0, none⟩ : Addr).add j = ⟨g, j, none⟩ := by
      unfold Addr.add
      split
      · rename_i h; subst h; rfl
      · simp
    rw [e, h.cellAt j (by omega)]
    rw [List.getElem?_map, List.getElem?_eq_getElem (by omega)]
    simp [List.getD, List.getElem?_eq_getElem (show j < zs.length by omega)]

theorem wf_i64 {x : Int} (h : (Lit.int .i64 x).wf = true) : -9223372036854775808 ≤ x ∧ x ≤ 9223372036854775807 := by
  simp [Lit.wf, IntKind.min, IntKind.max, IntKind.signed, IntKind.bits] at h
  omega

theorem wf_u64 {x : Int} (h : (Lit.int .u64 x).wf = true) : 0 ≤ x ∧ x < 18446744073709551616 := by
  simp [Lit.wf, IntKind.min, IntKind.max, IntKind.signed, IntKind.bits] at h
  omega

theorem wf_u8 {x : Int} (h : (Lit.int .u8 x).wf = true) : 0 ≤ x ∧ x < 256 := by
  simp [Lit.wf, IntKind.min, IntKind.max, IntKind.signed, IntKind.bits] at h
  omega

theorem row_nil (k : IntKind) (w : World) : Row k w none 0 0 [] := ⟨rfl, Nat.le_refl _, Nat.zero_le _, fun _ => rfl, fun ad h => (by cases h), fun n hn => (by cases hn)⟩

theorem Row_kept {k : IntKind} {w w' : World} {a : Option Addr} {len cap : Nat} {zs : List Int} (h : Row k w a len cap zs) (hg : ∀ p v, w.cell? p = some v → w'.cell? p = some v) : Row k w' a len cap zs :=
  ⟨h.len_eq, h.le, h.max, h.nil, fun ad had j hj => hg _ _ (h.cells ad had j hj), h.wf⟩

theorem Row_alloc {k : IntKind} {w : World} {a : Option Addr} {len cap : Nat} {zs : List Int} (h : Row k w a len cap zs) (o : Obj) : Row k (w.alloc o) a len cap zs :=
  Row_kept h fun _ _ hc => (World.grownBy_alloc w o none).cell hc (by simp)

/-- A row whose block is below B reads as it did. -/
theorem Row_below {k : IntKind} {B : Nat} {w w' : World} {a : Option Addr} {len cap : Nat} {zs : List Int} (h : Row k w a len cap zs) (hb : Below B w w') (ha : ∀ ad, a = some ad → ad.block < B) : Row k w' a len cap zs :=
  ⟨h.len_eq, h.le, h.max, h.nil, fun ad had j hj => (hb.cell (p := ad.add j) (by rw [show (ad.add j).block = ad.block from by unfold Addr.add; split <;> rfl]; exact ha ad had)).trans (h.cells ad had j hj), h.wf⟩

/-- A row of a world lies below its size. -/
theorem Row_lt {k : IntKind} {w : World} {a : Option Addr} {len cap : Nat} {zs : List Int} (h : Row k w a len cap zs) (hp : 0 < len) : ∀ ad, a = some ad → ad.block < w.heap.size := by
  intro ad had
  have hc := h.cells ad had 0 hp
  exact World.block_lt_of_cell? w _ hc

theorem Row_cells {k : IntKind} {w w' : World} {a : Option Addr} {len cap : Nat} {zs : List Int} (h : Row k w a len cap zs) (hb : Below w.heap.size w w') : Row k w' a len cap zs :=
  Row_kept h fun p _ hc => (hb.cell (World.block_lt_of_cell? w p hc)).trans hc

theorem Row_drewN {k : IntKind} {w : World} {a : Option Addr} {len cap : Nat} {zs : List Int} (h : Row k w a len cap zs) (n : Nat) : Row k (w.drewN n) a len cap zs := Row_kept h fun _ _ hc => hc

theorem below_drewN {B : Nat} {a w : World} (h : Below B a w) (n : Nat) : Below B a (w.drewN n) := ⟨h.os, h.tape, h.output, h.size, h.block⟩

/-- What first answers, behind a definition. -/
def TruePost (w : World) (e : Ending) (w' : World) : Prop := e = .returned (.bool true) ∧ Below w.heap.size w w'

theorem Row_sub {k : IntKind} {w : World} {b off len cap : Nat} {zs : List Int} (h : Row k w (some ⟨b, off, none⟩) len cap zs) (j m : Nat) (hjm : j + m ≤ len) :
    Row k w (some ⟨b, off + j, none⟩) m (cap - j) ((zs.drop j).take m) := by
  have hl := h.len_eq
  have hle := h.le
  refine ⟨by rw [List.length_take, List.length_drop]; omega, by omega, (by have := h.max; omega), fun e => (by cases e), fun ad had i hi => ?_, fun n hn => h.wf n (List.mem_of_mem_drop (List.mem_of_mem_take hn))⟩
  cases had
  obtain ⟨b', off', e, hc⟩ := Row_at h (by omega)
  cases e
  have e2 : (⟨b, off + j, none⟩ : Addr).add i = ⟨b, off + (j + i), none⟩ := by
    unfold Addr.add
    split
    · rename_i h0; subst h0; rfl
    · simp [Nat.add_assoc]
  rw [e2, hc (j + i) (by omega)]
  simp [List.getD, hi, List.getElem?_drop]

theorem grown_of_below {a w : World} (h : Below a.heap.size a w) : a.grownBy w none := ⟨h.os, h.tape, h.output, h.size, fun k hk _ => h.block k hk⟩

theorem own_form {B : Nat} {w : World} {v : Value} {e n : Nat} {xs : List Value} (h : w.ownsRow B e 1 v n xs) (hn : 0 < n) : ∃ g cap, v = .slice (some ⟨g, 0, none⟩) n cap := by
  rcases h.2 with ⟨_, h0⟩ | ⟨g, cap, cur, hv, _⟩
  · omega
  · exact ⟨g, cap, hv⟩

theorem own_block_lt {B : Nat} {w : World} {v : Value} {e n : Nat} {xs : List Value} (h : w.ownsRow B e 1 v n xs) : ∀ k, v.ownBlock = some k → B ≤ k := fun k hk => (h.lt k hk).1

theorem wrap64_range (n : Int) : -9223372036854775808 ≤ wrap64 n ∧ wrap64 n ≤ 9223372036854775807 := by unfold wrap64; omega
theorem wrap64_id {n : Int} (h0 : -9223372036854775808 ≤ n) (h1 : n ≤ 9223372036854775807) : wrap64 n = n := by unfold wrap64; omega
theorem wrap64_mod (n : Int) : wrap64 n % 18446744073709551616 = n % 18446744073709551616 := by unfold wrap64; omega
theorem wrap64_congr {x y : Int} (h : x % 18446744073709551616 = y % 18446744073709551616) : wrap64 x = wrap64 y := by unfold wrap64; omega

end Go.Proofs.YtchechdcebmoeaaDoor

/-
  A slice of picks as it comes in, opened.
-/
import Derived.Test.YtjcklfbpdjfibaaDoorPikM
import Derived.Deep.Slices
import Derived.ChangeArms
namespace Go.Proofs.YtjcklfbpdjfibaaDoor
open Go.RowKit Go.ChangeShapes Go.WideShapes Go.Deep

theorem pickCells : Tryd.prog.cellsOf 107 = 4 := by kernel_rfl
theorem intCellsP : Tryd.prog.cellsOf 3 = 1 := by kernel_rfl

theorem picks_ofT {H : Type} {enc : TypeId × Value → H} {W : World} {base : Nat} {spare : Nat → Bool} {held : Bool} {fuel len cap : Nat} {a : Option Addr} {x : DataW H × List MemPlace}
    (h : DataW.trod enc Tryd.prog W base spare held fuel 88 [.slice a len cap] = some x) : ∃ gv, Picks W a len cap gv := by
  rcases open_slice Tryd.underlying88 h with ⟨hcs, _⟩ | ⟨ad, l, c, m, fl, D, Pl, hcs, _, hl, hm, hmm, _, hel⟩
  · simp at hcs
    obtain ⟨rfl, rfl, rfl⟩ := hcs
    exact ⟨fun _ _ => 0, ⟨Nat.le_refl _, Nat.zero_le _, fun _ => rfl, fun ad h => (by cases h)⟩⟩
  · simp at hcs
    obtain ⟨rfl, rfl, rfl⟩ := hcs
    have hlm : len ≤ m := by rw [hmm]; split <;> omega
    have key : ∀ i j, i < len → j < 4 → ∃ z : Int, W.cell? (ad.add (i * 4 + j)) = some (.int .i64 z) ∧ (Lit.int .i64 z).wf = true := by
      intro i j hi hj
      obtain ⟨cs', hc, ht⟩ := hel i (by omega)
      rw [pickCells] at hc
      obtain ⟨xs, n, _, _, hlen, hxl, hf⟩ := DataW.trod_struct Tryd.underlying107 ht
      rw [pickCells] at hlen
      obtain ⟨_, hcl, hat⟩ := World.cells?_some hc
      have hcell := hat j hj
      rw [add_add] at hcell
      have fin : ∀ (t : TypeId) (o : Nat), Tryd.prog.underlying t = some (.int .i64) → Tryd.prog.cellsOf t = 1 → o = j → (∃ y, DataW.trod enc Tryd.prog W base spare held n t ((cs'.drop o).take (Tryd.prog.cellsOf t)) = some y) → ∃ z : Int, W.cell? (ad.add (i * 4 + j)) = some (.int .i64 z) ∧ (Lit.int .i64 z).wf = true := by
        rintro t o hu h1 rfl ⟨y, hy⟩
        rw [h1] at hy
        obtain ⟨z, hz, _, hw⟩ := DataW.trod_int hu hy
        refine ⟨z, ?_, hw⟩
        rw [hcell]
        have : (cs'.drop o).take 1 = [cs'[o]'(by omega)] := by
          rw [List.drop_eq_getElem_cons (by omega)]
          rfl
        rw [this] at hz
        rw [List.getElem?_eq_getElem (by omega)]
        simpa using hz
      have hxs : ∀ k, k < 4 → ∃ y, xs[k]? = some y := fun k hk => ⟨_, List.getElem?_eq_getElem (by rw [hxl]; exact hk)⟩
      match j, hj with
      | 0, _ => obtain ⟨y, hy⟩ := hxs 0 (by omega); exact fin _ 0 Tryd.underlying3 intCellsP rfl ⟨y, (hf 0 _ rfl).trans hy⟩
      | 1, _ => obtain ⟨y, hy⟩ := hxs 1 (by omega); exact fin _ 1 Tryd.underlying3 intCellsP rfl ⟨y, (hf 1 _ rfl).trans hy⟩
      | 2, _ => obtain ⟨y, hy⟩ := hxs 2 (by omega); exact fin _ 2 Tryd.underlying3 intCellsP rfl ⟨y, (hf 2 _ rfl).trans hy⟩
      | 3, _ => obtain ⟨y, hy⟩ := hxs 3 (by omega); exact fin _ 3 Tryd.underlying3 intCellsP rfl ⟨y, (hf 3 _ rfl).trans hy⟩
    refine ⟨fun i j => if h : i < len ∧ j < 4 then (key i j h.1 h.2).choose else 0, ⟨hl, hm, fun e => (by cases e), fun ad' had i j hi hj => ?_⟩⟩
    cases had
    simp only [hi, hj, and_self, dite_true]
    exact (key i j hi hj).choose_spec.1

end Go.Proofs.YtjcklfbpdjfibaaDoor

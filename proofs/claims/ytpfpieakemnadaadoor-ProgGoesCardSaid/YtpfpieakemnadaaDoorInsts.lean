/-
  The law on where a method goes on, over a slice of instructions as it comes in.
-/
import Derived.Test.YtpfpieakemnadaaDoorGoes
import Derived.Deep.Slices
import Derived.ChangeArms
namespace Go.Proofs.YtpfpieakemnadaaDoor
open Go.RowKit Go.ChangeShapes Go.WideShapes Go.Deep

/-- A list of instructions: four numbers each. -/
structure Insts (w : World) (a : Option Addr) (len cap : Nat) (gv : Nat → Nat → Int) : Prop where
  le : len ≤ cap
  max : cap ≤ maxLen
  nil : a = none → cap = 0
  cells : ∀ ad, a = some ad → ∀ i j, i < len → j < 4 → w.cell? (ad.add (i * 4 + j)) = some (.int .i64 (gv i j))
  wf : ∀ i j, i < len → j < 4 → (Lit.int .i64 (gv i j)).wf = true

theorem goes_main (ad : Option Addr) (len cap : Nat) (gv : Nat → Nat → Int) (pc : Int) (w : World) (h : Insts w ad len cap gv) (_hp : (Lit.int .i64 pc).wf = true) (hL : laidMetH Tryd.prog Rows.progGoesRow.laid w) :
    Calls Tryd.prog 10 #[.slice ad len cap, .int .i64 pc] w (TruePost w) := by
  obtain ⟨a, hS⟩ := sents_of_laid (show (sentTexts.map mkSent : List (String × DataW Unit)) = Rows.progGoesRow.laid from rfl) (by kernel_rfl) hL
  by_cases hl : len ≤ 120
  · by_cases hk : 0 ≤ pc ∧ pc < len
    · obtain ⟨k, rfl⟩ : ∃ k : Nat, pc = k := ⟨pc.toNat, by omega⟩
      have hk2 : k < len := by omega
      have hP : Picks w ad len cap gv := ⟨h.le, h.max, h.nil, h.cells⟩
      obtain ⟨lb, lo, rfl, _, hc⟩ := Picks_at hP (by omega)
      have h0 := hc k 0 hk2 (by omega)
      have h1 := hc k 1 hk2 (by omega)
      have h2 := hc k 2 hk2 (by omega)
      have h3 := hc k 3 hk2 (by omega)
      rw [Nat.add_zero] at h0
      rw [← Nat.add_assoc] at h1 h2 h3
      exact goes_in lb lo len cap k _ _ _ _ a w hS ⟨h0, h1, h2, h3⟩ hk2 hl (h.wf k 1 hk2 (by omega))
    · exact goes_out ad len cap pc a w hS hl hk
  · exact goes_many ad len cap pc a w hS (by omega)

theorem instrCells : Tryd.prog.cellsOf 51 = 4 := by kernel_rfl
theorem intCells : Tryd.prog.cellsOf 3 = 1 ∧ Tryd.prog.cellsOf 2 = 1 := ⟨by kernel_rfl, by kernel_rfl⟩

theorem insts_of {H : Type} {enc : TypeId × Value → H} {W : World} {base : Nat} {spare : Nat → Bool} {held : Bool} {fuel len cap : Nat} {a : Option Addr} {x : DataW H × List MemPlace}
    (h : DataW.trod enc Tryd.prog W base spare held fuel 62 [.slice a len cap] = some x) : ∃ gv, Insts W a len cap gv := by
  rcases open_slice Tryd.underlying62 h with ⟨hcs, _⟩ | ⟨ad, l, c, m, fl, D, Pl, hcs, _, hl, hm, hmm, _, hel⟩
  · simp at hcs
    obtain ⟨rfl, rfl, rfl⟩ := hcs
    exact ⟨fun _ _ => 0, ⟨Nat.le_refl _, Nat.zero_le _, fun _ => rfl, fun ad h => (by cases h), fun i j hi => absurd hi (Nat.not_lt_zero _)⟩⟩
  · simp at hcs
    obtain ⟨rfl, rfl, rfl⟩ := hcs
    have hlm : len ≤ m := by rw [hmm]; split <;> omega
    have key : ∀ i j, i < len → j < 4 → ∃ z : Int, W.cell? (ad.add (i * 4 + j)) = some (.int .i64 z) ∧ (Lit.int .i64 z).wf = true := by
      intro i j hi hj
      obtain ⟨cs', hc, ht⟩ := hel i (by omega)
      rw [instrCells] at hc
      obtain ⟨xs, n, _, _, hlen, hxl, hf⟩ := DataW.trod_struct Tryd.underlying51 ht
      rw [instrCells] at hlen
      obtain ⟨_, hcl, hat⟩ := World.cells?_some hc
      have hcell := hat j hj
      rw [add_add] at hcell
      have fin : ∀ (t : TypeId) (o : Nat), Tryd.prog.underlying t = some (.int .i64) → Tryd.prog.cellsOf t = 1 → o = j → (∃ y, DataW.trod enc Tryd.prog W base spare held n t ((cs'.drop o).take (Tryd.prog.cellsOf t)) = some y) → ∃ z : Int, W.cell? (ad.add (i * 4 + j)) = some (.int .i64 z) ∧ (Lit.int .i64 z).wf = true := by
        rintro t o hu h1 rfl ⟨y, hy⟩
        rw [h1] at hy
        obtain ⟨z, hz, _, hw⟩ := DataW.trod_int hu hy
        refine ⟨z, ?_, hw⟩
        rw [hcell]
        have : (cs'.drop o).take 1 = [cs'[o]'(by omega)] := by
          rw [List.drop_eq_getElem_cons (by omega)]
          rfl
        rw [this] at hz
        rw [List.getElem?_eq_getElem (by omega)]
        simpa using hz
      have hxs : ∀ k, k < 4 → ∃ y, xs[k]? = some y := fun k hk => ⟨_, List.getElem?_eq_getElem (by rw [hxl]; exact hk)⟩
      match j, hj with
      | 0, _ => obtain ⟨y, hy⟩ := hxs 0 (by omega); exact fin _ 0 Tryd.underlying3 intCells.1 rfl ⟨y, (hf 0 _ rfl).trans hy⟩
      | 1, _ => obtain ⟨y, hy⟩ := hxs 1 (by omega); exact fin _ 1 Tryd.underlying3 intCells.1 rfl ⟨y, (hf 1 _ rfl).trans hy⟩
      | 2, _ => obtain ⟨y, hy⟩ := hxs 2 (by omega); exact fin _ 2 Tryd.underlying3 intCells.1 rfl ⟨y, (hf 2 _ rfl).trans hy⟩
      | 3, _ => obtain ⟨y, hy⟩ := hxs 3 (by omega); exact fin _ 3 Tryd.underlying2 intCells.2 rfl ⟨y, (hf 3 _ rfl).trans hy⟩
    refine ⟨fun i j => if h : i < len ∧ j < 4 then (key i j h.1 h.2).choose else 0, ⟨hl, hm, fun e => (by cases e), fun ad' had i j hi hj => ?_, fun i j hi hj => ?_⟩⟩
    · cases had
      simp only [hi, hj, and_self, dite_true]
      exact (key i j hi hj).choose_spec.1
    · simp only [hi, hj, and_self, dite_true]
      exact (key i j hi hj).choose_spec.2

end Go.Proofs.YtpfpieakemnadaaDoor

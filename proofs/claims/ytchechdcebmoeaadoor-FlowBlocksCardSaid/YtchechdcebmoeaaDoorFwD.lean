/-
  flow.newWalk, by a contract.
-/
import Derived.Test.YtchechdcebmoeaaDoorFwC
import Derived.Deep.Light
namespace Go.Proofs.YtchechdcebmoeaaDoor
open Go.RowKit

/-- A graph that can be read. -/
structure Grf (w : World) (a : Option Addr) (len cap : Nat) (g : List (List Int)) : Prop where
  len_eq : g.length = len
  le : len ≤ cap
  max : cap ≤ maxLen
  at_ : 0 < len → ∃ b off, a = some ⟨b, off, none⟩ ∧ b < w.heap.size ∧ ∀ j, j < len → ∃ ra rc, w.cell? ⟨b, off + j, none⟩ = some (.slice ra (degW g j) rc) ∧ Row .i64 w ra (degW g j) rc (g.getD j [])

theorem Grf.below {w w' : World} {a : Option Addr} {len cap : Nat} {g : List (List Int)} (h : Grf w a len cap g) (hb : Below w.heap.size w w') : Grf w' a len cap g :=
  ⟨h.len_eq, h.le, h.max, fun h0 => by
    obtain ⟨b, off, e, hl, hc⟩ := h.at_ h0
    refine ⟨b, off, e, Nat.lt_of_lt_of_le hl hb.size, fun j hj => ?_⟩
    obtain ⟨ra, rc, h1, h2⟩ := hc j hj
    exact ⟨ra, rc, (hb.cell (p := ⟨b, off + j, none⟩) hl).trans h1, Row_cells h2 hb⟩⟩

def stepCells (l : List (Nat × Nat)) : List Value := l.flatMap fun e => [.int .i64 (e.1 : Int), .int .i64 (e.2 : Int)]

/-- Fuel beyond what is needed makes no odds. -/
def DoneBy (g : List (List Int)) (s fin : Wk) : Prop := ∀ f, muW g s ≤ f → runW g f s = fin

theorem DoneBy.step {g : List (List Int)} {N : Nat} {s fin : Wk} (h : DoneBy g s fin) (ho : OkW g N s) {v k : Nat} (hp : s.path.getLast? = some (v, k)) : DoneBy g (stepW g s v k) fin := fun f hf => by
  have := h (max (f + 1) (muW g s)) (Nat.le_max_right _ _)
  obtain ⟨d, hd⟩ : ∃ d, max (f + 1) (muW g s) = d + 1 := ⟨max (f + 1) (muW g s) - 1, by omega⟩
  rw [hd, runW_next hp] at this
  have ho2 := (ho.step hp).1
  have more : ∀ (d f : Nat) (s : Wk), OkW g N s → muW g s ≤ f → f ≤ d → runW g d s = runW g f s := by
    intro d
    induction d with
    | zero =>
      intro f s _ _ h2
      obtain rfl : f = 0 := by omega
      rfl
    | succ d ih =>
      intro f s hs h1 h2
      cases hq : s.path.getLast? with
      | none =>
        have e : s.path = [] := by simpa using hq
        rw [runW_end e, runW_end e]
      | some x =>
        obtain ⟨v, k⟩ := x
        have hst := hs.step hq
        obtain ⟨f', rfl⟩ : ∃ f', f = f' + 1 := ⟨f - 1, by omega⟩
        rw [runW_next hq, runW_next hq]
        exact ih f' _ hst.1 (by omega) (by omega)
  rw [← more d f _ ho2 hf (by omega)]
  exact this

/-- What the loop of newWalk holds. -/
structure NwRep (g : List (List Int)) (N B p q : Nat) (ga : Option Addr) (gc : Nat) (fin : Wk) (W : World) (s : Wk) (s4 : Value) (wr : World) : Prop where
  ex : ∃ bs lv ov, Wb B p q g.length (.slice ga g.length gc) s bs lv ov wr
  path : wr.ownsRow B 228 2 s4 s.path.length (stepCells s.path)
  ok : OkW g N s
  fin : DoneBy g s fin
  below : Below W.heap.size W wr

theorem leastW {P : Nat → Prop} (n : Nat) (h : P n) : ∃ m, P m ∧ ∀ i, P i → m ≤ i := by
  induction n using Nat.strongRecOn with
  | _ n ih =>
    by_cases hx : ∃ i, i < n ∧ P i
    · obtain ⟨i, hi, hp⟩ := hx
      exact ih i hi hp
    · exact ⟨n, h, fun i hi => Nat.le_of_not_lt fun h2 => hx ⟨i, h2, hi⟩⟩

/-- The least measure of what a world shows. -/
noncomputable def leastM (g : List (List Int)) (R : Wk → Prop) : Nat := @dite Nat (∃ m, (∃ s, R s ∧ muW g s = m) ∧ ∀ i, (∃ s, R s ∧ muW g s = i) → m ≤ i) (Classical.propDecidable _) (fun h => h.choose) (fun _ => 0)
theorem leastM_spec {g : List (List Int)} {R : Wk → Prop} (h : ∃ s, R s) : ∃ s, R s ∧ muW g s = leastM g R := by
  obtain ⟨s, hs⟩ := h
  have hx : ∃ m, (∃ s, R s ∧ muW g s = m) ∧ ∀ i, (∃ s, R s ∧ muW g s = i) → m ≤ i := leastW (P := fun m => ∃ s, R s ∧ muW g s = m) _ ⟨s, hs, rfl⟩
  unfold leastM
  rw [dif_pos hx]
  exact hx.choose_spec.1
theorem leastM_le {g : List (List Int)} {R : Wk → Prop} {s : Wk} (h : R s) : leastM g R ≤ muW g s := by
  have hx : ∃ m, (∃ s, R s ∧ muW g s = m) ∧ ∀ i, (∃ s, R s ∧ muW g s = i) → m ≤ i := leastW (P := fun m => ∃ s, R s ∧ muW g s = m) _ ⟨s, h, rfl⟩
  unfold leastM
  rw [dif_pos hx]
  exact hx.choose_spec.2 _ ⟨s, h, rfl⟩

theorem stepCells_len (l : List (Nat × Nat)) : (stepCells l).length = l.length * 2 := by
  induction l with
  | nil => rfl
  | cons e l ih => show (([_, _] : List Value) ++ stepCells l).length = _; rw [List.length_append, ih]; simp; omega
theorem stepCells_app (l r : List (Nat × Nat)) : stepCells (l ++ r) = stepCells l ++ stepCells r := by simp [stepCells]

/-- The path's last place, in its row. -/
theorem path_last {B n : Nat} {v : Value} {w : World} {l : List (Nat × Nat)} {x : Nat × Nat} (h : w.ownsRow B 228 2 v n (stepCells l)) (hl : l.getLast? = some x) :
    ∃ pb pc, v = .slice (some ⟨pb, 0, none⟩) (l.length - 1 + 1) pc ∧ v.ownBlock = some pb ∧ B ≤ pb ∧ pb < w.heap.size ∧ l.length - 1 + 1 ≤ pc ∧ pc ≤ maxLen ∧ w.cell? ⟨pb, (l.length - 1) * 2, none⟩ = some (.int .i64 (x.1 : Int)) ∧ w.cell? ⟨pb, (l.length - 1) * 2 + 1, none⟩ = some (.int .i64 (x.2 : Int)) := by
  have hsp := last_split hl
  have hlen : l.length = l.dropLast.length + 1 := by
    conv => lhs; rw [hsp]
    simp
  have hn : n * 2 = l.length * 2 := by rw [← stepCells_len]; exact h.1.symm
  rcases h.2 with ⟨e, h0⟩ | ⟨g, cap, cur, rfl, hb, hg, hnc, hcm, hcs, ht⟩
  · omega
  · have hg0 : (stepCells l)[(l.length - 1) * 2]? = some (.int .i64 (x.1 : Int)) := by
      rw [hsp, stepCells_app, List.getElem?_append_right (by rw [stepCells_len]; simp), stepCells_len]
      simp [stepCells]
    have hg1 : (stepCells l)[(l.length - 1) * 2 + 1]? = some (.int .i64 (x.2 : Int)) := by
      rw [hsp, stepCells_app, List.getElem?_append_right (by rw [stepCells_len]; simp), stepCells_len]
      simp [stepCells]
    refine ⟨g, cap, by rw [show l.length - 1 + 1 = n by omega], rfl, hb, (Array.getElem?_eq_some_iff.1 hg).1, by omega, hcm, ?_, ?_⟩
    · rw [h.cellAt _ (by omega)]; exact hg0
    · rw [h.cellAt _ (by omega)]; exact hg1

end Go.Proofs.YtchechdcebmoeaaDoor

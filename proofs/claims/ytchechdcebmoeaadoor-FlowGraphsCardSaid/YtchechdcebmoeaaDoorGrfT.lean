/-
  A graph that comes in.
-/
import Derived.Test.YtchechdcebmoeaaDoorFwD
import Derived.Deep.Slices
import Derived.ChangeArms
import Derived.SizedLaws
namespace Go.Proofs.YtchechdcebmoeaaDoor
open Go.RowKit Go.ChangeShapes Go.WideShapes Go.Deep

/-- A graph that comes in: no row is longer than memory. -/
structure Grfs (w : World) (a : Option Addr) (len cap : Nat) (g : List (List Int)) : Prop where
  grf : Grf w a len cap g
  size : ∀ v, degW g v ≤ 17592186044416

theorem rowCellsG : Tryd.prog.cellsOf 26 = 1 := by kernel_rfl
theorem intCellsG : Tryd.prog.cellsOf 3 = 1 := by kernel_rfl
theorem intBytesG : Tryd.prog.bytesOf 3 = 8 := by kernel_rfl

theorem weights_in {H : Type} {P : Program} {e : TypeId} {d : DataW H} : ∀ {l : List (DataW H)}, d ∈ l → ∀ n ∈ d.weights P e, n ∈ DataW.weightsAll P e l
  | [], h, _, _ => by cases h
  | x :: r, h, n, hn => by
    unfold DataW.weightsAll
    rcases List.mem_cons.1 h with e1 | h1
    · subst e1; exact List.mem_append_left _ hn
    · exact List.mem_append_right _ (weights_in h1 n hn)

theorem grfs_ofT {H : Type} {enc : TypeId × Value → H} {W : World} {base : Nat} {spare : Nat → Bool} {held : Bool} {fuel len cap : Nat} {a : Option Addr} {x : DataW H × List MemPlace}
    (h : DataW.trod enc Tryd.prog W base spare held fuel 80 [.slice a len cap] = some x) (hs : ∀ n ∈ x.1.weights Tryd.prog 80, n ≤ reachBytes) : ∃ g, Grfs W a len cap g := by
  rcases open_slice1 Tryd.underlying80 rowCellsG h with ⟨hcs, _⟩ | ⟨ad, l, c, m, fl, V, D, Pl, hcs, _, hl, hm, hmm, rfl, hel⟩
  · simp at hcs
    obtain ⟨rfl, rfl, rfl⟩ := hcs
    exact ⟨[], ⟨rfl, Nat.le_refl _, Nat.zero_le _, fun h => absurd h (Nat.lt_irrefl 0)⟩, fun v => by simp [degW, List.getD]⟩
  · simp at hcs
    obtain ⟨rfl, rfl, rfl⟩ := hcs
    have hlm : len ≤ m := by rw [hmm]; split <;> omega
    have key : ∀ i, i < len → ∃ (ra : Option Addr) (rc : Nat) (zs : List Int), W.cell? (ad.add i) = some (.slice ra zs.length rc) ∧ Row .i64 W ra zs.length rc zs ∧ zs.length ≤ 17592186044416 := by
      intro i hi
      obtain ⟨hc, ht⟩ := hel i (by omega)
      rcases open_ints Tryd.underlying26 Tryd.underlying3 intCellsG ht with ⟨hcs, _⟩ | ⟨x2, l2, c2, zs, hcs, _, hl2, hm2, hz2, hx2, hcell, hwz⟩
      · simp at hcs
        refine ⟨none, 0, [], by rw [hc, hcs]; rfl, row_nil _ _, by simp⟩
      · simp at hcs
        have hle : l2 ≤ zs.length := by rw [hz2]; split <;> omega
        have hlen : (zs.take l2).length = l2 := by rw [List.length_take]; omega
        refine ⟨some x2, c2, zs.take l2, by rw [hc, hcs, hlen], ⟨rfl, by rw [hlen]; exact hl2, hm2, fun e => (by cases e), fun ad' had j hj => ?_, fun n hn => hwz n (List.mem_of_mem_take hn)⟩, ?_⟩
        · cases had
          rw [hlen] at hj
          rw [hcell j (by omega)]
          simp [List.getD, hj]
        · rw [hlen]
          have hmem : D i ∈ (List.range len).map D := List.mem_map_of_mem (List.mem_range.2 hi)
          have hx : D i = _ := congrArg Prod.fst hx2
          have hw : ∀ n ∈ (D i).weights Tryd.prog 26, n ≤ reachBytes := fun n hn => hs n (by
            unfold DataW.weights
            simp only [Tryd.underlying80]
            exact List.mem_cons_of_mem _ (List.mem_append_left _ (weights_in hmem n hn)))
          rw [hx] at hw
          unfold DataW.weights at hw
          simp only [Tryd.underlying26, intBytesG] at hw
          have h9 := hw _ (List.mem_cons_self ..)
          unfold reachBytes at h9
          simp [lits] at h9
          omega
    by_cases h0 : 0 < len
    · obtain ⟨b, off, s⟩ := ad
      obtain ⟨_, _, _, hc0, _⟩ := key 0 h0
      have hs0 : s = none := by simpa [Addr.add] using World.cell?_spot hc0
      subst hs0
      have e : ∀ k, (⟨b, off, none⟩ : Addr).add k = ⟨b, off + k, none⟩ := by
        intro k
        unfold Addr.add
        split
        · rename_i h; subst h; rfl
        · rfl
      have hlt : b < W.heap.size := by rw [e] at hc0; exact World.block_lt_of_cell? W _ hc0
      have pick : ∃ f : Nat → List Int, ∀ i, i < len → ∃ ra rc, W.cell? ⟨b, off + i, none⟩ = some (.slice ra (f i).length rc) ∧ Row .i64 W ra (f i).length rc (f i) ∧ (f i).length ≤ 17592186044416 := by
        refine Classical.skolem (b := fun _ : Nat => List Int) (p := fun i zs => i < len → ∃ ra rc, W.cell? ⟨b, off + i, none⟩ = some (.slice ra zs.length rc) ∧ Row .i64 W ra zs.length rc zs ∧ zs.length ≤ 17592186044416) |>.1 fun i => ?_
        by_cases hi : i < len
        · obtain ⟨ra, rc, zs, h1, h2⟩ := key i hi
          rw [e] at h1
          exact ⟨zs, fun _ => ⟨ra, rc, h1, h2⟩⟩
        · exact ⟨[], fun h => absurd h hi⟩
      obtain ⟨f, hf⟩ := pick
      have hg : ∀ i, i < len → ((List.range len).map f).getD i [] = f i := fun i hi => by simp [List.getD, hi]
      refine ⟨(List.range len).map f, ⟨by simp, hl, hm, fun _ => ⟨b, off, rfl, hlt, fun j hj => ?_⟩⟩, fun v => ?_⟩
      · obtain ⟨ra, rc, h1, h2, _⟩ := hf j hj
        refine ⟨ra, rc, ?_, ?_⟩
        · unfold degW; rw [hg j hj]; exact h1
        · unfold degW; rw [hg j hj]; exact h2
      · unfold degW
        by_cases hv : v < len
        · rw [hg v hv]; obtain ⟨_, _, _, _, h3⟩ := hf v hv; exact h3
        · simp [List.getD, hv]
    · obtain rfl : len = 0 := by omega
      exact ⟨[], ⟨rfl, hl, hm, fun h => absurd h (Nat.lt_irrefl 0)⟩, fun v => by simp [degW, List.getD]⟩

end Go.Proofs.YtchechdcebmoeaaDoor

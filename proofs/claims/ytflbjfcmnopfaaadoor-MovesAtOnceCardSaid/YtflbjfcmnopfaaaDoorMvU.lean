/-
  Moves of a tree: what moves.order tells of them.
-/
import Derived.Test.YtflbjfcmnopfaaaDoorMvT
namespace Go.Proofs.YtflbjfcmnopfaaaDoor
open Go.RowKit

def treeL (f : Nat → Int) (n : Nat) : List (Int × Int) := (List.range n).map fun (i : Nat) => ((i : Int) + 1, f i)
theorem treeL_len (f : Nat → Int) (n : Nat) : (treeL f n).length = n := by simp [treeL]
theorem treeL_next (f : Nat → Int) (n : Nat) : treeL f (n + 1) = treeL f n ++ [((n : Int) + 1, f n)] := by simp [treeL, List.range_succ]
theorem treeL_at (f : Nat → Int) (n i : Nat) (h : i < n) : (treeL f n).getD i (0, 0) = ((i : Int) + 1, f i) := by simp [treeL, List.getD, h]
theorem treeL_mem {f : Nat → Int} {n : Nat} {m : Int × Int} (h : m ∈ treeL f n) : ∃ i, i < n ∧ m = ((i : Int) + 1, f i) := by
  simp [treeL] at h
  obtain ⟨i, hi, e⟩ := h
  exact ⟨i, hi, e.symm⟩
theorem treeL_nodup (f : Nat → Int) (n : Nat) : ((treeL f n).map Prod.fst).Nodup := by
  unfold treeL
  rw [List.map_map]
  refine List.Pairwise.map _ (fun (a b : Nat) (h : a ≠ b) (e : (a : Int) + 1 = (b : Int) + 1) => h (by omega)) List.nodup_range

theorem cnt_all (ks : List Int) (F : Int → Option Int) (h : ∀ k ∈ ks, (F k).isSome = true) : cnt ks F = ks.length := by
  unfold cnt
  rw [List.filter_eq_self.2 (fun a ha => h a ha)]
theorem cnt_none (ks : List Int) (F : Int → Option Int) (h : ∀ k, F k = none) : cnt ks F = 0 := by
  unfold cnt
  rw [List.filter_eq_nil_iff.2 (fun a _ => by rw [h a]; simp)]
  rfl

theorem order_tree (f : Nat → Int) (n : Nat) (spare : Int) (hf : ∀ i, i < n → 0 ≤ f i ∧ f i ≤ i) : ∃ out, orderF (treeL f n) spare = some (out, 0) ∧ out.length = n ∧ (∀ i, i < n → valM out ((i : Int) + 1) = f i) ∧ valM out 0 = 0 ∧ ∀ m ∈ out, 1 ≤ m.1 ∧ m.1 ≤ n := by
  have hn := treeL_nodup f n
  have hne : ∀ m ∈ treeL f n, m.1 ≠ m.2 := fun m hm => by
    obtain ⟨i, hi, rfl⟩ := treeL_mem hm
    have := hf i hi
    show (i : Int) + 1 ≠ f i
    omega
  obtain ⟨s, e, h1, h2, h3, h4⟩ := beg_all (treeL f n) hn hne (treeL f n).length (Nat.le_refl _)
  rw [List.take_of_length_le (Nat.le_refl _)] at e h3 h4
  have hb : begF (treeL f n) = s := e
  have hks : ∀ x, (s.F x).isSome = true → x ∈ (treeL f n).map Prod.fst := fun x hx => by
    by_cases hm : x ∈ (treeL f n).map Prod.fst
    · exact hm
    · rw [h3 x hm] at hx; cases hx
  have hF : ∀ i, i < n → s.F ((i : Int) + 1) = some (f i) := fun i hi => by
    have := h2 i (by rw [treeL_len]; exact hi)
    rw [treeL_at f n i hi] at this
    exact this
  have hF2 : ∀ x v, s.F x = some v → ∃ i, i < n ∧ x = (i : Int) + 1 ∧ v = f i := fun x v hx => by
    have hm := hks x (by rw [hx]; rfl)
    obtain ⟨m, hm1, rfl⟩ := List.mem_map.1 hm
    obtain ⟨i, hi, rfl⟩ := treeL_mem hm1
    refine ⟨i, hi, rfl, ?_⟩
    have := hF i hi
    rw [show ((i : Int) + 1, f i).1 = (i : Int) + 1 from rfl, this] at hx
    exact (Option.some.inj hx).symm
  have hne0 : ∀ x, s.F x ≠ some x := fun x hx => by
    obtain ⟨i, hi, e1, e2⟩ := hF2 x x hx
    have := hf i hi
    omega
  have h0 : Ord ((treeL f n).map Prod.fst) s.F s := by
    refine ⟨fun _ _ h => h, h4, fun y v _ => ?_, fun y _ => ?_, fun y v hy hd => ?_, ?_, fun m hm => ?_⟩
    · cases hv : s.F v with
      | none => exact .inl rfl
      | some u => exact .inr rfl
    · rw [h1]; rfl
    · rw [hy] at hd; cases hd
    · rw [h1]; simp
    · rw [h1] at hm; cases hm
  obtain ⟨g1, g2, _⟩ := ord_free hn hks hne0 (treeL f n).length (by simp) (treeL f n) s h0
  generalize hs : freeF (treeL f n).length (treeL f n) s = s' at *
  have hall : ∀ (k : Nat) (x : Int), (n : Int) - x < k → s'.F x = none := by
    intro k
    induction k with
    | zero =>
      intro x hx
      cases hv : s'.F x with
      | none => rfl
      | some v =>
        obtain ⟨i, hi, e1, _⟩ := hF2 x v (g1.sub x v hv)
        omega
    | succ k ih =>
      intro x hx
      cases hv : s'.F x with
      | none => rfl
      | some v =>
        exfalso
        have hm := hks x (by rw [g1.sub x v hv]; rfl)
        obtain ⟨m, hm1, hm2⟩ := List.mem_map.1 hm
        have hbk := g2 m hm1
        rw [hm2] at hbk
        rcases hbk with hb1 | hb1
        · rw [hb1] at hv; cases hv
        · rw [g1.asked x] at hb1
          obtain ⟨y, hy1, hy2⟩ := cntA_pos (show 0 < cntA ((treeL f n).map Prod.fst) s'.F x by omega)
          obtain ⟨j, hj, e1, e2⟩ := hF2 y x (g1.sub y x hy2)
          have := hf j hj
          have := ih y (by omega)
          rw [this] at hy2
          cases hy2
  have hnone : ∀ x, s'.F x = none := fun x => hall ((n : Int) - x).toNat.succ x (by omega)
  refine ⟨s'.out, ?_, ?_, fun i hi => g1.done _ _ (hF i hi) (hnone _), ?_, fun m hm => ?_⟩
  · unfold orderF ringF
    rw [hb, hs, ring_done _ _ _ _ hnone]
    rfl
  · have := g1.num
    rw [cnt_none _ _ hnone, cnt_all _ _ (fun k hk => by
      obtain ⟨m, hm1, rfl⟩ := List.mem_map.1 hk
      obtain ⟨i, hi, rfl⟩ := treeL_mem hm1
      rw [show ((i : Int) + 1, f i).1 = (i : Int) + 1 from rfl, hF i hi]
      rfl), List.length_map, treeL_len] at this
    omega
  · refine g1.pend 0 (.inl ?_)
    cases hv : s.F 0 with
    | none => rfl
    | some v =>
      obtain ⟨i, hi, e1, _⟩ := hF2 0 v hv
      omega
  · have := g1.dest m hm
    cases hv : s.F m.1 with
    | none => rw [hv] at this; cases this
    | some v =>
      obtain ⟨i, hi, e1, _⟩ := hF2 m.1 v hv
      omega

end Go.Proofs.YtflbjfcmnopfaaaDoor

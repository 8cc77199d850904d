/-
  HeapRing: what Shape tells of the ring.
-/
import Derived.Test.YtjffbojgdemooaaDoorRngP
namespace Go.Proofs.YtjffbojgdemooaaDoor
open Go.RowKit

/-- The t-th object told, in memory. -/
def RgObj (v : Int) (n s g t : Nat) (w : World) : Prop :=
  w.cell? ⟨g, t * 2, none⟩ = some (.int .i64 0) ∧ ∃ b, w.cell? ⟨g, t * 2 + 1, none⟩ = some (.slice (some ⟨b, 0, none⟩) 2 2) ∧ Row .i64 w (some ⟨b, 0, none⟩) 2 2 [IntKind.i64.wrap (v + ((s + t) % n : Nat)), ((t + 1) % n : Nat)]

def RgShape (v : Int) (n s : Nat) (w : World) (e : Ending) (w' : World) : Prop :=
  ∃ g c r rc, e = .returned (.tuple #[.slice (some ⟨g, 0, none⟩) n c, .slice r 3 rc]) ∧ (∀ t, t < n → RgObj v n s g t w') ∧ Row .i64 w' r 3 rc [0, -1, 0] ∧ n ≤ c ∧ g < w'.heap.size ∧ Below w.heap.size w w'

theorem rg_wf (v : Int) {n s t : Nat} (hn : n ≤ 40) (h0 : 0 < n) : ∀ x ∈ [IntKind.i64.wrap (v + ((s + t) % n : Nat)), ((t + 1) % n : Nat)], (Lit.int .i64 x).wf = true := by
  intro x hx
  have h1 := Nat.mod_lt (t + 1) h0
  generalize (s + t) % n = m at hx
  generalize (t + 1) % n = m2 at hx h1
  rcases List.mem_cons.1 hx with rfl | hx
  · rw [IntKind.wrap_i64]
    refine wf64 ?_ ?_ <;> omega
  · obtain rfl := List.mem_singleton.1 hx
    exact wf64 (by omega) (by omega)

theorem ring_shape {B hb ab gb bg : Nat} {cp : Option Addr} {cx n s q : Nat} {mk : Value} (v : Int) (w : World) (h0 : 0 < n) (hn : n ≤ 40) (hs : s < n)
    (h : Hp B hb ab gb bg cp 1 cx irF 2000 100 ((4 * ((n + 2) / 3) : Nat) : Int) ((100 + 4 * n : Nat) : Int) 1050 1050 2000 1050 (ptW v n n) (mkB n) mk w) (hr : Row .i64 w (some ⟨q, 0, none⟩) 3 3 [((rgP s : Nat) : Int) + 1, 0, ((rgP s : Nat) : Int) + 1]) :
    Calls Tryd.prog 76 #[.pointer (some ⟨hb, 0, none⟩), .slice (some ⟨q, 0, none⟩) 3 3] w (RgShape v n s w) := by
  refine (shape_any _ 3 3 _ w h (ring_objs v hn) hr (by decide)).mono ?_
  rintro e w' ⟨vo, vr, k, rfl, hk, ⟨xs, hown, hob⟩, hown2, hb⟩
  obtain ⟨rfl, hout⟩ := ring_told v hn h0 hs hk
  rw [hout] at hob hown2
  obtain ⟨g, c, rfl⟩ : ∃ g c, vo = .slice (some ⟨g, 0, none⟩) k c := by
    rcases hown.2 with ⟨_, h1⟩ | ⟨g, cap, cur, hv, _⟩
    · omega
    · exact ⟨g, cap, hv⟩
  have hc : k ≤ c ∧ g < w'.heap.size := by
    rcases hown.2 with ⟨h, _⟩ | ⟨g', cap, cur, hv, _, hgg, hnc, _⟩
    · cases h
    · cases hv; exact ⟨hnc, (Array.getElem?_eq_some_iff.1 hgg).1⟩
  have hnum0 : toldF (rgL rgP k s k) (((rgP s : Nat) : Int) + 1) = 0 := by
    have := ring_num (n := k) (s := s) (t := 0) hn h0
    rwa [Nat.add_zero, Nat.mod_eq_of_lt hs] at this
  have hnumz : toldF (rgL rgP k s k) 0 = -1 := by
    unfold toldF
    rw [if_neg]
    intro hm
    have hm2 : (0 : Int) ∈ rgL rgP k s k := by simpa using hm
    obtain ⟨t, _, e⟩ := rgL_mem.1 hm2
    omega
  have hz : [((rgP s : Nat) : Int) + 1, 0, ((rgP s : Nat) : Int) + 1].map (toldF (rgL rgP k s k)) = [0, -1, 0] := by simp [hnum0, hnumz]
  rw [hz] at hown2
  obtain ⟨r, rc, rfl, hrr⟩ := row_of_owns (zs := [0, -1, 0]) (k := .i64) hown2 (by decide)
  refine ⟨g, c, r, rc, rfl, fun t ht => ?_, hrr, hc.1, hc.2, hb⟩
  obtain ⟨p, kl, m, hp, ho, ⟨b, hbb, x0, x1, hrow⟩⟩ := hob t ht
  rw [rgL_at rgP k s k t ht] at hp
  obtain rfl : p = rgP ((s + t) % k) := by omega
  rw [ring_ob (Nat.mod_lt _ h0)] at ho
  cases ho
  obtain ⟨v0, v1⟩ := ring_vals (s := s) (t := t) v hn h0 hs ht
  refine ⟨?_, b, ?_, row_ints _ rfl hrow (fun i hi => ?_) (rg_wf v hn h0) (by decide)⟩
  · rw [hown.cellAt (t * 2) (by omega), Nat.mul_comm]; exact x0
  · rw [hown.cellAt (t * 2 + 1) (by omega), Nat.mul_comm]; exact x1
  · rcases (show i = 0 ∨ i = 1 by omega) with rfl | rfl
    · exact v0.symm
    · exact v1.symm

theorem row_new3 (w : World) (x y z : Int) (T : TypeId) (hx : (Lit.int .i64 x).wf = true) (hy : (Lit.int .i64 y).wf = true) (hz : (Lit.int .i64 z).wf = true) : Row .i64 (w.alloc (.cells #[.int .i64 x, .int .i64 y, .int .i64 z] T)) (some ⟨w.heap.size, 0, none⟩) 3 3 [x, y, z] := by
  refine ⟨rfl, Nat.le_refl _, by unfold maxLen; omega, fun h => (by cases h), fun ad had j hj => ?_, fun n hn => ?_⟩
  · cases had
    rw [add_zeroC, cell_of_row _ w.heap.size j _ T (0, 0) (heap_alloc_new w _)]
    match j, hj with
    | 0, _ => rfl
    | 1, _ => rfl
    | 2, _ => rfl
  · simp at hn
    rcases hn with rfl | rfl | rfl
    · exact hx
    · exact hy
    · exact hz

theorem row_new2 (w : World) (x y : Int) (T : TypeId) (hx : (Lit.int .i64 x).wf = true) (hy : (Lit.int .i64 y).wf = true) : Row .i64 (w.alloc (.cells #[.int .i64 x, .int .i64 y] T)) (some ⟨w.heap.size, 0, none⟩) 2 2 [x, y] := by
  refine ⟨rfl, Nat.le_refl _, by unfold maxLen; omega, fun h => (by cases h), fun ad had j hj => ?_, fun n hn => ?_⟩
  · cases had
    rw [add_zeroC, cell_of_row _ w.heap.size j _ T (0, 0) (heap_alloc_new w _)]
    match j, hj with
    | 0, _ => rfl
    | 1, _ => rfl
  · simp at hn
    rcases hn with rfl | rfl
    · exact hx
    · exact hy

def RgSame (n : Nat) (w W6 : World) (si : Value) (wr : World) : Prop := ∃ t : Nat, t ≤ n ∧ si = .int .i64 t ∧ Below w.heap.size w wr ∧ Below W6.heap.size W6 wr

theorem RgObj.below {v : Int} {n s g t : Nat} {w w' : World} (h : RgObj v n s g t w) (hb : Below w.heap.size w w') : RgObj v n s g t w' := by
  obtain ⟨h0, b, h1, h2⟩ := h
  exact ⟨(hb.cell (World.block_lt_of_cell? w _ h0)).trans h0, b, (hb.cell (World.block_lt_of_cell? w _ h1)).trans h1, Row_cells h2 hb⟩

end Go.Proofs.YtjffbojgdemooaaDoor

/-
  HeapFills: what the walk needs plainly; the program in its box.
-/
import Derived.Test.YtjffbojgdemooaaDoorHFst2
import Derived.Test.YtjffbojgdemooaaDoorLow
import Derived.Test.YtjffbojgdemooaaDoorSrtA
namespace Go.Proofs.YtjffbojgdemooaaDoor
open Go.RowKit

/-- So many letters R. -/
def ars (k : Nat) : ByteArray := ⟨Array.replicate k 82⟩
theorem ars_size (k : Nat) : (ars k).size = k := by
  show (Array.replicate k (82 : UInt8)).size = k
  simp
theorem ars_next (k : Nat) : ars k ++ ⟨#[82]⟩ = ars (k + 1) := by
  apply ByteArray.ext
  rw [ByteArray.data_append]
  show Array.replicate k (82 : UInt8) ++ #[82] = Array.replicate (k + 1) 82
  rw [Array.replicate_succ]
  rfl

/-- A program of one class and one method that answers nothing, in its box. -/
def progC (s : ByteArray) (w : World) : World :=
  (((w.alloc (.cells #[.string s] 90)).alloc (.cells #[.int .i64 33, .int .i64 0, .int .i64 0, .int .i64 0] 67)).alloc (.cells #[.string ⟨#[]⟩, .string ⟨#[]⟩, .string ⟨#[]⟩, .slice (some ⟨w.heap.size + 1, 0, none⟩) 1 1] 62)).alloc (.cells #[.slice (some ⟨w.heap.size, 0, none⟩) 1 1, .slice (some ⟨w.heap.size + 1 + 1, 0, none⟩) 1 1] 46)

theorem progC_below (s : ByteArray) (w : World) : Below w.heap.size w (progC s w) := ((((Below.refl _ _).alloc (Nat.le_refl _) _).alloc (by simp) _).alloc (by simp; omega) _).alloc (by simp; omega) _

theorem progC_cls (s : ByteArray) (w w' : World) (hb : Below (progC s w).heap.size (progC s w) w') : Cls w' (some ⟨w.heap.size, 0, none⟩) 1 1 (fun _ => s) := by
  have h0 : (progC s w).heap[w.heap.size]? = some (.cells #[.string s] 90 (0, 0)) := by
    unfold progC
    rw [Below.heap_alloc _ _ _ (by simp; omega), Below.heap_alloc _ _ _ (by simp; omega), Below.heap_alloc _ _ _ (by simp)]
    exact heap_alloc_new _ _
  have h1 := (hb.block _ (Array.getElem?_eq_some_iff.1 h0).1).trans h0
  refine ⟨Nat.le_refl _, by unfold maxLen; omega, fun h => (by cases h), fun ad had i hi => ?_⟩
  cases had
  obtain rfl : i = 0 := by omega
  rw [add_zeroC, cell_of_row _ w.heap.size 0 _ _ (0, 0) h1]
  rfl

theorem progC_box (s : ByteArray) (w w' : World) (hb : Below (progC s w).heap.size (progC s w) w') : w'.cell? ⟨w.heap.size + 1 + 1 + 1, 0, none⟩ = some (.slice (some ⟨w.heap.size, 0, none⟩) 1 1) ∧ w'.cell? ⟨w.heap.size + 1 + 1 + 1, 1, none⟩ = some (.slice (some ⟨w.heap.size + 1 + 1, 0, none⟩) 1 1) := by
  have h0 : (progC s w).heap[w.heap.size + 1 + 1 + 1]? = some (.cells #[.slice (some ⟨w.heap.size, 0, none⟩) 1 1, .slice (some ⟨w.heap.size + 1 + 1, 0, none⟩) 1 1] 46 (0, 0)) := by
    have := heap_alloc_new (((w.alloc (.cells #[.string s] 90)).alloc (.cells #[.int .i64 33, .int .i64 0, .int .i64 0, .int .i64 0] 67)).alloc (.cells #[.string ⟨#[]⟩, .string ⟨#[]⟩, .string ⟨#[]⟩, .slice (some ⟨w.heap.size + 1, 0, none⟩) 1 1] 62)) (.cells #[.slice (some ⟨w.heap.size, 0, none⟩) 1 1, .slice (some ⟨w.heap.size + 1 + 1, 0, none⟩) 1 1] 46)
    rw [World.size_alloc, World.size_alloc, World.size_alloc] at this
    exact this
  have h1 := (hb.block _ (Array.getElem?_eq_some_iff.1 h0).1).trans h0
  exact ⟨by rw [cell_of_row w' _ 0 _ _ (0, 0) h1]; rfl, by rw [cell_of_row w' _ 1 _ _ (0, 0) h1]; rfl⟩

/-- The document's Words of class 0. -/
theorem refWords0 (ca : Option Addr) (ma : Option Addr) (s : ByteArray) (w : World) (hc : Cls w ca 1 1 (fun _ => s)) (hs : s.size ≤ 1000) :
    Calls Tryd.prog 47 #[.agg #[.slice ca 1 1, .slice ma 1 1], .int .i64 0, .int .i64 0] w fun e w' => e = .returned (.int .i64 (2 + (s.size : Int))) ∧ Below w.heap.size w w' := by
  obtain ⟨b, off, rfl, hb, hcell⟩ := Cls_at hc (by omega)
  have hc0 := hcell 0 (by omega)
  rw [Nat.add_zero] at hc0
  clear hc hcell
  go_enter Tryd.func47, Tryd.ntmps47
  go_wp2
  go_ret
  exact ⟨rfl, (Below.refl _ _).alloc (Nat.le_refl _) _⟩

theorem obj_laid {n p m cl : Nat} {wd : Nat → Int} {bd : Nat → Bool} {cf : Nat → ByteArray} (hfit : p + 2 + m ≤ n) (hcl : 0 < cl) (hm : m = (cf 0).size) : Obj1 n (laidW wd 0 p m) (laidB bd p) cl cf p 0 m where
  lt := by omega
  beg := by unfold laidB; rw [if_pos rfl]
  head := by unfold laidW; rw [if_pos rfl]
  fit := hfit
  lo := by omega
  hi := by omega
  cls := fun c hc => by
    obtain rfl : c = 0 := by omega
    exact ⟨hcl, hm⟩

/-- The references of the objects made so far. -/
def refL (st z : Nat) (i : Nat) : List Int := (List.range i).map fun j => ((st + j * z : Nat) : Int) + 1
theorem refL_len (st z i : Nat) : (refL st z i).length = i := by simp [refL]
theorem refL_next (st z i : Nat) : refL st z (i + 1) = refL st z i ++ [((st + i * z : Nat) : Int) + 1] := by simp [refL, List.range_succ]
theorem refL_rising (st z i : Nat) (hz : 0 < z) : (refL st z i).Pairwise (· < ·) := by
  induction i with
  | zero => simp [refL]
  | succ i ih =>
    rw [refL_next, List.pairwise_append]
    refine ⟨ih, List.pairwise_singleton _ _, fun a ha b hb => ?_⟩
    simp at hb
    subst hb
    simp [refL] at ha
    obtain ⟨j, hj, rfl⟩ := ha
    have h1 : j * z + z ≤ i * z := by
      have := Nat.mul_le_mul_right z (show j + 1 ≤ i by omega)
      rw [Nat.succ_mul] at this
      exact this
    have h2 : ((j : Int) * z) = ((j * z : Nat) : Int) := by simp
    have h3 : ((i : Int) * z) = ((i * z : Nat) : Int) := by simp
    omega
theorem refL_wf (st z i : Nat) (h : st + i * z ≤ 1000000) : ∀ x ∈ refL st z i, (Lit.int .i64 x).wf = true := by
  intro x hx
  simp [refL] at hx
  obtain ⟨j, hj, rfl⟩ := hx
  have h1 : j * z ≤ i * z := Nat.mul_le_mul_right z (by omega)
  have h2 : ((j : Int) * z) = ((j * z : Nat) : Int) := by simp
  exact wf64 (by omega) (by omega)

end Go.Proofs.YtjffbojgdemooaaDoor

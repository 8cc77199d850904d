/-
  Chapter 11's example (the law's own 'first'): true.
-/
import Derived.Test.YtjffbojgdemooaaDoorShpB
import Derived.Test.YtjffbojgdemooaaDoorSameL
import Derived.Test.YtjffbojgdemooaaDoorSameI
namespace Go.Proofs.YtjffbojgdemooaaDoor
open Go.RowKit

def irF : Nat → ByteArray := fun _ => ⟨#[73, 82]⟩

theorem new_lit (ca : Option Addr) (ma : Option Addr) (w : World) (hc : Cls w ca 1 1 irF) :
    Calls Tryd.prog 69 #[.agg #[.slice ca 1 1, .slice ma 1 1], .int .i64 100, .int .i64 20] w fun e w' => ∃ hb ab gb bg cp cx, e = .returned (.tuple #[.pointer (some ⟨hb, 0, none⟩), .nilIface]) ∧
      Hp w.heap.size hb ab gb bg cp 1 cx irF 100 20 ((0 : Nat) : Int) 20 60 60 100 60 (fun _ => 0) (fun _ => false) (.slice none 0 0) w' ∧ Below w.heap.size w w' :=
  new_heap ca 1 1 ma 1 1 irF 100 20 w hc (by decide) (by decide) (by decide)

def wd1 : Nat → Int := laidW (fun _ => 0) 0 0 2
def bd1 : Nat → Bool := laidB (fun _ => false) 0
def wd2 : Nat → Int := putW wd1 (0 + 2 + 1) 1
def ob1 : Nat → Option (Int × Nat) := fun p => if p = 0 then some (0, 2) else none

theorem obj_of (wd : Nat → Int) (h : wd 0 = word 0 2) : Obj1 100 wd bd1 1 irF 0 0 2 :=
  ⟨by decide, rfl, h, by decide, by decide, by decide, fun c hc => ⟨by omega, rfl⟩⟩
theorem wd1_0 : wd1 0 = word 0 2 := rfl
theorem wd2_0 : wd2 0 = word 0 2 := rfl
theorem objs1 : Objs 100 wd2 bd1 1 irF ob1 where
  has := fun p kl m h => by
    unfold ob1 at h
    split at h
    · rename_i hp
      subst hp
      cases h
      exact obj_of wd2 wd2_0
    · cases h
  no := fun p _ h => by
    unfold ob1 at h
    split at h
    · cases h
    · rename_i hp
      unfold bd1 laidB
      rw [if_neg hp]
  wf := fun j _ => by
    have hw : word 0 2 = 4194306 := by decide
    unfold wd2 putW
    split
    · decide
    · unfold wd1 laidW
      split
      · show (Lit.int .i64 (word 0 2)).wf = true
        rw [hw]
        decide
      · split
        · decide
        · show (Lit.int .i64 0).wf = true
          decide

theorem out1 : ∀ k, outN (isB ob1 100) (refsB wd2 irF ob1) [1, 0] k = [1]
  | 0 => by decide
  | k + 1 => by
    show (refsB wd2 irF ob1 ((outN (isB ob1 100) (refsB wd2 irF ob1) [1, 0] k).getD k 0)).foldl (meetF (isB ob1 100)) (outN (isB ob1 100) (refsB wd2 irF ob1) [1, 0] k) = [1]
    rw [out1 k]
    cases k with
    | zero => decide
    | succ k =>
      have e : ([1] : List Int).getD (k + 1) 0 = 0 := rfl
      rw [e]
      decide

theorem vals1 : ∀ i, i < 2 → valF wd2 irF [1] 0 0 i = 0 := by
  intro i hi
  have : i = 0 ∨ i = 1 := by omega
  rcases this with rfl | rfl <;> decide

def FirstShape (w : World) (e : Ending) (w' : World) : Prop :=
  ∃ g b c r rc, e = .returned (.tuple #[.slice (some ⟨g, 0, none⟩) 1 c, .slice r 2 rc]) ∧ w'.cell? ⟨g, 1, none⟩ = some (.slice (some ⟨b, 0, none⟩) 2 2) ∧ Row .i64 w' (some ⟨b, 0, none⟩) 2 2 [0, 0] ∧ Row .i64 w' r 2 rc [0, -1] ∧ 1 ≤ c ∧ Below w.heap.size w w'

theorem row_ints {w : World} {b m : Nat} {f : Nat → Int} {T : TypeId} (zs : List Int) (hl : zs.length = m) (h : w.heap[b]? = some (.cells (intRow m f) T (0, 0))) (hz : ∀ i, i < m → zs.getD i 0 = f i) (hw : ∀ x ∈ zs, (Lit.int .i64 x).wf = true) (hm : m ≤ 1000000) : Row .i64 w (some ⟨b, 0, none⟩) m m zs := by
  refine ⟨hl, Nat.le_refl _, by unfold maxLen; omega, fun e => (by cases e), fun ad had j hj => ?_, hw⟩
  cases had
  rw [add_zeroC, cell_of_row w b j _ T (0, 0) h, intRow_get m f j hj, hz j hj]

theorem shape_first {B hb ab gb bg : Nat} {cp : Option Addr} {cx : Nat} {s : Nat} {w : World} (h : Hp B hb ab gb bg cp 1 cx irF 100 20 4 20 60 60 100 60 wd2 bd1 (.slice none 0 0) w) (hr : Row .i64 w (some ⟨s, 0, none⟩) 2 2 [1, 0]) :
    Calls Tryd.prog 76 #[.pointer (some ⟨hb, 0, none⟩), .slice (some ⟨s, 0, none⟩) 2 2] w (FirstShape w) := by
  refine (shape_any _ 2 2 [1, 0] w h objs1 hr (by decide)).mono ?_
  rintro e w' ⟨vo, vr, k, rfl, hk, ⟨xs, hown, hob⟩, hown2, hb⟩
  rw [out1 k] at hk hob hown2
  obtain rfl : k = 1 := hk.symm
  obtain ⟨p, kl, m, hp, ho, ⟨b, hbb, x0, x1, hrow⟩⟩ := hob 0 (by decide)
  have hp0 : p = 0 := by
    have : (1 : Int) = (p : Int) + 1 := hp
    omega
  subst hp0
  have hk2 : kl = 0 ∧ m = 2 := by
    unfold ob1 at ho
    rw [if_pos rfl] at ho
    cases ho
    exact ⟨rfl, rfl⟩
  obtain ⟨rfl, rfl⟩ := hk2
  obtain ⟨g, c, rfl⟩ : ∃ g c, vo = .slice (some ⟨g, 0, none⟩) 1 c := by
    rcases hown.2 with ⟨_, h0⟩ | ⟨g, cap, cur, hv, _⟩
    · omega
    · exact ⟨g, cap, hv⟩
  obtain ⟨r, rc, rfl, hrr⟩ := row_of_owns (zs := [0, -1]) (k := .i64) hown2 (by decide)
  have hg : w'.cell? ⟨g, 1, none⟩ = some (.slice (some ⟨b, 0, none⟩) 2 2) := by rw [hown.cellAt 1 (by decide)]; exact x1
  have hc : 1 ≤ c := by
    rcases hown.2 with ⟨h, _⟩ | ⟨g', cap, cur, hv, _, _, hnc, _⟩
    · cases h
    · cases hv; exact hnc
  exact ⟨g, b, c, r, rc, rfl, hg, row_ints [0, 0] rfl hrow (fun i hi => by
    rw [vals1 i hi]
    rcases (show i = 0 ∨ i = 1 by omega) with rfl | rfl <;> rfl) (by decide) (by decide), hrr, hc, hb⟩

end Go.Proofs.YtjffbojgdemooaaDoor

/-
  The arena made.
-/
import Derived.Test.YtflbjfcmnopfaaaDoorArnB
import Derived.IntWalk
import Derived.Deep.RegionLaw
import Derived.BigQuiet
namespace Go.Proofs.YtflbjfcmnopfaaaDoor
open Go.RowKit

theorem row_full {w : World} {base e g n : Nat} {xs : List Value} (h : w.ownsRow base e 1 (.slice (some ⟨g, 0, none⟩) n n) n xs) : w.heap[g]? = some (.cells xs.toArray e (0, 0)) := by
  rcases h.2 with ⟨h', _⟩ | ⟨g', cap', cur, h', _, hg, _, _, hcs, htake⟩
  · simp at h'
  · simp only [Value.slice.injEq, Option.some.injEq, Addr.mk.injEq, and_true, true_and] at h'
    obtain ⟨rfl, rfl⟩ := h'
    rw [hg, ← htake, List.take_of_length_le (by simp; omega)]

def NewPost (n : Nat) (w : World) (e : Ending) (w' : World) : Prop :=
  ∃ b g, e = .returned (.tuple #[.pointer (some ⟨b, 0, none⟩), .nilIface]) ∧ w.heap.size ≤ b ∧ b < w'.heap.size ∧ An w.heap.size b g n (List.replicate n 0) w' ∧ Below w.heap.size w w'

theorem i64info : (Tryd.prog.info? 2).map (fun i => (i.zero, i.size, i.bytes)) = some (some (.int .i64 0), 1, 8) := by kernel_rfl

theorem new_yes (n : Nat) (w : World) (h : n ≤ 65536) :
    Calls Tryd.prog 157 #[.int .i64 n] w (NewPost n w) := by
  have hm : n ≤ maxLen := by unfold maxLen; omega
  have d1 : decide ((n : Int) < 0) = false := by simp
  have d2 : decide ((65536 : Int) < (n : Int)) = false := by simp; omega
  have hbytes : 8 * n ≤ 281474976710656 := by omega
  have H := Lib.hid h
  have HM := Lib.hid hm
  have HB := Lib.hid hbytes
  clear h hm hbytes
  obtain ⟨i, hi, hz0, hz1, hz2⟩ := info_parts i64info
  have HI := Lib.hid hi
  have HZ0 := Lib.hid hz0
  have HZ1 := Lib.hid hz1
  have HZ2 := Lib.hid hz2
  clear hi hz0 hz1 hz2
  go_enter Tryd.func157, Tryd.ntmps157
  go_wp2_with (at_make; refine wpList_make_len _ rfl (.tmp 11) (.tmp 11) 43 rfl w.heap.size 2 i (.int .i64 0) 8 Tryd.underlying43 HI.out HZ0.out HZ1.out HZ2.out rfl .i64 .i64 _ _ n n rfl rfl (by simp) (by simp) (Nat.le_refl _) HB.out HM.out (Nat.le_refl _) ?_; intro w1 hown hg)
  go_ret2
  have hrow := row_full hown
  have hgl : w.heap.size < w1.heap.size := by
    have := hown.lt w.heap.size (by simp [Value.ownBlock])
    exact this.2
  refine ⟨_, _, rfl, hg.size, by simp, ⟨by simp, H.out, ?_, ?_, by omega, Nat.le_refl _⟩, ?_⟩
  · rw [cell_of_row (w1.alloc _) w1.heap.size 0 _ 232 (0, 0) (heap_alloc_new w1 _)]
    rfl
  · rw [Below.heap_alloc _ _ _ hgl, hrow]; simp
  · exact (Below.grown (Below.refl _ w) hg (Nat.le_refl _) (by simp)).alloc hg.size _


end Go.Proofs.YtflbjfcmnopfaaaDoor

/-
  Package prog: mayHead, mayClass, at texts of I and R.
-/
import Derived.Test.YtjffbojgdemooaaDoorPrg1
import Derived.Test.YtjffbojgdemooaaDoorMayK
namespace Go.Proofs.YtjffbojgdemooaaDoor
open Go.RowKit

def headC (np nl cl : Nat) : Nat := if 12 < np + nl ∨ cl = 0 ∨ 120 < cl then 1 else 0

theorem fair_nil : Fair ⟨#[]⟩ := fun k h => absurd h (Nat.not_lt_zero k)

def one73 : ByteArray := ⟨#[73]⟩

set_option maxHeartbeats 2000000 in
set_option maxRecDepth 100000 in
theorem mayHead_any (a : Nat → Addr) (ps ls rt : ByteArray) (co : Option Addr) (cl cp : Nat) (fi : Bool) (w : World) (h : Sents a w) (h1 : ps.size ≤ 1000000) (h2 : ls.size ≤ 1000000) (h3 : cl ≤ 1000000) (f1 : Fair ps) (f2 : Fair ls) (hr : rt = ⟨#[]⟩ ∨ rt = ⟨#[73]⟩) (hf : fi = true → ps = ⟨#[]⟩) :
    Calls Tryd.prog 152 #[.agg #[.string ps, .string ls, .string rt, .slice co cl cp], .bool fi] w (MayPost a (headC ps.size ls.size cl) w) := by
  have hbl : Below w.heap.size w (w.alloc (.cells #[.string ps, .string ls, .string rt, .slice co cl cp] 62)) := (Below.refl _ _).alloc (Nat.le_refl _) _
  have hS := h.below hbl
  have c0 := hS.c0
  have HB := Lib.hid hbl
  clear h hS hbl
  by_cases hm : 12 < ps.size + ls.size ∨ cl = 0 ∨ 120 < cl
  · have hc : headC ps.size ls.size cl = 1 := by rw [headC, if_pos hm]
    have he : errV a 1 = .iface 272 (.pointer (some (a 0))) := rfl
    unfold MayPost
    rw [hc, he]
    obtain ⟨x, e⟩ : ∃ x, a 0 = x := ⟨_, rfl⟩
    rw [e] at c0 ⊢
    clear hc he e f1 f2 hr hf
    by_cases g1 : 12 < ps.size + ls.size
    · have t1 : decide (12 < (ps.size : Int) + (ls.size : Int)) = true := by simp; omega
      clear hm g1
      go_enter Tryd.func152, Tryd.ntmps152
      go_wp2_with fail
      go_ret
      exact ⟨rfl, HB.out⟩
    · have t1 : decide (12 < (ps.size : Int) + (ls.size : Int)) = false := by simp; omega
      by_cases g2 : cl = 0
      · subst g2
        clear hm g1
        go_enter Tryd.func152, Tryd.ntmps152
        go_wp2_with fail
        go_ret
        exact ⟨rfl, HB.out⟩
      · have t2 : ((cl : Int) == 0) = false := by simp; omega
        have t3 : decide (120 < (cl : Int)) = true := by simp; omega
        clear hm g1 g2
        go_enter Tryd.func152, Tryd.ntmps152
        go_wp2_with fail
        go_ret
        exact ⟨rfl, HB.out⟩
  · have hc : headC ps.size ls.size cl = 0 := by rw [headC, if_neg hm]
    have he : errV a 0 = .nilIface := rfl
    unfold MayPost
    rw [hc, he]
    have t1 : decide (12 < ps.size + ls.size) = false := by simp; omega
    have t1' : decide (12 < (ps.size : Int) + (ls.size : Int)) = false := by simp; omega
    have t2 : (cl == 0) = false := by simp; omega
    have t2' : ((cl : Int) == 0) = false := by simp; omega
    have t3 : decide (120 < cl) = false := by simp; omega
    have t3' : decide (120 < (cl : Int)) = false := by simp; omega
    have LG : Hid (∀ s w, Fair s → s.size ≤ 1000000 → Calls Tryd.prog 151 #[.string s] w fun e w' => e = .returned (.bool true) ∧ w = w') := Lib.hid fun s w hs hz => letters_fair s w (by unfold maxLen; omega) hs
    have F1 := Lib.hid f1
    have F2 := Lib.hid f2
    clear hc he hm c0 f1 f2
    cases fi with
    | true =>
      obtain rfl := hf rfl
      have t0 : (⟨#[]⟩ : ByteArray).size = 0 := rfl
      have t4 : decide (12 < (ls.size : Int)) = false := by have := t1; simp [t0] at this; simp; omega
      clear hf t1 t1'
      rcases hr with rfl | rfl
      all_goals
        go_enter Tryd.func152, Tryd.ntmps152
        go_wp2_with (go_at_call 151; refine (LG.out _ _ (by first | exact F1.out | exact F2.out) (by first | exact h1 | exact h2)).mono ?_; rintro e w' ⟨rfl, rfl⟩)
        go_ret
        exact ⟨rfl, HB.out⟩
    | false =>
      clear hf
      rcases hr with rfl | rfl
      all_goals
        go_enter Tryd.func152, Tryd.ntmps152
        go_wp2_with (go_at_call 151; refine (LG.out _ _ (by first | exact F1.out | exact F2.out) (by first | exact h1 | exact h2)).mono ?_; rintro e w' ⟨rfl, rfl⟩)
        go_ret
        exact ⟨rfl, HB.out⟩

set_option maxHeartbeats 1000000 in
theorem mayClass_any (a : Nat → Addr) (s : ByteArray) (w : World) (h : Sents a w) (h1 : s.size ≤ 1000000) (f1 : Fair s) :
    Calls Tryd.prog 98 #[.agg #[.string s]] w (MayPost a (if 10 < s.size then 1 else 0) w) := by
  have hbl : Below w.heap.size w (w.alloc (.cells #[.string s] 90)) := (Below.refl _ _).alloc (Nat.le_refl _) _
  have hS := h.below hbl
  have c0 := hS.c0
  have HB := Lib.hid hbl
  have L1 : ∀ w, Hid (Calls Tryd.prog 151 #[.string s] w fun e w' => e = .returned (.bool true) ∧ w = w') := fun w => Lib.hid (letters_fair s w (by unfold maxLen; omega) f1)
  clear h hS hbl f1
  by_cases hm : 10 < s.size
  · have he : errV a 1 = .iface 272 (.pointer (some (a 0))) := rfl
    unfold MayPost
    rw [if_pos hm, he]
    obtain ⟨x, e⟩ : ∃ x, a 0 = x := ⟨_, rfl⟩
    rw [e] at c0 ⊢
    have t1 : decide (10 < s.size) = true := by simpa using hm
    have t1' : decide (10 < (s.size : Int)) = true := by simp; omega
    clear he e hm
    go_enter Tryd.func98, Tryd.ntmps98
    go_wp2
    go_ret
    exact ⟨rfl, HB.out⟩
  · have he : errV a 0 = .nilIface := rfl
    unfold MayPost
    rw [if_neg hm, he]
    have t1 : decide (10 < s.size) = false := by simpa using hm
    have t1' : decide (10 < (s.size : Int)) = false := by simp; omega
    clear he hm c0
    go_enter Tryd.func98, Tryd.ntmps98
    go_wp2_with (go_at_call 151; refine (L1 _).out.mono ?_; rintro e w' ⟨rfl, rfl⟩)
    go_ret
    exact ⟨rfl, HB.out⟩

end Go.Proofs.YtjffbojgdemooaaDoor

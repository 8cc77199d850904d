/-
  Package prog: Next and Back at one instruction; the reference's names.
-/
import Derived.Test.YtjffbojgdemooaaDoorPFirst
namespace Go.Proofs.YtjffbojgdemooaaDoor
open Go.RowKit

def nextL (T A : Int) (k : Nat) : List Int :=
  if T = 33 then [] else if T = 22 then [A] else if T = 23 ∧ A < k + 1 then [A, k + 1] else if T = 23 ∧ (k : Int) + 1 < A then [(k : Int) + 1, A] else [(k : Int) + 1]

def NextPost (l : List Int) (w : World) (e : Ending) (w' : World) : Prop := ∃ ad n, e = .returned (.slice ad n n) ∧ Row .i64 w' ad n n l ∧ Below w.heap.size w w'

theorem next_fin_nil {w w' : World} (h : Below w.heap.size w w') : NextPost [] w (.returned (.slice none 0 0)) w' := ⟨none, 0, rfl, row_nil _ _, h⟩
theorem next_fin_one {w W : World} {g : Nat} {x : Int} (h : Below w.heap.size w W) (hx : (Lit.int .i64 x).wf = true) (hg : W.heap.size = g) : NextPost [x] w (.returned (.slice (some ⟨g, 0, none⟩) 1 1)) (W.alloc (.cells #[.int .i64 x] 3)) := by
  subst hg
  exact ⟨_, 1, rfl, row_one ((cell_of_row _ _ 0 _ 3 (0, 0) (heap_alloc_new W _)).trans rfl) (Nat.le_refl _) (by unfold maxLen; omega) hx, h.alloc h.size _⟩
theorem next_fin_two {w W : World} {g : Nat} {x y : Int} (h : Below w.heap.size w W) (hx : (Lit.int .i64 x).wf = true) (hy : (Lit.int .i64 y).wf = true) (hg : W.heap.size = g) : NextPost [x, y] w (.returned (.slice (some ⟨g, 0, none⟩) 2 2)) (W.alloc (.cells #[.int .i64 x, .int .i64 y] 3)) := by
  subst hg
  exact ⟨_, 2, rfl, row_two ((cell_of_row _ _ 0 _ 3 (0, 0) (heap_alloc_new W _)).trans rfl) ((cell_of_row _ _ 1 _ 3 (0, 0) (heap_alloc_new W _)).trans rfl) (Nat.le_refl _) (by unfold maxLen; omega) hx hy, h.alloc h.size _⟩

theorem wf_small (k : Nat) (h : k ≤ 1000) : (Lit.int .i64 ((k : Int) + 1)).wf = true := by
  simp [Lit.wf, IntKind.min, IntKind.max, IntKind.signed, IntKind.bits]
  omega

/-- The four cells of an instruction, and the world behind the two boxes of Next and of Back. -/
structure At4 (w : World) (lb lo k : Nat) (T A B N : Int) : Prop where
  k0 : w.cell? ⟨lb, lo + k * 4, none⟩ = some (.int .i64 T)
  k1 : w.cell? ⟨lb, lo + k * 4 + 1, none⟩ = some (.int .i64 A)
  k2 : w.cell? ⟨lb, lo + k * 4 + 2, none⟩ = some (.int .i64 B)
  k3 : w.cell? ⟨lb, lo + k * 4 + 3, none⟩ = some (.int .i64 N)

theorem At4.below {w w' : World} {lb lo k : Nat} {T A B N : Int} (h : At4 w lb lo k T A B N) (hb : Below w.heap.size w w') : At4 w' lb lo k T A B N :=
  ⟨(hb.cell (World.block_lt_of_cell? w _ h.k0)).trans h.k0, (hb.cell (World.block_lt_of_cell? w _ h.k1)).trans h.k1, (hb.cell (World.block_lt_of_cell? w _ h.k2)).trans h.k2, (hb.cell (World.block_lt_of_cell? w _ h.k3)).trans h.k3⟩

set_option maxHeartbeats 2000000 in
set_option maxRecDepth 100000 in
theorem next_in (lb lo len cap k : Nat) (T A B N : Int) (w : World) (h : At4 w lb lo k T A B N) (hk : k < len) (hl : len ≤ 120) (hA : (Lit.int .i64 A).wf = true) :
    Calls Tryd.prog 52 #[.agg #[.string ⟨#[]⟩, .string ⟨#[]⟩, .string ⟨#[]⟩, .slice (some ⟨lb, lo, none⟩) len cap], .int .i64 k] w (NextPost (nextL T A k) w) := by
  have hb : Below w.heap.size w (w.alloc (.cells #[.string ⟨#[]⟩, .string ⟨#[]⟩, .string ⟨#[]⟩, .slice (some ⟨lb, lo, none⟩) len cap] 62)) := (Below.refl _ _).alloc (Nat.le_refl _) _
  obtain ⟨k0, k1, k2, k3⟩ := h.below hb
  have hb2 : Below w.heap.size w ((w.alloc (.cells #[.string ⟨#[]⟩, .string ⟨#[]⟩, .string ⟨#[]⟩, .slice (some ⟨lb, lo, none⟩) len cap] 62)).alloc (.cells #[.int .i64 T, .int .i64 A, .int .i64 B, .int .i64 N] 67)) := hb.alloc (by simp) _
  have HB := Lib.hid hb2
  have HA := Lib.hid hA
  have HK := Lib.hid (wf_small k (by omega))
  have WI : ∀ w', Hid (Calls Tryd.prog 109 #[.int .i64 k, .int .i64 len] w' fun e w'' => e = .returned (.bool true) ∧ w' = w'') := fun w' => Lib.hid (by
    have := within_any k len w'
    have e : inside k len = true := by simp [inside, hk]
    rw [e] at this
    exact this)
  clear h hb hb2 hA
  by_cases c33 : T = 33
  · subst c33
    have hr : nextL 33 A k = [] := rfl
    rw [hr]
    go_enter Tryd.func52, Tryd.ntmps52
    go_wp2_with (go_at_call 109; refine (WI _).out.mono ?_; rintro e w' ⟨rfl, rfl⟩)
    go_ret
    exact next_fin_nil HB.out
  · by_cases c22 : T = 22
    · subst c22
      have hr : nextL 22 A k = [A] := rfl
      rw [hr]
      clear c33
      go_enter Tryd.func52, Tryd.ntmps52
      go_wp2_with (go_at_call 109; refine (WI _).out.mono ?_; rintro e w' ⟨rfl, rfl⟩)
      go_ret
      exact next_fin_one HB.out HA.out (by simp)
    · by_cases c23 : T = 23
      · subst c23
        clear c33 c22
        by_cases g1 : A < (k : Int) + 1
        · have hr : nextL 23 A k = [A, (k : Int) + 1] := by simp [nextL, g1]
          rw [hr]
          have t1 : decide (A < (k : Int) + 1) = true := by simpa using g1
          clear g1 hr
          go_enter Tryd.func52, Tryd.ntmps52
          go_wp2_with (go_at_call 109; refine (WI _).out.mono ?_; rintro e w' ⟨rfl, rfl⟩)
          go_ret
          exact next_fin_two HB.out HA.out HK.out (by simp)
        · have t1 : decide (A < (k : Int) + 1) = false := by simpa using g1
          by_cases g2 : (k : Int) + 1 < A
          · have hr : nextL 23 A k = [(k : Int) + 1, A] := by simp [nextL, g1, g2]
            rw [hr]
            have t2 : decide ((k : Int) + 1 < A) = true := by simpa using g2
            clear g1 g2 hr
            go_enter Tryd.func52, Tryd.ntmps52
            go_wp2_with (go_at_call 109; refine (WI _).out.mono ?_; rintro e w' ⟨rfl, rfl⟩)
            go_ret
            exact next_fin_two HB.out HK.out HA.out (by simp)
          · have hr : nextL 23 A k = [(k : Int) + 1] := by simp [nextL, g1, g2]
            rw [hr]
            have t2 : decide ((k : Int) + 1 < A) = false := by simpa using g2
            clear g1 g2 hr
            go_enter Tryd.func52, Tryd.ntmps52
            go_wp2_with (go_at_call 109; refine (WI _).out.mono ?_; rintro e w' ⟨rfl, rfl⟩)
            go_ret
            exact next_fin_one HB.out HK.out (by simp)
      · have hr : nextL T A k = [(k : Int) + 1] := by simp [nextL, c33, c22, c23]
        rw [hr]
        have t1 : (T == 33) = false := by simpa using c33
        have t2 : (T == 22) = false := by simpa using c22
        have t3 : (T == 23) = false := by simpa using c23
        clear c33 c22 c23 hr
        go_enter Tryd.func52, Tryd.ntmps52
        go_wp2_with (go_at_call 109; refine (WI _).out.mono ?_; rintro e w' ⟨rfl, rfl⟩)
        go_ret
        exact next_fin_one HB.out HK.out (by simp)

def backB (T A : Int) (k : Nat) : Bool := decide ((T = 22 ∨ T = 23) ∧ A ≤ k)

set_option maxHeartbeats 2000000 in
set_option maxRecDepth 100000 in
theorem back_in (lb lo len cap k : Nat) (T A B N : Int) (w : World) (h : At4 w lb lo k T A B N) (hk : k < len) (_hl : len ≤ 120) :
    Calls Tryd.prog 54 #[.agg #[.string ⟨#[]⟩, .string ⟨#[]⟩, .string ⟨#[]⟩, .slice (some ⟨lb, lo, none⟩) len cap], .int .i64 k] w (BoolPost (backB T A k) w) := by
  have hb : Below w.heap.size w (w.alloc (.cells #[.string ⟨#[]⟩, .string ⟨#[]⟩, .string ⟨#[]⟩, .slice (some ⟨lb, lo, none⟩) len cap] 62)) := (Below.refl _ _).alloc (Nat.le_refl _) _
  obtain ⟨k0, k1, k2, k3⟩ := h.below hb
  have hb2 : Below w.heap.size w ((w.alloc (.cells #[.string ⟨#[]⟩, .string ⟨#[]⟩, .string ⟨#[]⟩, .slice (some ⟨lb, lo, none⟩) len cap] 62)).alloc (.cells #[.int .i64 T, .int .i64 A, .int .i64 B, .int .i64 N] 67)) := hb.alloc (by simp) _
  have HB := Lib.hid hb2
  have WI : ∀ w', Hid (Calls Tryd.prog 109 #[.int .i64 k, .int .i64 len] w' fun e w'' => e = .returned (.bool true) ∧ w' = w'') := fun w' => Lib.hid (by
    have := within_any k len w'
    have e : inside k len = true := by simp [inside, hk]
    rw [e] at this
    exact this)
  clear h hb hb2
  by_cases c : T = 22 ∨ T = 23
  · have hr : backB T A k = decide (A ≤ (k : Int)) := by simp [backB, c]
    rw [hr]
    obtain ⟨v, hv⟩ : ∃ v, decide (A ≤ (k : Int)) = v := ⟨_, rfl⟩
    rw [hv]
    clear hr
    rcases c with rfl | rfl
    all_goals
      go_enter Tryd.func54, Tryd.ntmps54
      go_wp2_with (go_at_call 109; refine (WI _).out.mono ?_; rintro e w' ⟨rfl, rfl⟩)
      go_ret
      exact ⟨rfl, HB.out⟩
  · have hr : backB T A k = false := by simp [backB, c]
    rw [hr]
    have t2 : (T == 22) = false := by simp; omega
    have t3 : (T == 23) = false := by simp; omega
    clear c hr
    go_enter Tryd.func54, Tryd.ntmps54
    go_wp2_with (go_at_call 109; refine (WI _).out.mono ?_; rintro e w' ⟨rfl, rfl⟩)
    go_ret
    exact ⟨rfl, HB.out⟩

/-- Past the end: nowhere. -/
theorem nowhere (ad : Option Addr) (len cap : Nat) (pc : Int) (w : World) (hk : ¬ (0 ≤ pc ∧ pc < len)) :
    Calls Tryd.prog 52 #[.agg #[.string ⟨#[]⟩, .string ⟨#[]⟩, .string ⟨#[]⟩, .slice ad len cap], .int .i64 pc] w (NextPost [] w) := by
  have hb : Below w.heap.size w (w.alloc (.cells #[.string ⟨#[]⟩, .string ⟨#[]⟩, .string ⟨#[]⟩, .slice ad len cap] 62)) := (Below.refl _ _).alloc (Nat.le_refl _) _
  have HB := Lib.hid hb
  have WI : ∀ w', Hid (Calls Tryd.prog 109 #[.int .i64 pc, .int .i64 len] w' fun e w'' => e = .returned (.bool false) ∧ w' = w'') := fun w' => Lib.hid (by
    have := within_any pc len w'
    have e : inside pc len = false := by simp only [inside]; simpa using hk
    rw [e] at this
    exact this)
  clear hb hk
  go_enter Tryd.func52, Tryd.ntmps52
  go_wp2_with (go_at_call 109; refine (WI _).out.mono ?_; rintro e w' ⟨rfl, rfl⟩)
  go_ret
  exact next_fin_nil HB.out

theorem noback (ad : Option Addr) (len cap : Nat) (pc : Int) (w : World) (hk : ¬ (0 ≤ pc ∧ pc < len)) :
    Calls Tryd.prog 54 #[.agg #[.string ⟨#[]⟩, .string ⟨#[]⟩, .string ⟨#[]⟩, .slice ad len cap], .int .i64 pc] w (BoolPost false w) := by
  have hb : Below w.heap.size w (w.alloc (.cells #[.string ⟨#[]⟩, .string ⟨#[]⟩, .string ⟨#[]⟩, .slice ad len cap] 62)) := (Below.refl _ _).alloc (Nat.le_refl _) _
  have HB := Lib.hid hb
  have WI : ∀ w', Hid (Calls Tryd.prog 109 #[.int .i64 pc, .int .i64 len] w' fun e w'' => e = .returned (.bool false) ∧ w' = w'') := fun w' => Lib.hid (by
    have := within_any pc len w'
    have e : inside pc len = false := by simp only [inside]; simpa using hk
    rw [e] at this
    exact this)
  clear hb hk
  go_enter Tryd.func54, Tryd.ntmps54
  go_wp2_with (go_at_call 109; refine (WI _).out.mono ?_; rintro e w' ⟨rfl, rfl⟩)
  go_ret
  exact ⟨rfl, HB.out⟩

def NamesPost (w : World) (e : Ending) (w' : World) : Prop := ∃ g, e = .returned (.slice (some ⟨g, 0, none⟩) 47 47) ∧ Below w.heap.size w w'

set_option maxHeartbeats 2000000 in
set_option maxRecDepth 100000 in
theorem names_any (w : World) : Calls Tryd.prog 40 #[] w (NamesPost w) := by
  go_enter Tryd.func40, Tryd.ntmps40
  go_wp2_with fail
  go_ret
  exact ⟨_, rfl, (Below.refl _ _).alloc (Nat.le_refl _) _⟩

end Go.Proofs.YtjffbojgdemooaaDoor

/-
  Next and Back, both sides, at any method. (Written by genefb.py.)
-/
import Derived.Test.YtjffbojgdemooaaDoorEfA
import Derived.Test.YtjffbojgdemooaaDoorGoes0
import Derived.Test.YtjffbojgdemooaaDoorSrtA
import Derived.Test.YtjffbojgdemooaaDoorSameI
namespace Go.Proofs.YtjffbojgdemooaaDoor
open Go.RowKit

def WfI (x : Int) : Prop := (Lit.int .i64 x).wf = true
def NextQ (l : List Int) (w : World) (e : Ending) (w' : World) : Prop := ∃ ad n c, e = .returned (.slice ad n c) ∧ Row .i64 w' ad n c l ∧ Below w.heap.size w w'
theorem NextPost.q {l : List Int} {w : World} {e : Ending} {w' : World} (h : NextPost l w e w') : NextQ l w e w' := by
  obtain ⟨a, n, h1, h2, h3⟩ := h
  exact ⟨a, n, n, h1, h2, h3⟩

theorem sort_pair (A : Int) (k : Nat) : sortU [(k : Int) + 1, A] = nextL 23 A k := by
  unfold nextL
  rw [if_neg (by omega), if_neg (by omega)]
  show insU A [(k : Int) + 1] = _
  simp only [insU]
  by_cases h1 : (k : Int) + 1 < A
  · rw [if_pos h1, if_neg (by omega), if_pos ⟨trivial, h1⟩]
  · rw [if_neg h1]
    by_cases h2 : (k : Int) + 1 = A
    · rw [if_pos h2, if_neg (by omega), if_neg (by omega)]
    · rw [if_neg h2, if_pos ⟨trivial, by omega⟩]

theorem sorted_two (w W : World) (g k : Nat) (A : Int) (hg : W.heap.size = g) (hk : k ≤ 1000) (hA : (Lit.int .i64 A).wf = true) (hb : Below w.heap.size w W) :
    Calls Tryd.prog 23 #[.slice (some ⟨g, 0, none⟩) 2 2] (W.alloc (.cells #[.int .i64 ((k : Int) + 1), .int .i64 A] 3)) (NextQ (nextL 23 A k) w) := by
  subst hg
  have hr : Row .i64 (W.alloc (.cells #[.int .i64 ((k : Int) + 1), .int .i64 A] 3)) (some ⟨W.heap.size, 0, none⟩) 2 2 [(k : Int) + 1, A] :=
    row_two ((cell_of_row _ _ 0 _ 3 (0, 0) (heap_alloc_new W _)).trans rfl) ((cell_of_row _ _ 1 _ 3 (0, 0) (heap_alloc_new W _)).trans rfl) (Nat.le_refl _) (by unfold maxLen; omega) (wf_small k hk) hA
  have hb2 : Below w.heap.size w (W.alloc (.cells #[.int .i64 ((k : Int) + 1), .int .i64 A] 3)) := hb.alloc hb.size _
  refine (sorted_any _ 2 2 _ _ hr (by omega)).mono ?_
  rintro e w' ⟨v, rfl, h1, h2⟩
  rw [sort_pair] at h1
  obtain ⟨a, c, rfl, hrow⟩ := row_of_owns h1 (by
    intro n hn
    have : n ∈ [A] ∨ n ∈ [A, (k : Int) + 1] ∨ n ∈ [(k : Int) + 1, A] ∨ n ∈ [(k : Int) + 1] := by
      unfold nextL at hn
      rw [if_neg (by omega), if_neg (by omega)] at hn
      split at hn
      · exact .inr (.inl hn)
      · split at hn
        · exact .inr (.inr (.inl hn))
        · exact .inr (.inr (.inr hn))
    have h5 : n = A ∨ n = (k : Int) + 1 := by
      simp only [List.mem_cons, List.not_mem_nil, or_false] at this
      omega
    rcases h5 with rfl | rfl
    · exact hA
    · exact wf_small k hk)
  exact ⟨a, _, c, rfl, hrow, hb2.trans (h2.mono hb2.size)⟩

set_option maxHeartbeats 2000000 in
set_option maxRecDepth 100000 in
theorem next_gen (ps ls rt : ByteArray) (lb lo len cap k : Nat) (T A B N : Int) (w : World) (h : At4 w lb lo k T A B N) (hk : k < len) (hl : len ≤ 140) (hA : T = 22 ∨ T = 23 → (Lit.int .i64 A).wf = true) :
    Calls Tryd.prog 52 #[.agg #[.string ps, .string ls, .string rt, .slice (some ⟨lb, lo, none⟩) len cap], .int .i64 k] w (NextQ (nextL T A k) w) := by
  have hb : Below w.heap.size w (w.alloc (.cells #[.string ps, .string ls, .string rt, .slice (some ⟨lb, lo, none⟩) len cap] 62)) := (Below.refl _ _).alloc (Nat.le_refl _) _
  obtain ⟨k0, k1, k2, k3⟩ := h.below hb
  have hb2 : Below w.heap.size w ((w.alloc (.cells #[.string ps, .string ls, .string rt, .slice (some ⟨lb, lo, none⟩) len cap] 62)).alloc (.cells #[.int .i64 T, .int .i64 A, .int .i64 B, .int .i64 N] 67)) := hb.alloc (by simp) _
  have HB := Lib.hid hb2
  have HA := Lib.hid hA
  have WI : ∀ w', Hid (Calls Tryd.prog 109 #[.int .i64 k, .int .i64 len] w' fun e w'' => e = .returned (.bool true) ∧ w' = w'') := fun w' => Lib.hid (by
    have := within_any k len w'
    have e : inside k len = true := by simp [inside, hk]
    rw [e] at this
    exact this)
  clear h hA
  by_cases c33 : T = 33
  · subst c33
    have hr : nextL 33 A k = [] := rfl
    rw [hr]
    clear hb hb2 HA
    go_enter Tryd.func52, Tryd.ntmps52
    go_wp2_with (go_at_call 109; refine (WI _).out.mono ?_; rintro e w' ⟨rfl, rfl⟩)
    go_ret
    exact (next_fin_nil HB.out).q
  · by_cases c22 : T = 22
    · subst c22
      have hr : nextL 22 A k = [A] := rfl
      rw [hr]
      clear c33 hb hb2
      have HA2 : WfI A := (HA.out (.inl rfl))
      clear HA
      go_enter Tryd.func52, Tryd.ntmps52
      go_wp2_with (go_at_call 109; refine (WI _).out.mono ?_; rintro e w' ⟨rfl, rfl⟩)
      go_ret
      exact (next_fin_one HB.out HA2 (by simp)).q
    · by_cases c23 : T = 23
      · subst c23
        clear c33 c22
        have HA2 : WfI A := (HA.out (.inr rfl))
        clear HA
        clear hb hb2
        by_cases g1 : A < (k : Int) + 1
        · have hr : nextL 23 A k = [A, (k : Int) + 1] := by simp [nextL, g1]
          rw [hr]
          have t1 : decide (A < (k : Int) + 1) = true := by simpa using g1
          clear g1 hr
          go_enter Tryd.func52, Tryd.ntmps52
          go_wp2_with (go_at_call 109; refine (WI _).out.mono ?_; rintro e w' ⟨rfl, rfl⟩)
          go_ret
          exact (next_fin_two HB.out HA2 (wf_small k (by omega)) (by simp)).q
        · have t1 : decide (A < (k : Int) + 1) = false := by simpa using g1
          by_cases g2 : (k : Int) + 1 < A
          · have hr : nextL 23 A k = [(k : Int) + 1, A] := by simp [nextL, g1, g2]
            rw [hr]
            have t2 : decide ((k : Int) + 1 < A) = true := by simpa using g2
            clear g1 g2 hr
            go_enter Tryd.func52, Tryd.ntmps52
            go_wp2_with (go_at_call 109; refine (WI _).out.mono ?_; rintro e w' ⟨rfl, rfl⟩)
            go_ret
            exact (next_fin_two HB.out (wf_small k (by omega)) HA2 (by simp)).q
          · have hr : nextL 23 A k = [(k : Int) + 1] := by simp [nextL, g1, g2]
            rw [hr]
            have t2 : decide ((k : Int) + 1 < A) = false := by simpa using g2
            clear g1 g2 hr
            go_enter Tryd.func52, Tryd.ntmps52
            go_wp2_with (go_at_call 109; refine (WI _).out.mono ?_; rintro e w' ⟨rfl, rfl⟩)
            go_ret
            exact (next_fin_one HB.out (wf_small k (by omega)) (by simp)).q
      · have hr : nextL T A k = [(k : Int) + 1] := by simp [nextL, c33, c22, c23]
        rw [hr]
        have t1 : (T == 33) = false := by simpa using c33
        have t2 : (T == 22) = false := by simpa using c22
        have t3 : (T == 23) = false := by simpa using c23
        clear c33 c22 c23 hr hb hb2 HA
        go_enter Tryd.func52, Tryd.ntmps52
        go_wp2_with (go_at_call 109; refine (WI _).out.mono ?_; rintro e w' ⟨rfl, rfl⟩)
        go_ret
        exact (next_fin_one HB.out (wf_small k (by omega)) (by simp)).q

set_option maxHeartbeats 2000000 in
set_option maxRecDepth 100000 in
theorem rnext_gen (ps ls rt : ByteArray) (lb lo len cap k : Nat) (T A B N : Int) (w : World) (h : At4 w lb lo k T A B N) (hk : k < len) (hl : len ≤ 140) (hA : T = 22 ∨ T = 23 → (Lit.int .i64 A).wf = true) :
    Calls Tryd.prog 53 #[.agg #[.string ps, .string ls, .string rt, .slice (some ⟨lb, lo, none⟩) len cap], .int .i64 k] w (NextQ (nextL T A k) w) := by
  have hb : Below w.heap.size w (w.alloc (.cells #[.string ps, .string ls, .string rt, .slice (some ⟨lb, lo, none⟩) len cap] 62)) := (Below.refl _ _).alloc (Nat.le_refl _) _
  obtain ⟨k0, k1, k2, k3⟩ := h.below hb
  have hb2 : Below w.heap.size w ((w.alloc (.cells #[.string ps, .string ls, .string rt, .slice (some ⟨lb, lo, none⟩) len cap] 62)).alloc (.cells #[.int .i64 T, .int .i64 A, .int .i64 B, .int .i64 N] 67)) := hb.alloc (by simp) _
  have HB := Lib.hid hb2
  have HA := Lib.hid hA
  have u1 : decide ((k : Int) < 0) = false := by simp
  have u2 : decide ((len : Int) ≤ k) = false := by simp; omega
  clear h hA
  by_cases c33 : T = 33
  · subst c33
    have hr : nextL 33 A k = [] := rfl
    rw [hr]
    clear hb hb2 HA
    go_enter Tryd.func53, Tryd.ntmps53
    go_wp2_with fail
    go_ret
    exact (next_fin_nil HB.out).q
  · by_cases c22 : T = 22
    · subst c22
      have hr : nextL 22 A k = [A] := rfl
      rw [hr]
      clear c33 hb hb2
      have HA2 : WfI A := (HA.out (.inl rfl))
      clear HA
      go_enter Tryd.func53, Tryd.ntmps53
      go_wp2_with fail
      go_ret
      exact (next_fin_one HB.out HA2 (by simp)).q
    · by_cases c23 : T = 23
      · subst c23
        clear c33 c22
        have HA2 : WfI A := (HA.out (.inr rfl))
        clear HA
        have KS := Lib.hid fun g hg => sorted_two w ((w.alloc (.cells #[.string ps, .string ls, .string rt, .slice (some ⟨lb, lo, none⟩) len cap] 62)).alloc (.cells #[.int .i64 23, .int .i64 A, .int .i64 B, .int .i64 N] 67)) g k A hg (by omega) HA2 hb2
        clear hb hb2
        go_enter Tryd.func53, Tryd.ntmps53
        go_wp2_with fail
        refine (KS.out _ (by simp)).mono ?_
        rintro e w7 ⟨ad, n, c, rfl, hrow, hbl⟩
        have HR7 := Lib.hid hrow
        have HB7 := Lib.hid hbl
        clear hrow hbl KS
        go_wp2_with fail
        go_ret
        exact ⟨ad, n, c, rfl, HR7.out, HB7.out⟩
      · have hr : nextL T A k = [(k : Int) + 1] := by simp [nextL, c33, c22, c23]
        rw [hr]
        have t1 : (T == 33) = false := by simpa using c33
        have t2 : (T == 22) = false := by simpa using c22
        have t3 : (T == 23) = false := by simpa using c23
        clear c33 c22 c23 hr hb hb2 HA
        go_enter Tryd.func53, Tryd.ntmps53
        go_wp2_with fail
        go_ret
        exact (next_fin_one HB.out (wf_small k (by omega)) (by simp)).q

set_option maxHeartbeats 2000000 in
set_option maxRecDepth 100000 in
theorem back_gen (ps ls rt : ByteArray) (lb lo len cap k : Nat) (T A B N : Int) (w : World) (h : At4 w lb lo k T A B N) (hk : k < len) (_hl : len ≤ 140) :
    Calls Tryd.prog 54 #[.agg #[.string ps, .string ls, .string rt, .slice (some ⟨lb, lo, none⟩) len cap], .int .i64 k] w (BoolPost (backB T A k) w) := by
  have hb : Below w.heap.size w (w.alloc (.cells #[.string ps, .string ls, .string rt, .slice (some ⟨lb, lo, none⟩) len cap] 62)) := (Below.refl _ _).alloc (Nat.le_refl _) _
  obtain ⟨k0, k1, k2, k3⟩ := h.below hb
  have hb2 : Below w.heap.size w ((w.alloc (.cells #[.string ps, .string ls, .string rt, .slice (some ⟨lb, lo, none⟩) len cap] 62)).alloc (.cells #[.int .i64 T, .int .i64 A, .int .i64 B, .int .i64 N] 67)) := hb.alloc (by simp) _
  have HB := Lib.hid hb2
  have WI : ∀ w', Hid (Calls Tryd.prog 109 #[.int .i64 k, .int .i64 len] w' fun e w'' => e = .returned (.bool true) ∧ w' = w'') := fun w' => Lib.hid (by
    have := within_any k len w'
    have e : inside k len = true := by simp [inside, hk]
    rw [e] at this
    exact this)
  clear h hb hb2
  by_cases c : T = 22 ∨ T = 23
  · have hr : backB T A k = decide (A ≤ (k : Int)) := by simp [backB, c]
    rw [hr]
    obtain ⟨v, hv⟩ : ∃ v, decide (A ≤ (k : Int)) = v := ⟨_, rfl⟩
    rw [hv]
    clear hr
    rcases c with rfl | rfl
    all_goals
      go_enter Tryd.func54, Tryd.ntmps54
      go_wp2_with (go_at_call 109; refine (WI _).out.mono ?_; rintro e w' ⟨rfl, rfl⟩)
      go_ret
      exact ⟨rfl, HB.out⟩
  · have hr : backB T A k = false := by simp [backB, c]
    rw [hr]
    have t2 : (T == 22) = false := by simp; omega
    have t3 : (T == 23) = false := by simp; omega
    clear c hr
    go_enter Tryd.func54, Tryd.ntmps54
    go_wp2_with (go_at_call 109; refine (WI _).out.mono ?_; rintro e w' ⟨rfl, rfl⟩)
    go_ret
    exact ⟨rfl, HB.out⟩

set_option maxHeartbeats 2000000 in
set_option maxRecDepth 100000 in
theorem rback_gen (ps ls rt : ByteArray) (lb lo len cap k : Nat) (T A B N : Int) (w : World) (h : At4 w lb lo k T A B N) (hk : k < len) (_hl : len ≤ 140) :
    Calls Tryd.prog 55 #[.agg #[.string ps, .string ls, .string rt, .slice (some ⟨lb, lo, none⟩) len cap], .int .i64 k] w (BoolPost (backB T A k) w) := by
  have hb : Below w.heap.size w (w.alloc (.cells #[.string ps, .string ls, .string rt, .slice (some ⟨lb, lo, none⟩) len cap] 62)) := (Below.refl _ _).alloc (Nat.le_refl _) _
  obtain ⟨k0, k1, k2, k3⟩ := h.below hb
  have hb2 : Below w.heap.size w ((w.alloc (.cells #[.string ps, .string ls, .string rt, .slice (some ⟨lb, lo, none⟩) len cap] 62)).alloc (.cells #[.int .i64 T, .int .i64 A, .int .i64 B, .int .i64 N] 67)) := hb.alloc (by simp) _
  have HB := Lib.hid hb2
  clear h hb hb2
  by_cases c : T = 22 ∨ T = 23
  · have hr : backB T A k = decide (A ≤ (k : Int)) := by simp [backB, c]
    rw [hr]
    obtain ⟨v, hv⟩ : ∃ v, decide (A ≤ (k : Int)) = v := ⟨_, rfl⟩
    rw [hv]
    clear hr
    rcases c with rfl | rfl
    all_goals
      go_enter Tryd.func55, Tryd.ntmps55
      go_wp2_with fail
      go_ret
      exact ⟨rfl, HB.out⟩
  · have hr : backB T A k = false := by simp [backB, c]
    rw [hr]
    have t2 : (T == 22) = false := by simp; omega
    have t3 : (T == 23) = false := by simp; omega
    clear c hr
    go_enter Tryd.func55, Tryd.ntmps55
    go_wp2_with fail
    go_ret
    exact ⟨rfl, HB.out⟩

set_option maxRecDepth 100000 in
theorem next_off (ps ls rt : ByteArray) (ad : Option Addr) (len cap : Nat) (pc : Int) (w : World) (hk : ¬ (0 ≤ pc ∧ pc < len)) :
    Calls Tryd.prog 52 #[.agg #[.string ps, .string ls, .string rt, .slice ad len cap], .int .i64 pc] w (NextQ [] w) := by
  have hb : Below w.heap.size w (w.alloc (.cells #[.string ps, .string ls, .string rt, .slice ad len cap] 62)) := (Below.refl _ _).alloc (Nat.le_refl _) _
  have HB := Lib.hid hb
  have WI : ∀ w', Hid (Calls Tryd.prog 109 #[.int .i64 pc, .int .i64 len] w' fun e w'' => e = .returned (.bool false) ∧ w' = w'') := fun w' => Lib.hid (by
    have := within_any pc len w'
    have e : inside pc len = false := by simp only [inside]; simpa using hk
    rw [e] at this
    exact this)
  clear hb hk
  go_enter Tryd.func52, Tryd.ntmps52
  go_wp2_with (go_at_call 109; refine (WI _).out.mono ?_; rintro e w' ⟨rfl, rfl⟩)
  go_ret
  exact (next_fin_nil HB.out).q

set_option maxRecDepth 100000 in
theorem rnext_off (ps ls rt : ByteArray) (ad : Option Addr) (len cap : Nat) (pc : Int) (w : World) (hk : ¬ (0 ≤ pc ∧ pc < len)) :
    Calls Tryd.prog 53 #[.agg #[.string ps, .string ls, .string rt, .slice ad len cap], .int .i64 pc] w (NextQ [] w) := by
  have hb : Below w.heap.size w (w.alloc (.cells #[.string ps, .string ls, .string rt, .slice ad len cap] 62)) := (Below.refl _ _).alloc (Nat.le_refl _) _
  have HB := Lib.hid hb
  clear hb
  by_cases hn : pc < 0
  · have t1 : decide (pc < 0) = true := by simpa using hn
    clear hk hn
    go_enter Tryd.func53, Tryd.ntmps53
    go_wp2_with fail
    go_ret
    exact (next_fin_nil HB.out).q
  · have t1 : decide (pc < 0) = false := by simpa using hn
    have t2 : decide ((len : Int) ≤ pc) = true := by simp; omega
    clear hk hn
    go_enter Tryd.func53, Tryd.ntmps53
    go_wp2_with fail
    go_ret
    exact (next_fin_nil HB.out).q

set_option maxRecDepth 100000 in
theorem back_off (ps ls rt : ByteArray) (ad : Option Addr) (len cap : Nat) (pc : Int) (w : World) (hk : ¬ (0 ≤ pc ∧ pc < len)) :
    Calls Tryd.prog 54 #[.agg #[.string ps, .string ls, .string rt, .slice ad len cap], .int .i64 pc] w (BoolPost false w) := by
  have hb : Below w.heap.size w (w.alloc (.cells #[.string ps, .string ls, .string rt, .slice ad len cap] 62)) := (Below.refl _ _).alloc (Nat.le_refl _) _
  have HB := Lib.hid hb
  have WI : ∀ w', Hid (Calls Tryd.prog 109 #[.int .i64 pc, .int .i64 len] w' fun e w'' => e = .returned (.bool false) ∧ w' = w'') := fun w' => Lib.hid (by
    have := within_any pc len w'
    have e : inside pc len = false := by simp only [inside]; simpa using hk
    rw [e] at this
    exact this)
  clear hb hk
  go_enter Tryd.func54, Tryd.ntmps54
  go_wp2_with (go_at_call 109; refine (WI _).out.mono ?_; rintro e w' ⟨rfl, rfl⟩)
  go_ret
  exact ⟨rfl, HB.out⟩

set_option maxRecDepth 100000 in
theorem rback_off (ps ls rt : ByteArray) (ad : Option Addr) (len cap : Nat) (pc : Int) (w : World) (hk : ¬ (0 ≤ pc ∧ pc < len)) :
    Calls Tryd.prog 55 #[.agg #[.string ps, .string ls, .string rt, .slice ad len cap], .int .i64 pc] w (BoolPost false w) := by
  have hb : Below w.heap.size w (w.alloc (.cells #[.string ps, .string ls, .string rt, .slice ad len cap] 62)) := (Below.refl _ _).alloc (Nat.le_refl _) _
  have HB := Lib.hid hb
  clear hb
  by_cases hn : pc < 0
  · have t1 : decide (pc < 0) = true := by simpa using hn
    clear hk hn
    go_enter Tryd.func55, Tryd.ntmps55
    go_wp2_with fail
    go_ret
    exact ⟨rfl, HB.out⟩
  · have t1 : decide (pc < 0) = false := by simpa using hn
    have t2 : decide ((len : Int) ≤ pc) = true := by simp; omega
    clear hk hn
    go_enter Tryd.func55, Tryd.ntmps55
    go_wp2_with fail
    go_ret
    exact ⟨rfl, HB.out⟩

/-- Where a method goes on from a place; whether it goes back. -/
def nextM (len : Nat) (gv : Nat → Nat → Int) (pc : Int) : List Int := if 0 ≤ pc ∧ pc < len then nextL (gv pc.toNat 0) (gv pc.toNat 1) pc.toNat else []
def backM (len : Nat) (gv : Nat → Nat → Int) (pc : Int) : Bool := if 0 ≤ pc ∧ pc < len then backB (gv pc.toNat 0) (gv pc.toNat 1) pc.toNat else false

theorem At4_of {w : World} {co : Option Addr} {len cap : Nat} {gv : Nat → Nat → Int} (h : Picks w co len cap gv) {k : Nat} (hk : k < len) : ∃ lb lo, co = some ⟨lb, lo, none⟩ ∧ At4 w lb lo k (gv k 0) (gv k 1) (gv k 2) (gv k 3) := by
  obtain ⟨lb, lo, rfl, _, hc⟩ := Picks_at h (by omega)
  exact ⟨lb, lo, rfl, hc k 0 hk (by omega), hc k 1 hk (by omega), hc k 2 hk (by omega), hc k 3 hk (by omega)⟩

theorem next_all (ps ls rt : ByteArray) (co : Option Addr) (len cap : Nat) (gv : Nat → Nat → Int) (pc : Int) (w : World) (h : Picks w co len cap gv) (hl : len ≤ 140) (hA : ∀ i, i < len → gv i 0 = 22 ∨ gv i 0 = 23 → (Lit.int .i64 (gv i 1)).wf = true) :
    Calls Tryd.prog 52 #[.agg #[.string ps, .string ls, .string rt, .slice co len cap], .int .i64 pc] w (NextQ (nextM len gv pc) w) := by
  by_cases hk : 0 ≤ pc ∧ pc < len
  · obtain ⟨k, rfl⟩ : ∃ k : Nat, pc = k := ⟨pc.toNat, by omega⟩
    obtain ⟨lb, lo, rfl, h4⟩ := At4_of h (k := k) (by omega)
    rw [nextM, if_pos hk, Int.toNat_natCast]
    exact next_gen ps ls rt lb lo len cap k _ _ _ _ w h4 (by omega) hl (hA k (by omega))
  · rw [nextM, if_neg hk]
    exact next_off ps ls rt co len cap pc w hk

theorem back_all (ps ls rt : ByteArray) (co : Option Addr) (len cap : Nat) (gv : Nat → Nat → Int) (pc : Int) (w : World) (h : Picks w co len cap gv) (hl : len ≤ 140) :
    Calls Tryd.prog 54 #[.agg #[.string ps, .string ls, .string rt, .slice co len cap], .int .i64 pc] w (BoolPost (backM len gv pc) w) := by
  by_cases hk : 0 ≤ pc ∧ pc < len
  · obtain ⟨k, rfl⟩ : ∃ k : Nat, pc = k := ⟨pc.toNat, by omega⟩
    obtain ⟨lb, lo, rfl, h4⟩ := At4_of h (k := k) (by omega)
    rw [backM, if_pos hk, Int.toNat_natCast]
    exact back_gen ps ls rt lb lo len cap k _ _ _ _ w h4 (by omega) hl
  · rw [backM, if_neg hk]
    exact back_off ps ls rt co len cap pc w hk

theorem rnext_all (ps ls rt : ByteArray) (co : Option Addr) (len cap : Nat) (gv : Nat → Nat → Int) (pc : Int) (w : World) (h : Picks w co len cap gv) (hl : len ≤ 140) (hA : ∀ i, i < len → gv i 0 = 22 ∨ gv i 0 = 23 → (Lit.int .i64 (gv i 1)).wf = true) :
    Calls Tryd.prog 53 #[.agg #[.string ps, .string ls, .string rt, .slice co len cap], .int .i64 pc] w (NextQ (nextM len gv pc) w) := by
  by_cases hk : 0 ≤ pc ∧ pc < len
  · obtain ⟨k, rfl⟩ : ∃ k : Nat, pc = k := ⟨pc.toNat, by omega⟩
    obtain ⟨lb, lo, rfl, h4⟩ := At4_of h (k := k) (by omega)
    rw [nextM, if_pos hk, Int.toNat_natCast]
    exact rnext_gen ps ls rt lb lo len cap k _ _ _ _ w h4 (by omega) hl (hA k (by omega))
  · rw [nextM, if_neg hk]
    exact rnext_off ps ls rt co len cap pc w hk

theorem rback_all (ps ls rt : ByteArray) (co : Option Addr) (len cap : Nat) (gv : Nat → Nat → Int) (pc : Int) (w : World) (h : Picks w co len cap gv) (hl : len ≤ 140) :
    Calls Tryd.prog 55 #[.agg #[.string ps, .string ls, .string rt, .slice co len cap], .int .i64 pc] w (BoolPost (backM len gv pc) w) := by
  by_cases hk : 0 ≤ pc ∧ pc < len
  · obtain ⟨k, rfl⟩ : ∃ k : Nat, pc = k := ⟨pc.toNat, by omega⟩
    obtain ⟨lb, lo, rfl, h4⟩ := At4_of h (k := k) (by omega)
    rw [backM, if_pos hk, Int.toNat_natCast]
    exact rback_gen ps ls rt lb lo len cap k _ _ _ _ w h4 (by omega) hl
  · rw [backM, if_neg hk]
    exact rback_off ps ls rt co len cap pc w hk

end Go.Proofs.YtjffbojgdemooaaDoor

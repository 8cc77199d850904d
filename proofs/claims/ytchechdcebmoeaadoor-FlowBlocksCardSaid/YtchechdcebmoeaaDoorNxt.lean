/-
  What  stand on.
-/
import Derived.Test.YtchechdcebmoeaaDoorProg
import Derived.Test.YtchechdcebmoeaaDoorKit
import Derived.Test.YtchechdcebmoeaaDoorMem
import Derived.Test.YtchechdcebmoeaaDoorSrtB
import Derived.BigQuiet
import Derived.Deep.DeepCutAuto
import Derived.Deep.QuietTactic
import Derived.Deep.RegionLaw
import Derived.Deep.RegionWith
import Derived.LaidEql
import Derived.LaidSub
import Derived.Laws.AppendOwnNone
import Derived.Laws.Tables
import Derived.Maps.AppendAt
import Derived.Outline
import Derived.StillTailTactics
import Derived.Stop.LaidErr
namespace Go.Proofs.YtchechdcebmoeaaDoor
open Go.ChangeShapes Go.RowKit

theorem row_one {w : World} {g cp : Nat} {pos : Int} (hc : w.cell? ⟨g, 0, none⟩ = some (.int .i64 pos)) (h1 : 1 ≤ cp) (h2 : cp ≤ maxLen) (hw : (Lit.int .i64 pos).wf = true) : Row .i64 w (some ⟨g, 0, none⟩) 1 cp [pos] := by
  refine ⟨rfl, h1, h2, fun h => (by cases h), fun ad had j hj => ?_, fun n hn => ?_⟩
  · cases had
    obtain rfl : j = 0 := by omega
    simpa [Addr.add] using hc
  · simp at hn
    subst hn
    exact hw

def inside (i n : Int) : Bool := decide (0 ≤ i ∧ i < n)

theorem within_any (i n : Int) (w : World) : Calls Tryd.prog 155 #[.int .i64 i, .int .i64 n] w fun e w' => e = .returned (.bool (inside i n)) ∧ w = w' := by
  by_cases h0 : 0 ≤ i
  · by_cases h1 : i < n
    · have hr : inside i n = true := by simp [inside, h0, h1]
      rw [hr]
      have t0 : decide (0 ≤ i) = true := by simpa using h0
      have t1 : decide (i < n) = true := by simpa using h1
      clear h0 h1 hr
      go_enter Tryd.func155, Tryd.ntmps155
      go_wp2
      go_ret
      exact ⟨rfl, rfl⟩
    · have hr : inside i n = false := by simp [inside, h1]
      rw [hr]
      have t0 : decide (0 ≤ i) = true := by simpa using h0
      have t1 : decide (i < n) = false := by simpa using h1
      clear h0 h1 hr
      go_enter Tryd.func155, Tryd.ntmps155
      go_wp2
      go_ret
      exact ⟨rfl, rfl⟩
  · have hr : inside i n = false := by simp [inside, h0]
    rw [hr]
    have t0 : decide (0 ≤ i) = false := by simpa using h0
    clear h0 hr
    go_enter Tryd.func155, Tryd.ntmps155
    go_wp2
    go_ret
    exact ⟨rfl, rfl⟩

theorem row_two {w : World} {g cp : Nat} {pos pc : Int} (hc : w.cell? ⟨g, 0, none⟩ = some (.int .i64 pos)) (hd : w.cell? ⟨g, 1, none⟩ = some (.int .i64 pc)) (h1 : 2 ≤ cp) (h2 : cp ≤ maxLen) (hw : (Lit.int .i64 pos).wf = true) (hv : (Lit.int .i64 pc).wf = true) : Row .i64 w (some ⟨g, 0, none⟩) 2 cp [pos, pc] := by
  refine ⟨rfl, h1, h2, fun h => (by cases h), fun ad had j hj => ?_, fun n hn => ?_⟩
  · cases had
    match j, hj with
    | 0, _ => simpa [Addr.add] using hc
    | 1, _ => simpa [Addr.add] using hd
  · simp at hn
    rcases hn with rfl | rfl
    · exact hw
    · exact hv

/-- A list of picks: four numbers each. -/
structure Picks (w : World) (a : Option Addr) (len cap : Nat) (gv : Nat → Nat → Int) : Prop where
  le : len ≤ cap
  max : cap ≤ maxLen
  nil : a = none → cap = 0
  cells : ∀ ad, a = some ad → ∀ i j, i < len → j < 4 → w.cell? (ad.add (i * 4 + j)) = some (.int .i64 (gv i j))

theorem Picks_at {w : World} {a : Option Addr} {len cap : Nat} {gv : Nat → Nat → Int} (h : Picks w a len cap gv) (hp : 0 < len) :
    ∃ b off, a = some ⟨b, off, none⟩ ∧ b < w.heap.size ∧ ∀ i j, i < len → j < 4 → w.cell? ⟨b, off + (i * 4 + j), none⟩ = some (.int .i64 (gv i j)) := by
  cases a with
  | none => have h1 := h.nil rfl; have h2 := h.le; omega
  | some ad =>
    obtain ⟨b, off, s⟩ := ad
    have h0 := h.cells _ rfl 0 0 hp (by omega)
    have hs : s = none := by simpa [Addr.add] using World.cell?_spot h0
    subst hs
    have e : ∀ k, (⟨b, off, none⟩ : Addr).add k = ⟨b, off + k, none⟩ := by
      intro k
      unfold Addr.add
      split
      · rename_i h; subst h; rfl
      · rfl
    rw [e] at h0
    refine ⟨b, off, rfl, World.block_lt_of_cell? w _ h0, fun i j hi hj => ?_⟩
    have hc := h.cells _ rfl i j hi hj
    rw [e] at hc
    exact hc

theorem Picks.below {w w' : World} {a : Option Addr} {len cap : Nat} {gv : Nat → Nat → Int} (h : Picks w a len cap gv) (hb : Below w.heap.size w w') : Picks w' a len cap gv :=
  ⟨h.le, h.max, h.nil, fun ad had i j hi hj => (hb.cell (World.block_lt_of_cell? w _ (h.cells ad had i j hi hj))).trans (h.cells ad had i j hi hj)⟩

def nextL (T A : Int) (k : Nat) : List Int :=
  if T = 33 then [] else if T = 22 then [A] else if T = 23 ∧ A < k + 1 then [A, k + 1] else if T = 23 ∧ (k : Int) + 1 < A then [(k : Int) + 1, A] else [(k : Int) + 1]

def NextPost (l : List Int) (w : World) (e : Ending) (w' : World) : Prop := ∃ ad n, e = .returned (.slice ad n n) ∧ Row .i64 w' ad n n l ∧ Below w.heap.size w w' ∧ ∀ x, ad = some x → w.heap.size ≤ x.block

theorem next_fin_nil {w w' : World} (h : Below w.heap.size w w') : NextPost [] w (.returned (.slice none 0 0)) w' := ⟨none, 0, rfl, row_nil _ _, h, fun x e => (by cases e)⟩

theorem next_fin_one {w W : World} {g : Nat} {x : Int} (h : Below w.heap.size w W) (hx : (Lit.int .i64 x).wf = true) (hg : W.heap.size = g) : NextPost [x] w (.returned (.slice (some ⟨g, 0, none⟩) 1 1)) (W.alloc (.cells #[.int .i64 x] 3)) := by
  subst hg
  exact ⟨_, 1, rfl, row_one ((cell_of_row _ _ 0 _ 3 (0, 0) (heap_alloc_new W _)).trans rfl) (Nat.le_refl _) (by unfold maxLen; omega) hx, h.alloc h.size _, fun x e => (by cases e; exact h.size)⟩

theorem next_fin_two {w W : World} {g : Nat} {x y : Int} (h : Below w.heap.size w W) (hx : (Lit.int .i64 x).wf = true) (hy : (Lit.int .i64 y).wf = true) (hg : W.heap.size = g) : NextPost [x, y] w (.returned (.slice (some ⟨g, 0, none⟩) 2 2)) (W.alloc (.cells #[.int .i64 x, .int .i64 y] 3)) := by
  subst hg
  exact ⟨_, 2, rfl, row_two ((cell_of_row _ _ 0 _ 3 (0, 0) (heap_alloc_new W _)).trans rfl) ((cell_of_row _ _ 1 _ 3 (0, 0) (heap_alloc_new W _)).trans rfl) (Nat.le_refl _) (by unfold maxLen; omega) hx hy, h.alloc h.size _, fun x e => (by cases e; exact h.size)⟩

theorem wf_small (k : Nat) (h : k ≤ 1000) : (Lit.int .i64 ((k : Int) + 1)).wf = true := by
  simp [Lit.wf, IntKind.min, IntKind.max, IntKind.signed, IntKind.bits]
  omega

/-- The four cells of an instruction, and the world behind the two boxes of Next and of Back. -/
structure At4 (w : World) (lb lo k : Nat) (T A B N : Int) : Prop where
  k0 : w.cell? ⟨lb, lo + k * 4, none⟩ = some (.int .i64 T)
  k1 : w.cell? ⟨lb, lo + k * 4 + 1, none⟩ = some (.int .i64 A)
  k2 : w.cell? ⟨lb, lo + k * 4 + 2, none⟩ = some (.int .i64 B)
  k3 : w.cell? ⟨lb, lo + k * 4 + 3, none⟩ = some (.int .i64 N)

theorem At4.below {w w' : World} {lb lo k : Nat} {T A B N : Int} (h : At4 w lb lo k T A B N) (hb : Below w.heap.size w w') : At4 w' lb lo k T A B N :=
  ⟨(hb.cell (World.block_lt_of_cell? w _ h.k0)).trans h.k0, (hb.cell (World.block_lt_of_cell? w _ h.k1)).trans h.k1, (hb.cell (World.block_lt_of_cell? w _ h.k2)).trans h.k2, (hb.cell (World.block_lt_of_cell? w _ h.k3)).trans h.k3⟩

def WfI (x : Int) : Prop := (Lit.int .i64 x).wf = true

def NextQ (l : List Int) (w : World) (e : Ending) (w' : World) : Prop := ∃ ad n c, e = .returned (.slice ad n c) ∧ Row .i64 w' ad n c l ∧ Below w.heap.size w w' ∧ ∀ x, ad = some x → w.heap.size ≤ x.block

theorem NextPost.q {l : List Int} {w : World} {e : Ending} {w' : World} (h : NextPost l w e w') : NextQ l w e w' := by
  obtain ⟨a, n, h1, h2, h3, h4⟩ := h
  exact ⟨a, n, n, h1, h2, h3, h4⟩

theorem sort_pair (A : Int) (k : Nat) : sortU [(k : Int) + 1, A] = nextL 23 A k := by
  unfold nextL
  rw [if_neg (by omega), if_neg (by omega)]
  show insU A [(k : Int) + 1] = _
  simp only [insU]
  by_cases h1 : (k : Int) + 1 < A
  · rw [if_pos h1, if_neg (by omega), if_pos ⟨trivial, h1⟩]
  · rw [if_neg h1]
    by_cases h2 : (k : Int) + 1 = A
    · rw [if_pos h2, if_neg (by omega), if_neg (by omega)]
    · rw [if_neg h2, if_pos ⟨trivial, by omega⟩]

theorem sorted_two (w W : World) (g k : Nat) (A : Int) (hg : W.heap.size = g) (hk : k ≤ 1000) (hA : (Lit.int .i64 A).wf = true) (hb : Below w.heap.size w W) :
    Calls Tryd.prog 23 #[.slice (some ⟨g, 0, none⟩) 2 2] (W.alloc (.cells #[.int .i64 ((k : Int) + 1), .int .i64 A] 3)) (NextQ (nextL 23 A k) w) := by
  subst hg
  have hr : Row .i64 (W.alloc (.cells #[.int .i64 ((k : Int) + 1), .int .i64 A] 3)) (some ⟨W.heap.size, 0, none⟩) 2 2 [(k : Int) + 1, A] :=
    row_two ((cell_of_row _ _ 0 _ 3 (0, 0) (heap_alloc_new W _)).trans rfl) ((cell_of_row _ _ 1 _ 3 (0, 0) (heap_alloc_new W _)).trans rfl) (Nat.le_refl _) (by unfold maxLen; omega) (wf_small k hk) hA
  have hb2 : Below w.heap.size w (W.alloc (.cells #[.int .i64 ((k : Int) + 1), .int .i64 A] 3)) := hb.alloc hb.size _
  refine (sorted_any _ 2 2 _ _ hr (by omega)).mono ?_
  rintro e w' ⟨v, rfl, h1, h2⟩
  rw [sort_pair] at h1
  obtain ⟨a, c, rfl, hrow⟩ := row_of_owns h1 (by
    intro n hn
    have : n ∈ [A] ∨ n ∈ [A, (k : Int) + 1] ∨ n ∈ [(k : Int) + 1, A] ∨ n ∈ [(k : Int) + 1] := by
      unfold nextL at hn
      rw [if_neg (by omega), if_neg (by omega)] at hn
      split at hn
      · exact .inr (.inl hn)
      · split at hn
        · exact .inr (.inr (.inl hn))
        · exact .inr (.inr (.inr hn))
    have h5 : n = A ∨ n = (k : Int) + 1 := by
      simp only [List.mem_cons, List.not_mem_nil, or_false] at this
      omega
    rcases h5 with rfl | rfl
    · exact hA
    · exact wf_small k hk)
  refine ⟨a, _, c, rfl, hrow, hb2.trans (h2.mono hb2.size), fun x e => ?_⟩
  rcases h1.2 with ⟨hv, _⟩ | ⟨g2, cap2, cur2, hv, hlo, _⟩
  · have h3 := (Value.slice.inj hv).1
    rw [e] at h3
    cases h3
  · have h3 := (Value.slice.inj hv).1
    rw [e] at h3
    cases h3
    exact Nat.le_trans hb2.size hlo

set_option maxHeartbeats 2000000 in
set_option maxRecDepth 100000 in
theorem next_gen (ps ls rt : ByteArray) (lb lo len cap k : Nat) (T A B N : Int) (w : World) (h : At4 w lb lo k T A B N) (hk : k < len) (hl : len ≤ 140) (hA : T = 22 ∨ T = 23 → (Lit.int .i64 A).wf = true) :
    Calls Tryd.prog 106 #[.agg #[.string ps, .string ls, .string rt, .slice (some ⟨lb, lo, none⟩) len cap], .int .i64 k] w (NextQ (nextL T A k) w) := by
  have hb : Below w.heap.size w (w.alloc (.cells #[.string ps, .string ls, .string rt, .slice (some ⟨lb, lo, none⟩) len cap] 46)) := (Below.refl _ _).alloc (Nat.le_refl _) _
  obtain ⟨k0, k1, k2, k3⟩ := h.below hb
  have hb2 : Below w.heap.size w ((w.alloc (.cells #[.string ps, .string ls, .string rt, .slice (some ⟨lb, lo, none⟩) len cap] 46)).alloc (.cells #[.int .i64 T, .int .i64 A, .int .i64 B, .int .i64 N] 52)) := hb.alloc (by simp) _
  have HB := Lib.hid hb2
  have HA := Lib.hid hA
  have WI : ∀ w', Hid (Calls Tryd.prog 155 #[.int .i64 k, .int .i64 len] w' fun e w'' => e = .returned (.bool true) ∧ w' = w'') := fun w' => Lib.hid (by
    have := within_any k len w'
    have e : inside k len = true := by simp [inside, hk]
    rw [e] at this
    exact this)
  clear h hA
  by_cases c33 : T = 33
  · subst c33
    have hr : nextL 33 A k = [] := rfl
    rw [hr]
    clear hb hb2 HA
    go_enter Tryd.func106, Tryd.ntmps106
    go_wp2_with (go_at_call 155; refine (WI _).out.mono ?_; rintro e w' ⟨rfl, rfl⟩)
    go_ret
    exact (next_fin_nil HB.out).q
  · by_cases c22 : T = 22
    · subst c22
      have hr : nextL 22 A k = [A] := rfl
      rw [hr]
      clear c33 hb hb2
      have HA2 : WfI A := (HA.out (.inl rfl))
      clear HA
      go_enter Tryd.func106, Tryd.ntmps106
      go_wp2_with (go_at_call 155; refine (WI _).out.mono ?_; rintro e w' ⟨rfl, rfl⟩)
      go_ret
      exact (next_fin_one HB.out HA2 (by simp)).q
    · by_cases c23 : T = 23
      · subst c23
        clear c33 c22
        have HA2 : WfI A := (HA.out (.inr rfl))
        clear HA
        clear hb hb2
        by_cases g1 : A < (k : Int) + 1
        · have hr : nextL 23 A k = [A, (k : Int) + 1] := by simp [nextL, g1]
          rw [hr]
          have t1 : decide (A < (k : Int) + 1) = true := by simpa using g1
          clear g1 hr
          go_enter Tryd.func106, Tryd.ntmps106
          go_wp2_with (go_at_call 155; refine (WI _).out.mono ?_; rintro e w' ⟨rfl, rfl⟩)
          go_ret
          exact (next_fin_two HB.out HA2 (wf_small k (by omega)) (by simp)).q
        · have t1 : decide (A < (k : Int) + 1) = false := by simpa using g1
          by_cases g2 : (k : Int) + 1 < A
          · have hr : nextL 23 A k = [(k : Int) + 1, A] := by simp [nextL, g1, g2]
            rw [hr]
            have t2 : decide ((k : Int) + 1 < A) = true := by simpa using g2
            clear g1 g2 hr
            go_enter Tryd.func106, Tryd.ntmps106
            go_wp2_with (go_at_call 155; refine (WI _).out.mono ?_; rintro e w' ⟨rfl, rfl⟩)
            go_ret
            exact (next_fin_two HB.out (wf_small k (by omega)) HA2 (by simp)).q
          · have hr : nextL 23 A k = [(k : Int) + 1] := by simp [nextL, g1, g2]
            rw [hr]
            have t2 : decide ((k : Int) + 1 < A) = false := by simpa using g2
            clear g1 g2 hr
            go_enter Tryd.func106, Tryd.ntmps106
            go_wp2_with (go_at_call 155; refine (WI _).out.mono ?_; rintro e w' ⟨rfl, rfl⟩)
            go_ret
            exact (next_fin_one HB.out (wf_small k (by omega)) (by simp)).q
      · have hr : nextL T A k = [(k : Int) + 1] := by simp [nextL, c33, c22, c23]
        rw [hr]
        have t1 : (T == 33) = false := by simpa using c33
        have t2 : (T == 22) = false := by simpa using c22
        have t3 : (T == 23) = false := by simpa using c23
        clear c33 c22 c23 hr hb hb2 HA
        go_enter Tryd.func106, Tryd.ntmps106
        go_wp2_with (go_at_call 155; refine (WI _).out.mono ?_; rintro e w' ⟨rfl, rfl⟩)
        go_ret
        exact (next_fin_one HB.out (wf_small k (by omega)) (by simp)).q

set_option maxHeartbeats 2000000 in
set_option maxRecDepth 100000 in
theorem rnext_gen (ps ls rt : ByteArray) (lb lo len cap k : Nat) (T A B N : Int) (w : World) (h : At4 w lb lo k T A B N) (hk : k < len) (hl : len ≤ 140) (hA : T = 22 ∨ T = 23 → (Lit.int .i64 A).wf = true) :
    Calls Tryd.prog 107 #[.agg #[.string ps, .string ls, .string rt, .slice (some ⟨lb, lo, none⟩) len cap], .int .i64 k] w (NextQ (nextL T A k) w) := by
  have hb : Below w.heap.size w (w.alloc (.cells #[.string ps, .string ls, .string rt, .slice (some ⟨lb, lo, none⟩) len cap] 46)) := (Below.refl _ _).alloc (Nat.le_refl _) _
  obtain ⟨k0, k1, k2, k3⟩ := h.below hb
  have hb2 : Below w.heap.size w ((w.alloc (.cells #[.string ps, .string ls, .string rt, .slice (some ⟨lb, lo, none⟩) len cap] 46)).alloc (.cells #[.int .i64 T, .int .i64 A, .int .i64 B, .int .i64 N] 52)) := hb.alloc (by simp) _
  have HB := Lib.hid hb2
  have HA := Lib.hid hA
  have u1 : decide ((k : Int) < 0) = false := by simp
  have u2 : decide ((len : Int) ≤ k) = false := by simp; omega
  clear h hA
  by_cases c33 : T = 33
  · subst c33
    have hr : nextL 33 A k = [] := rfl
    rw [hr]
    clear hb hb2 HA
    go_enter Tryd.func107, Tryd.ntmps107
    go_wp2_with fail
    go_ret
    exact (next_fin_nil HB.out).q
  · by_cases c22 : T = 22
    · subst c22
      have hr : nextL 22 A k = [A] := rfl
      rw [hr]
      clear c33 hb hb2
      have HA2 : WfI A := (HA.out (.inl rfl))
      clear HA
      go_enter Tryd.func107, Tryd.ntmps107
      go_wp2_with fail
      go_ret
      exact (next_fin_one HB.out HA2 (by simp)).q
    · by_cases c23 : T = 23
      · subst c23
        clear c33 c22
        have HA2 : WfI A := (HA.out (.inr rfl))
        clear HA
        have KS := Lib.hid fun g hg => sorted_two w ((w.alloc (.cells #[.string ps, .string ls, .string rt, .slice (some ⟨lb, lo, none⟩) len cap] 46)).alloc (.cells #[.int .i64 23, .int .i64 A, .int .i64 B, .int .i64 N] 52)) g k A hg (by omega) HA2 hb2
        clear hb hb2
        go_enter Tryd.func107, Tryd.ntmps107
        go_wp2_with fail
        refine (KS.out _ (by simp)).mono ?_
        rintro e w7 ⟨ad, n, c, rfl, hrow, hbl⟩
        have HR7 := Lib.hid hrow
        have HB7 := Lib.hid hbl
        clear hrow hbl KS
        go_wp2_with fail
        go_ret
        exact ⟨ad, n, c, rfl, HR7.out, HB7.out⟩
      · have hr : nextL T A k = [(k : Int) + 1] := by simp [nextL, c33, c22, c23]
        rw [hr]
        have t1 : (T == 33) = false := by simpa using c33
        have t2 : (T == 22) = false := by simpa using c22
        have t3 : (T == 23) = false := by simpa using c23
        clear c33 c22 c23 hr hb hb2 HA
        go_enter Tryd.func107, Tryd.ntmps107
        go_wp2_with fail
        go_ret
        exact (next_fin_one HB.out (wf_small k (by omega)) (by simp)).q

set_option maxRecDepth 100000 in
theorem next_off (ps ls rt : ByteArray) (ad : Option Addr) (len cap : Nat) (pc : Int) (w : World) (hk : ¬ (0 ≤ pc ∧ pc < len)) :
    Calls Tryd.prog 106 #[.agg #[.string ps, .string ls, .string rt, .slice ad len cap], .int .i64 pc] w (NextQ [] w) := by
  have hb : Below w.heap.size w (w.alloc (.cells #[.string ps, .string ls, .string rt, .slice ad len cap] 46)) := (Below.refl _ _).alloc (Nat.le_refl _) _
  have HB := Lib.hid hb
  have WI : ∀ w', Hid (Calls Tryd.prog 155 #[.int .i64 pc, .int .i64 len] w' fun e w'' => e = .returned (.bool false) ∧ w' = w'') := fun w' => Lib.hid (by
    have := within_any pc len w'
    have e : inside pc len = false := by simp only [inside]; simpa using hk
    rw [e] at this
    exact this)
  clear hb hk
  go_enter Tryd.func106, Tryd.ntmps106
  go_wp2_with (go_at_call 155; refine (WI _).out.mono ?_; rintro e w' ⟨rfl, rfl⟩)
  go_ret
  exact (next_fin_nil HB.out).q

set_option maxRecDepth 100000 in
theorem rnext_off (ps ls rt : ByteArray) (ad : Option Addr) (len cap : Nat) (pc : Int) (w : World) (hk : ¬ (0 ≤ pc ∧ pc < len)) :
    Calls Tryd.prog 107 #[.agg #[.string ps, .string ls, .string rt, .slice ad len cap], .int .i64 pc] w (NextQ [] w) := by
  have hb : Below w.heap.size w (w.alloc (.cells #[.string ps, .string ls, .string rt, .slice ad len cap] 46)) := (Below.refl _ _).alloc (Nat.le_refl _) _
  have HB := Lib.hid hb
  clear hb
  by_cases hn : pc < 0
  · have t1 : decide (pc < 0) = true := by simpa using hn
    clear hk hn
    go_enter Tryd.func107, Tryd.ntmps107
    go_wp2_with fail
    go_ret
    exact (next_fin_nil HB.out).q
  · have t1 : decide (pc < 0) = false := by simpa using hn
    have t2 : decide ((len : Int) ≤ pc) = true := by simp; omega
    clear hk hn
    go_enter Tryd.func107, Tryd.ntmps107
    go_wp2_with fail
    go_ret
    exact (next_fin_nil HB.out).q

/-- Where a method goes on from a place; whether it goes back. -/
def nextM (len : Nat) (gv : Nat → Nat → Int) (pc : Int) : List Int := if 0 ≤ pc ∧ pc < len then nextL (gv pc.toNat 0) (gv pc.toNat 1) pc.toNat else []

theorem At4_of {w : World} {co : Option Addr} {len cap : Nat} {gv : Nat → Nat → Int} (h : Picks w co len cap gv) {k : Nat} (hk : k < len) : ∃ lb lo, co = some ⟨lb, lo, none⟩ ∧ At4 w lb lo k (gv k 0) (gv k 1) (gv k 2) (gv k 3) := by
  obtain ⟨lb, lo, rfl, _, hc⟩ := Picks_at h (by omega)
  exact ⟨lb, lo, rfl, hc k 0 hk (by omega), hc k 1 hk (by omega), hc k 2 hk (by omega), hc k 3 hk (by omega)⟩

theorem next_all (ps ls rt : ByteArray) (co : Option Addr) (len cap : Nat) (gv : Nat → Nat → Int) (pc : Int) (w : World) (h : Picks w co len cap gv) (hl : len ≤ 140) (hA : ∀ i, i < len → gv i 0 = 22 ∨ gv i 0 = 23 → (Lit.int .i64 (gv i 1)).wf = true) :
    Calls Tryd.prog 106 #[.agg #[.string ps, .string ls, .string rt, .slice co len cap], .int .i64 pc] w (NextQ (nextM len gv pc) w) := by
  by_cases hk : 0 ≤ pc ∧ pc < len
  · obtain ⟨k, rfl⟩ : ∃ k : Nat, pc = k := ⟨pc.toNat, by omega⟩
    obtain ⟨lb, lo, rfl, h4⟩ := At4_of h (k := k) (by omega)
    rw [nextM, if_pos hk, Int.toNat_natCast]
    exact next_gen ps ls rt lb lo len cap k _ _ _ _ w h4 (by omega) hl (hA k (by omega))
  · rw [nextM, if_neg hk]
    exact next_off ps ls rt co len cap pc w hk

theorem rnext_all (ps ls rt : ByteArray) (co : Option Addr) (len cap : Nat) (gv : Nat → Nat → Int) (pc : Int) (w : World) (h : Picks w co len cap gv) (hl : len ≤ 140) (hA : ∀ i, i < len → gv i 0 = 22 ∨ gv i 0 = 23 → (Lit.int .i64 (gv i 1)).wf = true) :
    Calls Tryd.prog 107 #[.agg #[.string ps, .string ls, .string rt, .slice co len cap], .int .i64 pc] w (NextQ (nextM len gv pc) w) := by
  by_cases hk : 0 ≤ pc ∧ pc < len
  · obtain ⟨k, rfl⟩ : ∃ k : Nat, pc = k := ⟨pc.toNat, by omega⟩
    obtain ⟨lb, lo, rfl, h4⟩ := At4_of h (k := k) (by omega)
    rw [nextM, if_pos hk, Int.toNat_natCast]
    exact rnext_gen ps ls rt lb lo len cap k _ _ _ _ w h4 (by omega) hl (hA k (by omega))
  · rw [nextM, if_neg hk]
    exact rnext_off ps ls rt co len cap pc w hk

end Go.Proofs.YtchechdcebmoeaaDoor

/-
  Which instructions are the same, both ways. (Written by gensmm.py.)
-/
import Derived.Test.YtjffbojgdemooaaDoorSmC
namespace Go.Proofs.YtjffbojgdemooaaDoor
open Go.RowKit

def eqG (g h : Nat → Nat → Int) (i : Nat) : Prop := g i 0 = h i 0 ∧ g i 1 = h i 1 ∧ g i 2 = h i 2 ∧ g i 3 = h i 3
def eqI (n : Nat) (g : Nat → Nat → Int) (m : Nat) (h : Nat → Nat → Int) : Prop := n = m ∧ ∀ i, i < n → eqG g h i

theorem int_ne {a b : Int} (h : ¬ a = b) : (a == b) = false := by simpa using h

/-- The first that differs. -/
theorem four_ways {a0 a1 a2 a3 b0 b1 b2 b3 : Int} : (a0 = b0 ∧ a1 = b1 ∧ a2 = b2 ∧ a3 = b3) ∨ ¬ a0 = b0 ∨ (a0 = b0 ∧ ¬ a1 = b1) ∨ (a0 = b0 ∧ a1 = b1 ∧ ¬ a2 = b2) ∨ (a0 = b0 ∧ a1 = b1 ∧ a2 = b2 ∧ ¬ a3 = b3) := by
  by_cases h0 : a0 = b0
  · by_cases h1 : a1 = b1
    · by_cases h2 : a2 = b2
      · by_cases h3 : a3 = b3
        · exact .inl ⟨h0, h1, h2, h3⟩
        · exact .inr (.inr (.inr (.inr ⟨h0, h1, h2, h3⟩)))
      · exact .inr (.inr (.inr (.inl ⟨h0, h1, h2⟩)))
    · exact .inr (.inr (.inl ⟨h0, h1⟩))
  · exact .inr (.inl h0)

set_option maxHeartbeats 4000000 in
set_option maxRecDepth 100000 in
theorem equal_instrs (ca cb : Option Addr) (nc cc nd cd : Nat) (f g : Nat → Nat → Int) (w : World) (h1 : Picks w ca nc cc f) (h2 : Picks w cb nd cd g) (hn : nc ≤ 1000000) (hm : nd ≤ 1000000) :
    Calls Tryd.prog 156 #[.slice ca nc cc, .slice cb nd cd] w (SmQ (pB (eqI nc f nd g)) w) := by
  by_cases hl : nc = nd
  · subst hl
    have H1 := Lib.hid h1
    have H2 := Lib.hid h2
    have FT : Hid ((∀ i, i < nc → eqG f g i) → pB (eqI nc f nc g) = true) := Lib.hid fun h => pB_yes ⟨rfl, h⟩
    have FF : Hid (∀ i, i < nc → ¬ eqG f g i → pB (eqI nc f nc g) = false) := Lib.hid fun i hi h => pB_no fun h2 => h (h2.2 i hi)
    have R0 : Hid (SmRelQ (eqG f g) nc w (.int .i64 ((0 : Nat) : Int)) w) := Lib.hid ⟨0, Nat.zero_le _, rfl, fun i h => absurd h (Nat.not_lt_zero _), 0, rfl⟩
    clear h1 h2
    go_enter Tryd.func156, Tryd.ntmps156
    go_wp2_with fail
    go_loopw [13] (fun si wr => SmRelQ (eqG f g) nc w si wr) (fun si _ => nc - (intOf si).toNat)
    case atStart => exact R0.out
    case round =>
      clear R0
      obtain ⟨k, hk, rfl, hp, q, rfl⟩ := hrel
      by_cases hlt : k < nc
      · have tk : decide (k < nc) = true := by simpa using hlt
        obtain ⟨lb, lo, rfl, hlb, hcl⟩ := Picks_at H1.out (by omega)
        obtain ⟨mb, mo, rfl, hmb, hdl⟩ := Picks_at H2.out (by omega)
        have c0 := hcl k 0 hlt (by omega)
        have c1 := hcl k 1 hlt (by omega)
        have c2 := hcl k 2 hlt (by omega)
        have c3 := hcl k 3 hlt (by omega)
        have d0 := hdl k 0 hlt (by omega)
        have d1 := hdl k 1 hlt (by omega)
        have d2 := hdl k 2 hlt (by omega)
        have d3 := hdl k 3 hlt (by omega)
        rw [Nat.add_zero] at c0 d0
        rw [← Nat.add_assoc] at c1 c2 c3 d1 d2 d3
        have HP := Lib.hid hp
        have HG : Hid (f k 0 = g k 0 → f k 1 = g k 1 → f k 2 = g k 2 → f k 3 = g k 3 → ∀ i, i < k + 1 → eqG f g i) := Lib.hid fun a b c d => sm_next HP.out ⟨a, b, c, d⟩
        have HF : Hid (¬ (f k 0 = g k 0 ∧ f k 1 = g k 1 ∧ f k 2 = g k 2 ∧ f k 3 = g k 3) → pB (eqI nc f nc g) = false) := Lib.hid fun h => FF.out k hlt h
        have q1 : (0 : Int) ≤ (k : Int) := by omega
        have q2 : (k : Int) < (nc : Int) := by omega
        clear hcl hdl hp
        generalize f k 0 = a0 at *
        generalize f k 1 = a1 at *
        generalize f k 2 = a2 at *
        generalize f k 3 = a3 at *
        generalize g k 0 = b0 at *
        generalize g k 1 = b1 at *
        generalize g k 2 = b2 at *
        generalize g k 3 = b3 at *
        rcases four_ways (a0 := a0) (a1 := a1) (a2 := a2) (a3 := a3) (b0 := b0) (b1 := b1) (b2 := b2) (b3 := b3) with ⟨rfl, rfl, rfl, rfl⟩ | h | ⟨rfl, h⟩ | ⟨rfl, rfl, h⟩ | ⟨rfl, rfl, rfl, h⟩
        · have HN := Lib.hid (HG.out rfl rfl rfl rfl)
          go_wp2_with fail
          go_quiet (fail)
          go_wp2_with fail
          go_roundw
          case rel => exact ⟨k + 1, by omega, by go_num, HN.out, q + nq, rfl⟩
          case measure => simp [intOf]; omega
        all_goals
          have HX := Lib.hid (HF.out (fun e => h (by simp [e])))
          have hb := int_ne h
          go_wp2_with fail
          go_quiet (fail)
          go_wp2_with fail
          go_ret
          exact ⟨by rw [HX.out]; rfl, _, World.drewN_drewN _ _ _⟩
      · have tk : decide (k < nc) = false := by simpa using hlt
        have HF := Lib.hid (FT.out fun i hi => hp i (by omega))
        clear hp
        go_wp2_with fail
        go_ret
        exact ⟨by rw [HF.out]; rfl, _, rfl⟩
  · have HF := Lib.hid (pB_no (p := eqI nc f nd g) fun h => hl h.1)
    have hne : ((nc : Int) != (nd : Int)) = true := by simp; omega
    have hx1 := h1.max
    clear h1 h2 hl
    go_enter Tryd.func156, Tryd.ntmps156
    go_wp2_with fail
    go_ret
    exact ⟨by rw [HF.out]; rfl, 0, rfl⟩

def instW (a0 a1 a2 a3 b0 b1 b2 b3 : Int) (w : World) : World := (w.alloc (.cells #[.int .i64 a0, .int .i64 a1, .int .i64 a2, .int .i64 a3] 67)).alloc (.cells #[.int .i64 b0, .int .i64 b1, .int .i64 b2, .int .i64 b3] 67)

set_option maxHeartbeats 4000000 in
set_option maxRecDepth 100000 in
theorem rsameInstr (a0 a1 a2 a3 b0 b1 b2 b3 : Int) (w : World) : Calls Tryd.prog 203 #[.agg #[.int .i64 a0, .int .i64 a1, .int .i64 a2, .int .i64 a3], .agg #[.int .i64 b0, .int .i64 b1, .int .i64 b2, .int .i64 b3]] w (SmB (pB (a0 = b0 ∧ a1 = b1 ∧ a2 = b2 ∧ a3 = b3)) w) := by
  have hb : Below w.heap.size w (instW a0 a1 a2 a3 b0 b1 b2 b3 w) := ((Below.refl _ _).alloc (Nat.le_refl _) _).alloc (by simp) _
  have HB := Lib.hid hb
  unfold instW at HB
  clear hb
  rcases four_ways (a0 := a0) (a1 := a1) (a2 := a2) (a3 := a3) (b0 := b0) (b1 := b1) (b2 := b2) (b3 := b3) with ⟨rfl, rfl, rfl, rfl⟩ | h | ⟨rfl, h⟩ | ⟨rfl, rfl, h⟩ | ⟨rfl, rfl, rfl, h⟩
  · rw [pB_yes (p := a0 = a0 ∧ a1 = a1 ∧ a2 = a2 ∧ a3 = a3) ⟨rfl, rfl, rfl, rfl⟩]
    go_enter Tryd.func203, Tryd.ntmps203
    go_wp2_with fail
    go_ret
    exact ⟨by first | rfl | simp, HB.out⟩
  · rw [pB_no (p := a0 = b0 ∧ a1 = b1 ∧ a2 = b2 ∧ a3 = b3) (fun e => h e.1)]
    have hbb := int_ne h
    go_enter Tryd.func203, Tryd.ntmps203
    go_wp2_with fail
    go_ret
    exact ⟨by first | rfl | simp [h], HB.out⟩
  · rw [pB_no (p := a0 = a0 ∧ a1 = b1 ∧ a2 = b2 ∧ a3 = b3) (fun e => h e.2.1)]
    have hbb := int_ne h
    go_enter Tryd.func203, Tryd.ntmps203
    go_wp2_with fail
    go_ret
    exact ⟨by first | rfl | simp [h], HB.out⟩
  · rw [pB_no (p := a0 = a0 ∧ a1 = a1 ∧ a2 = b2 ∧ a3 = b3) (fun e => h e.2.2.1)]
    have hbb := int_ne h
    go_enter Tryd.func203, Tryd.ntmps203
    go_wp2_with fail
    go_ret
    exact ⟨by first | rfl | simp [h], HB.out⟩
  · rw [pB_no (p := a0 = a0 ∧ a1 = a1 ∧ a2 = a2 ∧ a3 = b3) (fun e => h e.2.2.2)]
    have hbb := int_ne h
    go_enter Tryd.func203, Tryd.ntmps203
    go_wp2_with fail
    go_ret
    exact ⟨by first | rfl | simp [h], HB.out⟩

set_option maxHeartbeats 4000000 in
set_option maxRecDepth 100000 in
theorem rsame_instrs (ca cb : Option Addr) (nc cc nd cd : Nat) (f g : Nat → Nat → Int) (w : World) (h1 : Picks w ca nc cc f) (h2 : Picks w cb nd cd g) (hn : nc ≤ 1000000) (hm : nd ≤ 1000000) :
    Calls Tryd.prog 191 #[.slice ca nc cc, .slice cb nd cd] w (SmB (pB (eqI nc f nd g)) w) := by
  by_cases hl : nc = nd
  · subst hl
    have H1 := Lib.hid h1
    have H2 := Lib.hid h2
    have FT : Hid ((∀ i, i < nc → eqG f g i) → pB (eqI nc f nc g) = true) := Lib.hid fun h => pB_yes ⟨rfl, h⟩
    have FF : Hid (∀ i, i < nc → ¬ eqG f g i → pB (eqI nc f nc g) = false) := Lib.hid fun i hi h => pB_no fun h2 => h (h2.2 i hi)
    have R0 : Hid (SmRelB (eqG f g) nc w (.int .i64 ((0 : Nat) : Int)) w) := Lib.hid ⟨0, Nat.zero_le _, rfl, fun i h => absurd h (Nat.not_lt_zero _), Below.refl _ _⟩
    clear h1 h2
    go_enter Tryd.func191, Tryd.ntmps191
    go_wp2_with fail
    go_loopw [5] (fun si wr => SmRelB (eqG f g) nc w si wr) (fun si _ => nc - (intOf si).toNat)
    case atStart => exact R0.out
    case round =>
      clear R0
      obtain ⟨k, hk, rfl, hp, hb⟩ := hrel
      have HB := Lib.hid hb
      by_cases hlt : k < nc
      · have tk : decide (k < nc) = true := by simpa using hlt
        obtain ⟨lb, lo, rfl, hlb, hcl⟩ := Picks_at H1.out (by omega)
        obtain ⟨mb, mo, rfl, hmb, hdl⟩ := Picks_at H2.out (by omega)
        have hx : ∀ j, j < 4 → wr.cell? ⟨lb, lo + (k * 4 + j), none⟩ = some (.int .i64 (f k j)) := fun j hj => (hb.cell (p := ⟨lb, lo + (k * 4 + j), none⟩) hlb).trans (hcl k j hlt hj)
        have hy : ∀ j, j < 4 → wr.cell? ⟨mb, mo + (k * 4 + j), none⟩ = some (.int .i64 (g k j)) := fun j hj => (hb.cell (p := ⟨mb, mo + (k * 4 + j), none⟩) hmb).trans (hdl k j hlt hj)
        have c0 := hx 0 (by omega)
        have c1 := hx 1 (by omega)
        have c2 := hx 2 (by omega)
        have c3 := hx 3 (by omega)
        have d0 := hy 0 (by omega)
        have d1 := hy 1 (by omega)
        have d2 := hy 2 (by omega)
        have d3 := hy 3 (by omega)
        rw [Nat.add_zero] at c0 d0
        rw [← Nat.add_assoc] at c1 c2 c3 d1 d2 d3
        have HP := Lib.hid hp
        have FK : Hid ((f k 0 = g k 0 ∧ f k 1 = g k 1 ∧ f k 2 = g k 2 ∧ f k 3 = g k 3) ∨ (¬ (f k 0 = g k 0 ∧ f k 1 = g k 1 ∧ f k 2 = g k 2 ∧ f k 3 = g k 3) ∧ pB (eqI nc f nc g) = false)) := Lib.hid (by
          by_cases h : eqG f g k
          · exact .inl h
          · exact .inr ⟨h, FF.out k hlt h⟩)
        have HN : Hid ((f k 0 = g k 0 ∧ f k 1 = g k 1 ∧ f k 2 = g k 2 ∧ f k 3 = g k 3) → ∀ i, i < k + 1 → eqG f g i) := Lib.hid fun h => sm_next (p := eqG f g) HP.out h
        have q1 : (0 : Int) ≤ (k : Int) := by omega
        have q2 : (k : Int) < (nc : Int) := by omega
        have HBD := Lib.hid (below_drew hb)
        have KS := Lib.hid (rsameInstr (f k 0) (f k 1) (f k 2) (f k 3) (g k 0) (g k 1) (g k 2) (g k 3))
        clear hcl hdl hp hb hx hy
        generalize f k 0 = a0 at *
        generalize f k 1 = a1 at *
        generalize f k 2 = a2 at *
        generalize f k 3 = a3 at *
        generalize g k 0 = b0 at *
        generalize g k 1 = b1 at *
        generalize g k 2 = b2 at *
        generalize g k 3 = b3 at *
        go_wp2_with fail
        go_still_tail 8, (by kernel_rfl)
        change wpList _ _ _ _ _ wr.drew
        clear c0 c1 c2 c3 d0 d1 d2 d3
        generalize wr.drew = w2 at *
        go_wp2_with fail
        refine (KS.out _).mono ?_
        rintro e w3 ⟨rfl, hb3⟩
        have HB3 : Hid (Below w.heap.size w w3) := Lib.hid (HBD.out.trans (hb3.mono HBD.out.size))
        clear hb3
        rcases FK.out with h | ⟨h, hf⟩
        · rw [pB_yes h]
          have HN2 := Lib.hid (HN.out h)
          clear h
          go_wp2_with fail
          go_roundw
          case rel => exact ⟨k + 1, by omega, by go_num, HN2.out, HB3.out⟩
          case measure => simp [intOf]; omega
        · rw [pB_no h]
          have HF := Lib.hid hf
          clear h hf
          go_wp2_with fail
          go_ret
          exact ⟨by rw [HF.out]; rfl, HB3.out⟩
      · have tk : decide (k < nc) = false := by simpa using hlt
        have HF := Lib.hid (FT.out fun i hi => hp i (by omega))
        clear hp hb
        go_wp2_with fail
        go_ret
        exact ⟨by rw [HF.out]; rfl, HB.out⟩
  · have HF := Lib.hid (pB_no (p := eqI nc f nd g) fun h => hl h.1)
    have hne : ((nc : Int) != (nd : Int)) = true := by simp; omega
    clear h1 h2 hl
    go_enter Tryd.func191, Tryd.ntmps191
    go_wp2_with fail
    go_ret
    exact ⟨by rw [HF.out]; rfl, Below.refl _ _⟩

end Go.Proofs.YtjffbojgdemooaaDoor

/-
  Which classes are the same, both ways.
-/
import Derived.Test.YtjffbojgdemooaaDoorVrd
import Derived.Deep.QuietTactic
import Derived.BigQuiet
import Derived.StillTailTactics
import Derived.Outline
namespace Go.Proofs.YtjffbojgdemooaaDoor
open Go.RowKit

/-- Whether something holds. -/
noncomputable def pB (p : Prop) : Bool := @decide p (Classical.propDecidable p)
theorem pB_yes {p : Prop} (h : p) : pB p = true := by unfold pB; exact @decide_eq_true _ (Classical.propDecidable _) h
theorem pB_no {p : Prop} (h : ¬ p) : pB p = false := by unfold pB; exact @decide_eq_false _ (Classical.propDecidable _) h
theorem pB_and {p q : Prop} : (pB p && pB q) = pB (p ∧ q) := by
  by_cases hp : p
  · by_cases hq : q
    · have h : pB (p ∧ q) = true := pB_yes ⟨hp, hq⟩
      rw [h, pB_yes hp, pB_yes hq]; rfl
    · have h : pB (p ∧ q) = false := pB_no fun h => hq h.2
      rw [h, pB_yes hp, pB_no hq]; rfl
  · have h : pB (p ∧ q) = false := pB_no fun h => hp h.1
    rw [h, pB_no hp]; rfl

theorem str_eq' {s t : ByteArray} : s.toList = t.toList ↔ s = t := by
  rw [ByteArray.toList_eq, ByteArray.toList_eq]
  exact ⟨fun e => ByteArray.ext (Array.ext' e), fun e => by rw [e]⟩
theorem str_ne' {s t : ByteArray} (h : ¬ s = t) : (s.toList == t.toList) = false := by
  simpa using fun e => h (str_eq'.1 e)

def eqC (nc : Nat) (f : Nat → ByteArray) (nd : Nat) (g : Nat → ByteArray) : Prop := nc = nd ∧ ∀ i, i < nc → f i = g i

def SmQ (b : Bool) (w : World) (e : Ending) (w' : World) : Prop := e = .returned (.bool b) ∧ ∃ q, w' = w.drewN q
def SmB (b : Bool) (w : World) (e : Ending) (w' : World) : Prop := e = .returned (.bool b) ∧ Below w.heap.size w w'

def SmRelQ (p : Nat → Prop) (n : Nat) (w : World) (si : Value) (wr : World) : Prop := ∃ k : Nat, k ≤ n ∧ si = .int .i64 k ∧ (∀ i, i < k → p i) ∧ ∃ q, wr = w.drewN q
def SmRelB (p : Nat → Prop) (n : Nat) (w : World) (si : Value) (wr : World) : Prop := ∃ k : Nat, k ≤ n ∧ si = .int .i64 k ∧ (∀ i, i < k → p i) ∧ Below w.heap.size w wr

theorem sm_next {p : Nat → Prop} {k : Nat} (h : ∀ i, i < k → p i) (hk : p k) : ∀ i, i < k + 1 → p i := fun i hi => by
  by_cases e : i = k
  · subst e; exact hk
  · exact h i (by omega)

set_option maxHeartbeats 1000000 in
set_option maxRecDepth 100000 in
theorem equal_classes (ca cb : Option Addr) (nc cc nd cd : Nat) (f g : Nat → ByteArray) (w : World) (h1 : Cls w ca nc cc f) (h2 : Cls w cb nd cd g) (hn : nc ≤ 1000000) (hm : nd ≤ 1000000) :
    Calls Tryd.prog 104 #[.slice ca nc cc, .slice cb nd cd] w (SmQ (pB (eqC nc f nd g)) w) := by
  by_cases hl : nc = nd
  · subst hl
    have H1 := Lib.hid h1
    have H2 := Lib.hid h2
    have FT : Hid ((∀ i, i < nc → f i = g i) → pB (eqC nc f nc g) = true) := Lib.hid fun h => pB_yes ⟨rfl, h⟩
    have FF : Hid (∀ i, i < nc → ¬ f i = g i → pB (eqC nc f nc g) = false) := Lib.hid fun i hi h => pB_no fun h2 => h (h2.2 i hi)
    have R0 : Hid (SmRelQ (fun i => f i = g i) nc w (.int .i64 ((0 : Nat) : Int)) w) := Lib.hid ⟨0, Nat.zero_le _, rfl, fun i h => absurd h (Nat.not_lt_zero _), 0, rfl⟩
    clear h1 h2
    go_enter Tryd.func104, Tryd.ntmps104
    go_wp2_with fail
    go_loopw [13] (fun si wr => SmRelQ (fun i => f i = g i) nc w si wr) (fun si _ => nc - (intOf si).toNat)
    case atStart => exact R0.out
    case round =>
      clear R0
      obtain ⟨k, hk, rfl, hp, q, rfl⟩ := hrel
      by_cases hlt : k < nc
      · have tk : decide (k < nc) = true := by simpa using hlt
        obtain ⟨lb, lo, rfl, hlb, hcl⟩ := Cls_at H1.out (by omega)
        obtain ⟨mb, mo, rfl, hmb, hdl⟩ := Cls_at H2.out (by omega)
        have c0 := hcl k hlt
        have d0 := hdl k hlt
        have HP := Lib.hid hp
        have q1 : (0 : Int) ≤ (k : Int) := by omega
        have q2 : (k : Int) < (nc : Int) := by omega
        clear hcl hdl hp
        by_cases he : f k = g k
        · have HN := Lib.hid (sm_next HP.out he)
          rw [he] at c0
          generalize g k = s at *
          clear he
          go_wp2_with fail
          go_quiet (fail)
          go_wp2_with fail
          go_roundw
          case rel => exact ⟨k + 1, by omega, by go_num, HN.out, q + nq, rfl⟩
          case measure => simp [intOf]; omega
        · have HF := Lib.hid (FF.out k hlt he)
          have hs := str_ne' he
          have hs2 : ¬ (f k).toList = (g k).toList := fun e => he (str_eq'.1 e)
          generalize g k = s at *
          generalize f k = t at *
          clear he
          go_wp2_with fail
          go_quiet (fail)
          go_wp2_with fail
          go_ret
          exact ⟨by rw [HF.out]; rfl, _, World.drewN_drewN _ _ _⟩
      · have tk : decide (k < nc) = false := by simpa using hlt
        have HF := Lib.hid (FT.out fun i hi => hp i (by omega))
        clear hp
        go_wp2_with fail
        go_ret
        exact ⟨by rw [HF.out]; rfl, _, rfl⟩
  · have HF := Lib.hid (pB_no (p := eqC nc f nd g) fun h => hl h.1)
    have hne : ((nc : Int) != (nd : Int)) = true := by simp; omega
    clear h1 h2 hl
    go_enter Tryd.func104, Tryd.ntmps104
    go_wp2_with fail
    go_ret
    exact ⟨by rw [HF.out]; rfl, 0, rfl⟩

theorem rsameClass (s t : ByteArray) (w : World) : Calls Tryd.prog 157 #[.agg #[.string s], .agg #[.string t]] w (SmB (pB (s = t)) w) := by
  have hb : Below w.heap.size w ((w.alloc (.cells #[.string s] 90)).alloc (.cells #[.string t] 90)) := ((Below.refl _ _).alloc (Nat.le_refl _) _).alloc (by simp) _
  have HB := Lib.hid hb
  clear hb
  by_cases he : s = t
  · subst he
    have HF := Lib.hid (pB_yes (p := s = s) rfl)
    go_enter Tryd.func157, Tryd.ntmps157
    go_wp2_with fail
    go_ret
    exact ⟨by rw [HF.out]; first | rfl | simp, HB.out⟩
  · have HF := Lib.hid (pB_no he)
    have hs := str_ne' he
    have hs2 : ¬ s.toList = t.toList := fun e => he (str_eq'.1 e)
    clear he
    go_enter Tryd.func157, Tryd.ntmps157
    go_wp2_with fail
    go_ret
    exact ⟨by rw [HF.out]; first | rfl | simp [hs2], HB.out⟩

set_option maxHeartbeats 1000000 in
set_option maxRecDepth 100000 in
theorem rsame_classes (ca cb : Option Addr) (nc cc nd cd : Nat) (f g : Nat → ByteArray) (w : World) (h1 : Cls w ca nc cc f) (h2 : Cls w cb nd cd g) (hn : nc ≤ 1000000) (hm : nd ≤ 1000000) :
    Calls Tryd.prog 107 #[.slice ca nc cc, .slice cb nd cd] w (SmB (pB (eqC nc f nd g)) w) := by
  by_cases hl : nc = nd
  · subst hl
    have H1 := Lib.hid h1
    have H2 := Lib.hid h2
    have FT : Hid ((∀ i, i < nc → f i = g i) → pB (eqC nc f nc g) = true) := Lib.hid fun h => pB_yes ⟨rfl, h⟩
    have FF : Hid (∀ i, i < nc → ¬ f i = g i → pB (eqC nc f nc g) = false) := Lib.hid fun i hi h => pB_no fun h2 => h (h2.2 i hi)
    have R0 : Hid (SmRelB (fun i => f i = g i) nc w (.int .i64 ((0 : Nat) : Int)) w) := Lib.hid ⟨0, Nat.zero_le _, rfl, fun i h => absurd h (Nat.not_lt_zero _), Below.refl _ _⟩
    clear h1 h2
    go_enter Tryd.func107, Tryd.ntmps107
    go_wp2_with fail
    go_loopw [5] (fun si wr => SmRelB (fun i => f i = g i) nc w si wr) (fun si _ => nc - (intOf si).toNat)
    case atStart => exact R0.out
    case round =>
      clear R0
      obtain ⟨k, hk, rfl, hp, hb⟩ := hrel
      have HB := Lib.hid hb
      by_cases hlt : k < nc
      · have tk : decide (k < nc) = true := by simpa using hlt
        obtain ⟨lb, lo, rfl, hlb, hcl⟩ := Cls_at H1.out (by omega)
        obtain ⟨mb, mo, rfl, hmb, hdl⟩ := Cls_at H2.out (by omega)
        have c0 := (hb.cell (p := ⟨lb, lo + k, none⟩) hlb).trans (hcl k hlt)
        have d0 := (hb.cell (p := ⟨mb, mo + k, none⟩) hmb).trans (hdl k hlt)
        have HP := Lib.hid hp
        have q1 : (0 : Int) ≤ (k : Int) := by omega
        have q2 : (k : Int) < (nc : Int) := by omega
        have HBD := Lib.hid (below_drew hb)
        have KS := Lib.hid (rsameClass (f k) (g k))
        have FK : Hid (f k = g k ∨ (¬ f k = g k ∧ pB (eqC nc f nc g) = false)) := Lib.hid (by
          by_cases h : f k = g k
          · exact .inl h
          · exact .inr ⟨h, FF.out k hlt h⟩)
        have HN : Hid (f k = g k → ∀ i, i < k + 1 → f i = g i) := Lib.hid fun h => sm_next (p := fun i => f i = g i) HP.out h
        clear hcl hdl hp hb HP
        generalize hs : f k = s at *
        generalize ht : g k = t at *
        clear hs ht
        go_wp2_with fail
        go_still_tail 8, (by kernel_rfl)
        change wpList _ _ _ _ _ wr.drew
        clear c0 d0
        generalize wr.drew = w2 at *
        go_wp2_with fail
        refine (KS.out _).mono ?_
        rintro e w3 ⟨rfl, hb3⟩
        have HB3 : Hid (Below w.heap.size w w3) := Lib.hid (HBD.out.trans (hb3.mono HBD.out.size))
        clear hb3
        rcases FK.out with h | ⟨h, hf⟩
        · rw [pB_yes h]
          have HN2 := Lib.hid (HN.out h)
          clear h
          go_wp2_with fail
          go_roundw
          case rel => exact ⟨k + 1, by omega, by go_num, HN2.out, HB3.out⟩
          case measure => simp [intOf]; omega
        · rw [pB_no h]
          have HF := Lib.hid hf
          clear h hf
          go_wp2_with fail
          go_ret
          exact ⟨by rw [HF.out]; rfl, HB3.out⟩
      · have tk : decide (k < nc) = false := by simpa using hlt
        have HF := Lib.hid (FT.out fun i hi => hp i (by omega))
        clear hp hb
        go_wp2_with fail
        go_ret
        exact ⟨by rw [HF.out]; rfl, HB.out⟩
  · have HF := Lib.hid (pB_no (p := eqC nc f nd g) fun h => hl h.1)
    have hne : ((nc : Int) != (nd : Int)) = true := by simp; omega
    clear h1 h2 hl
    go_enter Tryd.func107, Tryd.ntmps107
    go_wp2_with fail
    go_ret
    exact ⟨by rw [HF.out]; rfl, Below.refl _ _⟩

end Go.Proofs.YtjffbojgdemooaaDoor

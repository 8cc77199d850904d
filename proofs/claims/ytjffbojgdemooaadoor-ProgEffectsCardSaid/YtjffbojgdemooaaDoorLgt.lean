/-
  Whether a program is small.
-/
import Derived.Test.YtjffbojgdemooaaDoorSmC
import Derived.Test.YtjffbojgdemooaaDoorRfC
namespace Go.Proofs.YtjffbojgdemooaaDoor
open Go.RowKit

/-- Texts are no longer than texts can be. -/
structure Wid (nc : Nat) (f : Nat → ByteArray) (nm : Nat) (ms : Nat → Meth) : Prop where
  fs : ∀ i, i < nc → (f i).size ≤ maxLen
  ps : ∀ i, i < nm → (ms i).ps.size ≤ maxLen
  ls : ∀ i, i < nm → (ms i).ls.size ≤ maxLen
  rt : ∀ i, i < nm → (ms i).rt.size ≤ maxLen

def lgtM (x : Meth) : Prop := x.ps.size ≤ 30 ∧ x.ls.size ≤ 30 ∧ x.rt.size ≤ 30 ∧ x.len ≤ 140
def lightP (nc : Nat) (f : Nat → ByteArray) (nm : Nat) (ms : Nat → Meth) : Prop := nc ≤ 20 ∧ nm ≤ 20 ∧ (∀ i, i < nc → (f i).size ≤ 30) ∧ ∀ i, i < nm → lgtM (ms i)

theorem light_sml {nc : Nat} {f : Nat → ByteArray} {nm : Nat} {ms : Nat → Meth} (h : lightP nc f nm ms) : Sml nc f nm ms :=
  ⟨fun i hi => by have := h.2.2.1 i hi; unfold maxLen; omega, fun i hi => by have := (h.2.2.2 i hi).1; omega, fun i hi => by have := (h.2.2.2 i hi).2.1; omega, fun i hi => by have := (h.2.2.2 i hi).2.2.1; omega, fun i hi => by have := (h.2.2.2 i hi).2.2.2; omega⟩

def progW1 (ca : Option Addr) (nc cc : Nat) (ma : Option Addr) (nm mc : Nat) (w : World) : World := w.alloc (.cells #[.slice ca nc cc, .slice ma nm mc] 46)
theorem progW1_below {ca : Option Addr} {nc cc : Nat} {ma : Option Addr} {nm mc : Nat} {w : World} : Below w.heap.size w (progW1 ca nc cc ma nm mc w) := (Below.refl _ _).alloc (Nat.le_refl _) _
theorem progW1_cells {ca : Option Addr} {nc cc : Nat} {ma : Option Addr} {nm mc : Nat} {w w' : World} (hb : Below (progW1 ca nc cc ma nm mc w).heap.size (progW1 ca nc cc ma nm mc w) w') : w'.cell? ⟨w.heap.size, 0, none⟩ = some (.slice ca nc cc) ∧ w'.cell? ⟨w.heap.size, 1, none⟩ = some (.slice ma nm mc) := by
  have h2 := (hb.block w.heap.size (by simp [progW1])).trans (heap_alloc_new w (.cells #[.slice ca nc cc, .slice ma nm mc] 46))
  exact ⟨(cell_of_row _ _ 0 _ 46 (0, 0) h2).trans rfl, (cell_of_row _ _ 1 _ 46 (0, 0) h2).trans rfl⟩

def LgtRel (p : Nat → Prop) (n : Nat) (W0 : World) (si : Value) (wr : World) : Prop := ∃ k : Nat, k ≤ n ∧ si = .int .i64 k ∧ (∀ i, i < k → p i) ∧ Below W0.heap.size W0 wr

set_option maxHeartbeats 8000000 in
set_option maxRecDepth 100000 in
theorem light_any (ca : Option Addr) (nc cc : Nat) (f : Nat → ByteArray) (ma : Option Addr) (nm mc : Nat) (ms : Nat → Meth) (w : World) (hP : Prg w ca nc cc f ma nm mc ms) (hW : Wid nc f nm ms) :
    Calls Tryd.prog 34 #[.agg #[.slice ca nc cc, .slice ma nm mc]] w (SmB (pB (lightP nc f nm ms)) w) := by
  have HP := Lib.hid hP
  have HW := Lib.hid hW
  have BW := Lib.hid (progW1_below (ca := ca) (nc := nc) (cc := cc) (ma := ma) (nm := nm) (mc := mc) (w := w))
  have CM : Hid (∀ w', Below (progW1 ca nc cc ma nm mc w).heap.size (progW1 ca nc cc ma nm mc w) w' → (w'.cell? ⟨w.heap.size, 0, none⟩ = some (.slice ca nc cc) ∧ w'.cell? ⟨w.heap.size, 1, none⟩ = some (.slice ma nm mc))) := Lib.hid fun w' h => progW1_cells h
  have hx1 : nc ≤ 9223372036854775807 := by have h1 := hP.cls.le; have h2 := hP.cls.max; unfold maxLen at h2; omega
  have hx2 : nm ≤ 9223372036854775807 := by have h1 := hP.le; have h2 := hP.max; unfold maxLen at h2; omega
  clear hP hW
  by_cases h1 : nc ≤ 20
  · by_cases h2 : nm ≤ 20
    · have t1 : decide (20 < nc) = false := by simp; omega
      have t1' : decide (20 < (nc : Int)) = false := by simp; omega
      have t2 : decide (20 < nm) = false := by simp; omega
      have t2' : decide (20 < (nm : Int)) = false := by simp; omega
      have FC : Hid (∀ i, i < nc → ¬ (f i).size ≤ 30 → pB (lightP nc f nm ms) = false) := Lib.hid fun i hi h => pB_no fun e => h (e.2.2.1 i hi)
      have FM : Hid (∀ i, i < nm → ¬ lgtM (ms i) → pB (lightP nc f nm ms) = false) := Lib.hid fun i hi h => pB_no fun e => h (e.2.2.2 i hi)
      have FT : Hid ((∀ i, i < nc → (f i).size ≤ 30) → (∀ i, i < nm → lgtM (ms i)) → pB (lightP nc f nm ms) = true) := Lib.hid fun a b => pB_yes ⟨h1, h2, a, b⟩
      have R0 : Hid (LgtRel (fun i => (f i).size ≤ 30) nc (progW1 ca nc cc ma nm mc w) (.int .i64 ((0 : Nat) : Int)) (progW1 ca nc cc ma nm mc w)) := Lib.hid ⟨0, Nat.zero_le _, rfl, fun i h => absurd h (Nat.not_lt_zero _), Below.refl _ _⟩
      obtain ⟨W0, hW0⟩ : ∃ W0, progW1 ca nc cc ma nm mc w = W0 := ⟨_, rfl⟩
      rw [hW0] at R0 CM BW
      unfold progW1 at hW0
      clear hx1 hx2
      go_enter Tryd.func34, Tryd.ntmps34
      obtain ⟨p0, p1⟩ := CM.out W0 (Below.refl _ _)
      go_wp2_with fail
      clear p0 p1 t1 t1' t2 t2'
      go_loopw [3] (fun si wr => LgtRel (fun i => (f i).size ≤ 30) nc W0 si wr) (fun si _ => nc - (intOf si).toNat)
      case atStart => first | exact R0.out | (rw [hW0]; exact R0.out)
      case round =>
        clear R0
        obtain ⟨k, hk, rfl, hp, hb⟩ := hrel
        have HB := Lib.hid hb
        obtain ⟨p0, p1⟩ := CM.out wr hb
        by_cases hlt : k < nc
        · have tk : decide (k < nc) = true := by simpa using hlt
          obtain ⟨lb, lo, rfl, hlb, hcl⟩ := Cls_at HP.out.cls (by omega)
          have hbw := BW.out.trans (hb.mono BW.out.size)
          have c0 := (hbw.cell (p := ⟨lb, lo + k, none⟩) hlb).trans (hcl k hlt)
          have hfs := HW.out.fs k hlt
          unfold maxLen at hfs
          have HPP := Lib.hid hp
          by_cases h30 : (f k).size ≤ 30
          · have HN := Lib.hid (sm_next (p := fun i => (f i).size ≤ 30) hp h30)
            have t3 : decide (30 < (f k).size) = false := by simp; omega
            have t3' : decide (30 < ((f k).size : Int)) = false := by simp; omega
            clear hcl hbw hp hb h30
            generalize f k = s at *
            go_wp2_with fail
            go_roundw
            case rel => exact ⟨k + 1, by omega, by go_num, HN.out, HB.out⟩
            case measure => simp [intOf]; omega
          · have HF := Lib.hid (FC.out k hlt h30)
            have HBX : Hid (Below w.heap.size w wr) := Lib.hid hbw
            have t3 : decide (30 < (f k).size) = true := by simp; omega
            have t3' : decide (30 < ((f k).size : Int)) = true := by simp; omega
            clear hcl hbw hp hb h30
            generalize f k = s at *
            go_wp2_with fail
            go_ret
            exact ⟨by rw [HF.out]; rfl, HBX.out⟩
        · have tk : decide (k < nc) = false := by simpa using hlt
          have HAC : Hid (∀ i, i < nc → (f i).size ≤ 30) := Lib.hid fun i hi => hp i (by omega)
          have R1 : Hid (LgtRel (fun i => lgtM (ms i)) nm W0 (.int .i64 ((0 : Nat) : Int)) wr) := Lib.hid ⟨0, Nat.zero_le _, rfl, fun i h => absurd h (Nat.not_lt_zero _), hb⟩
          clear hp hb
          go_wp2_with fail
          clear p0 p1
          go_loopw [4] (fun si wr => LgtRel (fun i => lgtM (ms i)) nm W0 si wr) (fun si _ => nm - (intOf si).toNat)
          case atStart => exact R1.out
          case round =>
            clear R1
            obtain ⟨m, hm, rfl, hp, hb⟩ := hrel
            have HBm := Lib.hid hb
            obtain ⟨p0, p1⟩ := CM.out _ hb
            rename_i wm
            by_cases hml : m < nm
            · have tm : decide (m < nm) = true := by simpa using hml
              obtain ⟨mb, mo, rfl, hmb, hmc⟩ := Prg_at HP.out (by omega)
              have hbw := BW.out.trans (hb.mono BW.out.size)
              obtain ⟨y0, y1, y2, y3⟩ := hmc m hml
              have x0 := (hbw.cell (p := ⟨mb, mo + m * 4, none⟩) hmb).trans y0
              have x1 := (hbw.cell (p := ⟨mb, mo + m * 4 + 1, none⟩) hmb).trans y1
              have x2 := (hbw.cell (p := ⟨mb, mo + m * 4 + 2, none⟩) hmb).trans y2
              have x3 := (hbw.cell (p := ⟨mb, mo + m * 4 + 3, none⟩) hmb).trans y3
              have q1 := HW.out.ps m hml
              have q2 := HW.out.ls m hml
              have q3 := HW.out.rt m hml
              have q4 : (ms m).len ≤ 9223372036854775807 := by have a := (HP.out.code m hml).le; have b := (HP.out.code m hml).max; unfold maxLen at b; omega
              unfold maxLen at q1 q2 q3
              have HN : Hid (lgtM (ms m) → ∀ i, i < m + 1 → lgtM (ms i)) := Lib.hid fun h => sm_next (p := fun i => lgtM (ms i)) hp h
              have HF : Hid (¬ lgtM (ms m) → pB (lightP nc f nm ms) = false) := Lib.hid fun h => FM.out m hml h
              have HLM := Lib.hid (show lgtM (ms m) ↔ ((ms m).ps.size ≤ 30 ∧ (ms m).ls.size ≤ 30 ∧ (ms m).rt.size ≤ 30 ∧ (ms m).len ≤ 140) from Iff.rfl)
              have HBA := Lib.hid (hb.alloc hb.size (.cells #[.string (ms m).ps, .string (ms m).ls, .string (ms m).rt, .slice (ms m).co (ms m).len (ms m).cp] 62))
              have HBX := Lib.hid (hbw.alloc hbw.size (.cells #[.string (ms m).ps, .string (ms m).ls, .string (ms m).rt, .slice (ms m).co (ms m).len (ms m).cp] 62))
              clear hmc hbw y0 y1 y2 y3 hp hb
              generalize lgtM (ms m) = P at *
              generalize (ms m).ps = ps at *
              generalize (ms m).ls = ls at *
              generalize (ms m).rt = rt at *
              generalize (ms m).co = co at *
              generalize (ms m).len = len at *
              generalize (ms m).cp = cp at *
              by_cases h : ps.size ≤ 30 ∧ ls.size ≤ 30 ∧ rt.size ≤ 30 ∧ len ≤ 140
              · have HN2 := Lib.hid (HN.out (HLM.out.2 h))
                have u1 : decide (30 < ps.size) = false := by simp; omega
                have u1' : decide (30 < (ps.size : Int)) = false := by simp; omega
                have u2 : decide (30 < ls.size) = false := by simp; omega
                have u2' : decide (30 < (ls.size : Int)) = false := by simp; omega
                have u3 : decide (30 < rt.size) = false := by simp; omega
                have u3' : decide (30 < (rt.size : Int)) = false := by simp; omega
                have u4 : decide (140 < len) = false := by simp; omega
                have u4' : decide (140 < (len : Int)) = false := by simp; omega
                clear h
                go_wp2_with fail
                go_roundw
                case rel => exact ⟨m + 1, by omega, by go_num, HN2.out, HBA.out⟩
                case measure => simp [intOf]; omega
              · have HF2 := Lib.hid (HF.out fun e => h (HLM.out.1 e))
                have HH := Lib.hid h
                clear h
                go_wp2_with fail
                all_goals first
                  | (exfalso; have := HH.out; simp at *; omega)
                  | (go_ret; exact ⟨by rw [HF2.out]; rfl, HBX.out⟩)
                  | (exfalso; have := HH.out; omega)
            · have tm : decide (m < nm) = false := by simpa using hml
              have HFT := Lib.hid (FT.out HAC.out fun i hi => hp i (by omega))
              have HBX := Lib.hid (BW.out.trans (hb.mono BW.out.size))
              clear hp hb
              go_wp2_with fail
              go_ret
              exact ⟨by rw [HFT.out]; rfl, HBX.out⟩
    · have HF := Lib.hid (pB_no (p := lightP nc f nm ms) fun e => h2 e.2.1)
      have t1 : decide (20 < nc) = false := by simp; omega
      have t1' : decide (20 < (nc : Int)) = false := by simp; omega
      have t2 : decide (20 < nm) = true := by simp; omega
      have t2' : decide (20 < (nm : Int)) = true := by simp; omega
      unfold progW1 at BW CM
      clear h1 h2
      go_enter Tryd.func34, Tryd.ntmps34
      go_wp2_with fail
      go_ret
      exact ⟨by rw [HF.out]; rfl, BW.out⟩
  · have HF := Lib.hid (pB_no (p := lightP nc f nm ms) fun e => h1 e.1)
    have t1 : decide (20 < nc) = true := by simp; omega
    have t1' : decide (20 < (nc : Int)) = true := by simp; omega
    unfold progW1 at BW CM
    clear h1
    go_enter Tryd.func34, Tryd.ntmps34
    go_wp2_with fail
    go_ret
    exact ⟨by rw [HF.out]; rfl, BW.out⟩

end Go.Proofs.YtjffbojgdemooaaDoor

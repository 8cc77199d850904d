/-
  ProgMay: the law's walk.
-/
import Derived.Test.YtjffbojgdemooaaDoorPMy0
import Derived.Test.YtjffbojgdemooaaDoorPFirst
import Derived.Deep.RegionHeld3
namespace Go.Proofs.YtjffbojgdemooaaDoor
open Go.RowKit

/-- Two programs in their boxes. -/
def Two (ca : Option Addr) (nc cc : Nat) (ma : Option Addr) (nm mc : Nat) (cb : Option Addr) (nd cd : Nat) (mb : Option Addr) (nn nc' : Nat) (b : Nat) (w' : World) : Prop :=
  (w'.cell? ⟨b, 0, none⟩ = some (.slice ca nc cc) ∧ w'.cell? ⟨b, 1, none⟩ = some (.slice ma nm mc)) ∧ w'.cell? ⟨b + 1, 0, none⟩ = some (.slice cb nd cd) ∧ w'.cell? ⟨b + 1, 1, none⟩ = some (.slice mb nn nc')

def BelB (W0 w' : World) : Prop := Below W0.heap.size W0 w'
def MayQ (a : Nat → Addr) (v : Option (Nat × Int × Int)) (W0 w : World) (e : Ending) (w' : World) : Prop := BelB W0 w' ∧ BelB w w' ∧ WherePost a v w e w'
def FBox (g : Nat) (m pc : Int) (w' : World) : Prop := w'.cell? ⟨g, 0, none⟩ = some (.int .i64 m) ∧ w'.cell? ⟨g, 1, none⟩ = some (.int .i64 pc)
theorem FBox.below {g : Nat} {m pc : Int} {w w' : World} (h : FBox g m pc w) (hb : BelB w w') : FBox g m pc w' :=
  ⟨(Below.cell hb (World.block_lt_of_cell? _ _ h.1)).trans h.1, (Below.cell hb (World.block_lt_of_cell? _ _ h.2)).trans h.2⟩
theorem WBox.belowB {a : Nat → Addr} {b m : Nat} {x y : Int} {w w' : World} (h : WBox a b m x y w) (hb : BelB w w') : WBox a b m x y w' := h.below hb
def BoolQ (W0 : World) (b : Bool) (e : Ending) (w' : World) : Prop := e = .returned (.bool b) ∧ BelB W0 w'

set_option maxHeartbeats 16000000 in
set_option maxRecDepth 100000 in
theorem may_walk (a : Nat → Addr) (ca : Option Addr) (nc cc : Nat) (f : Nat → ByteArray) (ma : Option Addr) (nm mc : Nat) (ms : Nat → Meth) (cb : Option Addr) (nd cd : Nat) (g : Nat → ByteArray) (mb : Option Addr) (nn nc' : Nat) (ns : Nat → Meth) (w : World) (hA : Sents a w)
    (h1 : Prg w ca nc cc f ma nm mc ms) (h2 : Prg w cb nd cd g mb nn nc' ns) (w1 : Wid nc f nm ms) (w2 : Wid nd g nn ns) :
    Calls Tryd.prog 4 #[.agg #[.slice ca nc cc, .slice ma nm mc], .agg #[.slice cb nd cd, .slice mb nn nc']] w (TruePost w) := by
  have hb := prog2_below (ca := ca) (nc := nc) (cc := cc) (ma := ma) (nm := nm) (mc := mc) (cb := cb) (nd := nd) (cd := cd) (mb := mb) (nn := nn) (nc' := nc') (w := w)
  have CM : Hid (∀ w', BelB (prog2 ca nc cc ma nm mc cb nd cd mb nn nc' w) w' → Two ca nc cc ma nm mc cb nd cd mb nn nc' w.heap.size w') := Lib.hid fun w' h => prog2_cells h
  have BW : Hid (∀ w', BelB (prog2 ca nc cc ma nm mc cb nd cd mb nn nc' w) w' → Below w.heap.size w w') := Lib.hid fun w' h => hb.trans (Below.mono h hb.size)
  have KL1 : Hid (∀ w', BelB (prog2 ca nc cc ma nm mc cb nd cd mb nn nc' w) w' → Calls Tryd.prog 34 #[.agg #[.slice ca nc cc, .slice ma nm mc]] w' (BoolQ (prog2 ca nc cc ma nm mc cb nd cd mb nn nc' w) (pB (lightP nc f nm ms)))) := Lib.hid fun w' h =>
    (light_any ca nc cc f ma nm mc ms w' (h1.below (hb.trans (Below.mono h hb.size))) w1).mono (by rintro e w2 ⟨rfl, h2⟩; exact ⟨rfl, Below.trans h (Below.mono h2 h.size)⟩)
  have KL2 : Hid (∀ w', BelB (prog2 ca nc cc ma nm mc cb nd cd mb nn nc' w) w' → Calls Tryd.prog 34 #[.agg #[.slice cb nd cd, .slice mb nn nc']] w' (BoolQ (prog2 ca nc cc ma nm mc cb nd cd mb nn nc' w) (pB (lightP nd g nn ns)))) := Lib.hid fun w' h =>
    (light_any cb nd cd g mb nn nc' ns w' (h2.below (hb.trans (Below.mono h hb.size))) w2).mono (by rintro e w2 ⟨rfl, h2⟩; exact ⟨rfl, Below.trans h (Below.mono h2 h.size)⟩)
  have SA : Hid (∀ w', BelB (prog2 ca nc cc ma nm mc cb nd cd mb nn nc' w) w' → Sents a w') := Lib.hid fun w' h => hA.below (hb.trans (Below.mono h hb.size))
  have HB0 : Hid (BelB (prog2 ca nc cc ma nm mc cb nd cd mb nn nc' w) (prog2 ca nc cc ma nm mc cb nd cd mb nn nc' w)) := Lib.hid (Below.refl _ _)
  have P1 : Hid (∀ w', BelB (prog2 ca nc cc ma nm mc cb nd cd mb nn nc' w) w' → Prg w' ca nc cc f ma nm mc ms) := Lib.hid fun w' h => h1.below (hb.trans (Below.mono h hb.size))
  have P2 : Hid (∀ w', BelB (prog2 ca nc cc ma nm mc cb nd cd mb nn nc' w) w' → Prg w' cb nd cd g mb nn nc' ns) := Lib.hid fun w' h => h2.below (hb.trans (Below.mono h hb.size))
  obtain ⟨W0, hW0⟩ : ∃ W0, prog2 ca nc cc ma nm mc cb nd cd mb nn nc' w = W0 := ⟨_, rfl⟩
  rw [hW0] at CM BW KL1 KL2 SA HB0 P1 P2
  unfold prog2 at hW0
  clear h1 h2 w1 w2 hb hA
  obtain ⟨b1, hb1⟩ : ∃ b, pB (lightP nc f nm ms) = b := ⟨_, rfl⟩
  obtain ⟨b2, hb2⟩ : ∃ b, pB (lightP nd g nn ns) = b := ⟨_, rfl⟩
  rw [hb1] at KL1
  rw [hb2] at KL2
  have L1 : Hid (b1 = true → lightP nc f nm ms) := Lib.hid fun h => Classical.byContradiction fun hn => by rw [← hb1, pB_no hn] at h; cases h
  have L2 : Hid (b2 = true → lightP nd g nn ns) := Lib.hid fun h => Classical.byContradiction fun hn => by rw [← hb2, pB_no hn] at h; cases h
  clear hb1 hb2
  have PF : Hid (∀ w', BelB W0 w' → Calls Tryd.prog 33 #[] w' (BoolQ W0 true)) := Lib.hid fun w' h => (pfirst a w' (SA.out w' h)).mono (by rintro e w2 ⟨rfl, h2⟩; exact ⟨rfl, Below.trans h (Below.mono h2 h.size)⟩)
  go_enter Tryd.func4, Tryd.ntmps4
  go_wp2_with fail
  try rw [hW0]
  clear hW0
  refine (PF.out _ HB0.out).mono ?_
  rintro e wa ⟨rfl, hba⟩
  have HBA := Lib.hid hba
  obtain ⟨⟨p0, p1⟩, q0, q1⟩ := CM.out wa hba
  clear hba PF HB0
  cases b1 with
  | false =>
    go_wp2_with fail
    refine (KL1.out _ HBA.out).mono ?_
    rintro e wb ⟨rfl, hbb⟩
    have HBB := Lib.hid (BW.out _ hbb)
    clear hbb p0 p1 q0 q1
    go_wp2_with fail
    go_ret
    exact ⟨rfl, HBB.out⟩
  | true =>
    go_wp2_with fail
    refine (KL1.out _ HBA.out).mono ?_
    rintro e wb ⟨rfl, hbb⟩
    have HBB := Lib.hid hbb
    clear p0 p1 q0 q1
    obtain ⟨⟨p0, p1⟩, q0, q1⟩ := CM.out wb hbb
    clear hbb HBA
    cases b2 with
    | false =>
      go_wp2_with fail
      refine (KL2.out _ HBB.out).mono ?_
      rintro e wc ⟨rfl, hbc⟩
      have HBC := Lib.hid (BW.out _ hbc)
      clear hbc p0 p1 q0 q1
      go_wp2_with fail
      go_ret
      exact ⟨rfl, HBC.out⟩
    | true =>
      go_wp2_with fail
      refine (KL2.out _ HBB.out).mono ?_
      rintro e wc ⟨rfl, hbc⟩
      have HBC : Hid (BelB W0 wc.drew) := Lib.hid (below_drew hbc)
      clear p0 p1 q0 q1 hbc HBB KL1 KL2
      have hl1 : lightP nc f nm ms := by first | exact L1.out rfl | exact L1.out trivial | exact L1.out
      have hl2 : lightP nd g nn ns := by first | exact L2.out rfl | exact L2.out trivial | exact L2.out
      have s1 := light_sml hl1
      have s2 := light_sml hl2
      have n1 := hl1.1
      have n2 := hl1.2.1
      have n3 := hl2.1
      have n4 := hl2.2.1
      obtain ⟨bs, hbs⟩ : ∃ b, pB (eqC nc f nd g ∧ eqMs nm ms nn ns) = b := ⟨_, rfl⟩
      have KQ : Hid (∀ w', BelB W0 w' → Calls Tryd.prog 38 #[.agg #[.slice ca nc cc, .slice ma nm mc], .agg #[.slice cb nd cd, .slice mb nn nc']] w' (BoolQ W0 bs)) := Lib.hid fun w' h =>
        (same_any w' (P1.out w' h) (P2.out w' h) (by omega) (by omega) (by omega) (by omega) s1 s2).mono (by rintro e w2 ⟨rfl, h2⟩; exact ⟨by rw [hbs], Below.trans h (Below.mono h2 h.size)⟩)
      have KR : Hid (∀ w', BelB W0 w' → Calls Tryd.prog 39 #[.agg #[.slice ca nc cc, .slice ma nm mc], .agg #[.slice cb nd cd, .slice mb nn nc']] w' (BoolQ W0 bs)) := Lib.hid fun w' h =>
        (rsame_any w' (P1.out w' h) (P2.out w' h) (by omega) (by omega) (by omega) (by omega) s1 s2).mono (by rintro e w2 ⟨rfl, h2⟩; exact ⟨by rw [hbs], Below.trans h (Below.mono h2 h.size)⟩)
      have KP : Hid (∀ w', BelB W0 w' → Calls Tryd.prog 38 #[.agg #[.slice ca nc cc, .slice ma nm mc], .agg #[.slice ca nc cc, .slice ma nm mc]] w' (BoolQ W0 true)) := Lib.hid fun w' h =>
        (same_any w' (P1.out w' h) (P1.out w' h) (by omega) (by omega) (by omega) (by omega) s1 s1).mono (by
          rintro e w2 ⟨rfl, h2⟩
          exact ⟨by rw [pB_yes ⟨⟨rfl, fun i _ => rfl⟩, rfl, fun i _ => ⟨⟨rfl, rfl, rfl⟩, rfl, fun j _ => ⟨rfl, rfl, rfl, rfl⟩⟩⟩], Below.trans h (Below.mono h2 h.size)⟩)
      by_cases hbare : 12 < nc ∨ nm = 0 ∨ 12 < nm
      · obtain ⟨x, hx⟩ : ∃ x, a 0 = x := ⟨_, rfl⟩
        have KC : Hid (∀ w', BelB W0 w' → Calls Tryd.prog 36 #[.agg #[.slice ca nc cc, .slice ma nm mc]] w' (fun e w2 => e = .returned (.iface 272 (.pointer (some x))) ∧ BelB W0 w2)) := Lib.hid fun w' h =>
          (may_bare a ca nc cc ma nm mc w' (SA.out w' h) (by omega) hbare).mono (by rintro e w2 ⟨rfl, h2⟩; exact ⟨by rw [hx], Below.trans h (Below.mono h2 h.size)⟩)
        have KD : Hid (∀ w', BelB W0 w' → Calls Tryd.prog 37 #[.agg #[.slice ca nc cc, .slice ma nm mc]] w' (fun e w2 => e = .returned (.agg #[.int .i64 101, .slice none 0 0]) ∧ BelB W0 w2)) := Lib.hid fun w' h =>
          (rmay_bare ca nc cc ma nm mc w' (by omega) hbare).mono (by rintro e w2 ⟨rfl, h2⟩; exact ⟨rfl, Below.trans h (Below.mono h2 h.size)⟩)
        have KE : Hid (∀ w', BelB W0 w' → Calls Tryd.prog 35 #[.iface 272 (.pointer (some x)), .agg #[.int .i64 101, .slice none 0 0]] w' (BoolQ W0 true)) := Lib.hid fun w' h =>
          (by rw [← hx]; exact same_plain a 0 w' (SA.out w' h) (by omega) : Calls Tryd.prog 35 #[.iface 272 (.pointer (some x)), .agg #[.int .i64 101, .slice none 0 0]] w' (TruePost w')).mono (by rintro e w2 ⟨rfl, h2⟩; exact ⟨rfl, Below.trans h (Below.mono h2 h.size)⟩)
        clear hx hbs hl1 hl2 s1 s2 n1 n2 n3 n4 hbare L1 L2 P1 P2 SA
        cases bs
        all_goals
          go_wp2_with fail
          go_region_held3 (fun w' => (w'.cell? ⟨w.heap.size, 0, none⟩ = some (.slice ca nc cc) ∧ w'.cell? ⟨w.heap.size, 1, none⟩ = some (.slice ma nm mc)) ∧ w'.cell? ⟨w.heap.size + 1, 0, none⟩ = some (.slice cb nd cd) ∧ w'.cell? ⟨w.heap.size + 1, 1, none⟩ = some (.slice mb nn nc')) (first | exact CM.out _ HBC.out | (exact CM.out _ (by assumption)) | fail)
            ((first
              | (go_at_call 36; (with_reducible refine (KC.out _ (by first | exact HBC.out | assumption)).mono ?_); rintro e wx ⟨rfl, hx⟩)
              | (go_at_call 37; (with_reducible refine (KD.out _ (by first | exact HBC.out | assumption)).mono ?_); rintro e wx ⟨rfl, hx⟩)
              | (go_at_call 35; (with_reducible refine (KE.out _ (by first | exact HBC.out | assumption)).mono ?_); rintro e wx ⟨rfl, hx⟩)
              | (go_at_call 38; (with_reducible refine (KQ.out _ (by first | exact HBC.out | assumption)).mono ?_); rintro e wx ⟨rfl, hx⟩)
              | (go_at_call 38; (with_reducible refine (KP.out _ (by first | exact HBC.out | assumption)).mono ?_); rintro e wx ⟨rfl, hx⟩)
              | (go_at_call 39; (with_reducible refine (KR.out _ (by first | exact HBC.out | assumption)).mono ?_); rintro e wx ⟨rfl, hx⟩)
              | fail))
          all_goals go_wp2_with fail
          all_goals
            go_ret
            exact ⟨rfl, BW.out _ (by assumption)⟩
      · have m1 : nc ≤ 12 := by omega
        have m2 : 1 ≤ nm := by omega
        have m3 : nm ≤ 12 := by omega
        cases hv : verdict nc nm f ms with
        | none =>
          have KC : Hid (∀ w', BelB W0 w' → Calls Tryd.prog 36 #[.agg #[.slice ca nc cc, .slice ma nm mc]] w' (fun e w2 => e = .returned .nilIface ∧ BelB W0 w2)) := Lib.hid fun w' h =>
            (May_all a ca nc cc f ma nm mc ms w' (SA.out w' h) m1 m2 m3 (P1.out w' h) s1).mono (by rw [hv]; rintro e w2 ⟨h2, rfl⟩; exact ⟨rfl, Below.trans h (Below.mono h2 h.size)⟩)
          have KD : Hid (∀ w', BelB W0 w' → Calls Tryd.prog 37 #[.agg #[.slice ca nc cc, .slice ma nm mc]] w' (fun e w2 => e = .returned (.agg #[.int .i64 0, .slice none 0 0]) ∧ BelB W0 w2)) := Lib.hid fun w' h =>
            (rMay_any ca nc cc f ma nm mc ms w' m1 m2 m3 (P1.out w' h) s1).mono (by rw [hv]; rintro e w2 ⟨h2, rfl⟩; exact ⟨rfl, Below.trans h (Below.mono h2 h.size)⟩)
          have KE : Hid (∀ w', BelB W0 w' → Calls Tryd.prog 35 #[.nilIface, .agg #[.int .i64 0, .slice none 0 0]] w' (BoolQ W0 true)) := Lib.hid fun w' h =>
            (same_nil w').mono (by rintro e w2 ⟨rfl, h2⟩; exact ⟨rfl, Below.trans h (Below.mono h2 h.size)⟩)
          clear hv hbs hl1 hl2 s1 s2 n1 n2 n3 n4 hbare L1 L2 P1 P2 SA m1 m2 m3
          cases bs
          all_goals
            go_wp2_with fail
            go_region_held3 (fun w' => (w'.cell? ⟨w.heap.size, 0, none⟩ = some (.slice ca nc cc) ∧ w'.cell? ⟨w.heap.size, 1, none⟩ = some (.slice ma nm mc)) ∧ w'.cell? ⟨w.heap.size + 1, 0, none⟩ = some (.slice cb nd cd) ∧ w'.cell? ⟨w.heap.size + 1, 1, none⟩ = some (.slice mb nn nc')) (first | exact CM.out _ HBC.out | (exact CM.out _ (by assumption)) | fail)
              ((first
                | (go_at_call 36; (with_reducible refine (KC.out _ (by first | exact HBC.out | assumption)).mono ?_); rintro e wx ⟨rfl, hx⟩)
                | (go_at_call 37; (with_reducible refine (KD.out _ (by first | exact HBC.out | assumption)).mono ?_); rintro e wx ⟨rfl, hx⟩)
                | (go_at_call 35; (with_reducible refine (KE.out _ (by first | exact HBC.out | assumption)).mono ?_); rintro e wx ⟨rfl, hx⟩)
                | (go_at_call 38; (with_reducible refine (KQ.out _ (by first | exact HBC.out | assumption)).mono ?_); rintro e wx ⟨rfl, hx⟩)
                | (go_at_call 38; (with_reducible refine (KP.out _ (by first | exact HBC.out | assumption)).mono ?_); rintro e wx ⟨rfl, hx⟩)
                | (go_at_call 39; (with_reducible refine (KR.out _ (by first | exact HBC.out | assumption)).mono ?_); rintro e wx ⟨rfl, hx⟩)
                | fail))
            all_goals go_wp2_with fail
            all_goals
              go_ret
              exact ⟨rfl, BW.out _ (by assumption)⟩
        | some x =>
          obtain ⟨c, m, pc⟩ := x
          obtain ⟨wf1, wf2, hc14⟩ := verdict_wf (by omega) (by omega) s1 hv
          obtain ⟨C, hC⟩ : ∃ C : Int, ((101 + c : Nat) : Int) = C := ⟨_, rfl⟩
          have KC : Hid (∀ w', BelB W0 w' → Calls Tryd.prog 36 #[.agg #[.slice ca nc cc, .slice ma nm mc]] w' (fun e w2 => ∃ b, e = .returned (.iface 135 (.pointer (some ⟨b, 0, none⟩))) ∧ BelB W0 w2 ∧ BelB w' w2 ∧ WBox a b c m pc w2)) := Lib.hid fun w' h =>
            (May_all a ca nc cc f ma nm mc ms w' (SA.out w' h) m1 m2 m3 (P1.out w' h) s1).mono (by rw [hv]; rintro e w2 ⟨h2, b, rfl, _, hx⟩; exact ⟨b, rfl, Below.trans h (Below.mono h2 h.size), h2, hx⟩)
          have KD : Hid (∀ w', BelB W0 w' → Calls Tryd.prog 37 #[.agg #[.slice ca nc cc, .slice ma nm mc]] w' (fun e w2 => ∃ g, e = .returned (.agg #[.int .i64 C, .slice (some ⟨g, 0, none⟩) 2 2]) ∧ BelB W0 w2 ∧ BelB w' w2 ∧ FBox g m pc w2)) := Lib.hid fun w' h =>
            (rMay_any ca nc cc f ma nm mc ms w' m1 m2 m3 (P1.out w' h) s1).mono (by rw [hv]; rintro e w2 ⟨h2, g, rfl, y0, y1⟩; exact ⟨g, by rw [hC], Below.trans h (Below.mono h2 h.size), h2, y0, y1⟩)
          have KE : Hid (∀ w' b g, BelB W0 w' → WBox a b c m pc w' → FBox g m pc w' → Calls Tryd.prog 35 #[.iface 135 (.pointer (some ⟨b, 0, none⟩)), .agg #[.int .i64 C, .slice (some ⟨g, 0, none⟩) 2 2]] w' (BoolQ W0 true)) := Lib.hid fun w' b g h hx hy => by
            have := same_where a b c m pc g 2 w' (SA.out w' h) hc14 hx (row_two hy.1 hy.2 (Nat.le_refl _) (by unfold maxLen; omega) wf1 wf2)
            rw [hC] at this
            exact this.mono (by rintro e w2 ⟨rfl, h2⟩; exact ⟨rfl, Below.trans h (Below.mono h2 h.size)⟩)
          clear hv hbs hl1 hl2 s1 s2 n1 n2 n3 n4 hbare L1 L2 P1 P2 SA m1 m2 m3 wf1 wf2 hc14 hC
          cases bs
          all_goals
            go_wp2_with fail
            go_region_held3 (fun w' => (w'.cell? ⟨w.heap.size, 0, none⟩ = some (.slice ca nc cc) ∧ w'.cell? ⟨w.heap.size, 1, none⟩ = some (.slice ma nm mc)) ∧ w'.cell? ⟨w.heap.size + 1, 0, none⟩ = some (.slice cb nd cd) ∧ w'.cell? ⟨w.heap.size + 1, 1, none⟩ = some (.slice mb nn nc')) (first | exact CM.out _ HBC.out | (exact CM.out _ (by assumption)) | fail)
              ((first
                | (go_at_call 36; (with_reducible refine (KC.out _ (by first | exact HBC.out | assumption)).mono ?_); rintro e wx ⟨bx, rfl, hx, hsx, hbox⟩)
                | (go_at_call 37; (with_reducible refine (KD.out _ (by first | exact HBC.out | assumption)).mono ?_); rintro e wy ⟨gx, rfl, hy, hsy, hfox⟩)
                | (go_at_call 35; (with_reducible refine (KE.out _ _ _ (by first | exact HBC.out | assumption) (by first | exact hbox | exact hbox.belowB hsy) (by first | exact hfox | exact hfox.below hsx)).mono ?_); rintro e wx ⟨rfl, hx⟩)
                | (go_at_call 38; (with_reducible refine (KQ.out _ (by first | exact HBC.out | assumption)).mono ?_); rintro e wx ⟨rfl, hx⟩)
                | (go_at_call 38; (with_reducible refine (KP.out _ (by first | exact HBC.out | assumption)).mono ?_); rintro e wx ⟨rfl, hx⟩)
                | (go_at_call 39; (with_reducible refine (KR.out _ (by first | exact HBC.out | assumption)).mono ?_); rintro e wx ⟨rfl, hx⟩)
                | fail))
            all_goals go_wp2_with fail
            all_goals
              go_ret
              exact ⟨rfl, BW.out _ (by assumption)⟩

end Go.Proofs.YtjffbojgdemooaaDoor

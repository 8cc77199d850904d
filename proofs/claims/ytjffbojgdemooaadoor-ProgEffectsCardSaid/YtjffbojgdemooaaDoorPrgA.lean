/-
  Package prog: May, at any program of few classes and methods.
-/
import Derived.Test.YtjffbojgdemooaaDoorRfC
namespace Go.Proofs.YtjffbojgdemooaaDoor
open Go.RowKit

set_option maxHeartbeats 1000000 in
theorem mayClass_all (a : Nat → Addr) (s : ByteArray) (w : World) (h : Sents a w) (h1 : s.size ≤ maxLen) :
    Calls Tryd.prog 98 #[.agg #[.string s]] w (MayPost a (clsC s) w) := by
  have hbl : Below w.heap.size w (w.alloc (.cells #[.string s] 90)) := (Below.refl _ _).alloc (Nat.le_refl _) _
  have hS := h.below hbl
  have c0 := hS.c0
  have c1 := hS.c1
  have HB := Lib.hid hbl
  have L1 : ∀ w, Hid (Calls Tryd.prog 151 #[.string s] w (LetPost s w)) := fun w => Lib.hid (letters_any s w h1)
  obtain ⟨x0, e0⟩ : ∃ x, a 0 = x := ⟨_, rfl⟩
  obtain ⟨x1, e1⟩ : ∃ x, a 1 = x := ⟨_, rfl⟩
  have E0 : Hid (errV a 1 = .iface 272 (.pointer (some x0))) := Lib.hid (by rw [← e0]; rfl)
  have E1 : Hid (errV a 2 = .iface 272 (.pointer (some x1))) := Lib.hid (by rw [← e1]; rfl)
  rw [e0] at c0
  rw [e1] at c1
  unfold maxLen at h1
  clear h hS hbl e0 e1
  by_cases hm : 10 < s.size
  · have HV : Hid (clsC s = 1) := Lib.hid (by rw [clsC, if_pos hm])
    have t1 : decide (10 < s.size) = true := by simpa using hm
    have t1' : decide (10 < (s.size : Int)) = true := by simp; omega
    clear hm
    go_enter Tryd.func98, Tryd.ntmps98
    go_wp2
    go_ret
    exact ⟨by rw [HV.out, E0.out]; rfl, HB.out⟩
  · have t1 : decide (10 < s.size) = false := by simpa using hm
    have t1' : decide (10 < (s.size : Int)) = false := by simp; omega
    cases hf : fairB s with
    | true =>
      have HV : Hid (clsC s = 0) := Lib.hid (by rw [clsC, if_neg hm, if_pos hf])
      have L2 : ∀ w, Hid (Calls Tryd.prog 151 #[.string s] w (fun e w' => e = .returned (.bool true) ∧ w = w')) := fun w => Lib.hid ((L1 w).out.mono (by rintro e w' ⟨rfl, rfl⟩; exact ⟨by rw [hf], rfl⟩))
      clear hm hf L1
      go_enter Tryd.func98, Tryd.ntmps98
      go_wp2_with (go_at_call 151; refine (L2 _).out.mono ?_; rintro e w' ⟨rfl, rfl⟩)
      go_ret
      exact ⟨by rw [HV.out]; rfl, HB.out⟩
    | false =>
      have HV : Hid (clsC s = 2) := Lib.hid (by rw [clsC, if_neg hm, hf]; rfl)
      have L2 : ∀ w, Hid (Calls Tryd.prog 151 #[.string s] w (fun e w' => e = .returned (.bool false) ∧ w = w')) := fun w => Lib.hid ((L1 w).out.mono (by rintro e w' ⟨rfl, rfl⟩; exact ⟨by rw [hf], rfl⟩))
      clear hm hf L1
      go_enter Tryd.func98, Tryd.ntmps98
      go_wp2_with (go_at_call 151; refine (L2 _).out.mono ?_; rintro e w' ⟨rfl, rfl⟩)
      go_ret
      exact ⟨by rw [HV.out, E1.out]; rfl, HB.out⟩

set_option maxHeartbeats 8000000 in
set_option maxRecDepth 100000 in
theorem mayHead_all (a : Nat → Addr) (ps ls rt : ByteArray) (co : Option Addr) (cl cp : Nat) (fi : Bool) (w : World) (h : Sents a w) (h1 : ps.size ≤ 1000) (h2 : ls.size ≤ 1000) (h3 : cl ≤ 1000) :
    Calls Tryd.prog 152 #[.agg #[.string ps, .string ls, .string rt, .slice co cl cp], .bool fi] w (MayPost a (headA fi ps ls rt cl) w) := by
  have hbl : Below w.heap.size w (w.alloc (.cells #[.string ps, .string ls, .string rt, .slice co cl cp] 62)) := (Below.refl _ _).alloc (Nat.le_refl _) _
  have hS := h.below hbl
  have c0 := hS.c0
  have c1 := hS.c1
  have HB := Lib.hid hbl
  have LT : Hid (∀ s w, s.size ≤ 1000 → Calls Tryd.prog 151 #[.string s] w (LetPost s w)) := Lib.hid fun s w h => letters_any s w (by unfold maxLen; omega)
  obtain ⟨x0, e0⟩ : ∃ x, a 0 = x := ⟨_, rfl⟩
  obtain ⟨x1, e1⟩ : ∃ x, a 1 = x := ⟨_, rfl⟩
  have E0 : Hid (errV a 1 = .iface 272 (.pointer (some x0))) := Lib.hid (by rw [← e0]; rfl)
  have E1 : Hid (errV a 2 = .iface 272 (.pointer (some x1))) := Lib.hid (by rw [← e1]; rfl)
  rw [e0] at c0
  rw [e1] at c1
  clear h hS hbl e0 e1
  by_cases hS : 12 < ps.size + ls.size ∨ cl = 0 ∨ 120 < cl
  · have HV : Hid (headA fi ps ls rt cl = 1) := Lib.hid (by rw [headA, if_pos hS])
    by_cases g1 : 12 < ps.size + ls.size
    · have t1 : decide (12 < (ps.size : Int) + (ls.size : Int)) = true := by simp; omega
      clear hS g1
      go_enter Tryd.func152, Tryd.ntmps152
      go_wp2_with fail
      go_ret
      exact ⟨by rw [HV.out, E0.out]; rfl, HB.out⟩
    · have t1 : decide (12 < (ps.size : Int) + (ls.size : Int)) = false := by simp; omega
      by_cases g2 : cl = 0
      · subst g2
        clear hS g1
        go_enter Tryd.func152, Tryd.ntmps152
        go_wp2_with fail
        go_ret
        exact ⟨by rw [HV.out, E0.out]; rfl, HB.out⟩
      · have t2 : ((cl : Int) == 0) = false := by simp; omega
        have t3 : decide (120 < (cl : Int)) = true := by simp; omega
        clear hS g1 g2
        go_enter Tryd.func152, Tryd.ntmps152
        go_wp2_with fail
        go_ret
        exact ⟨by rw [HV.out, E0.out]; rfl, HB.out⟩
  · have t1 : decide (12 < ps.size + ls.size) = false := by simp; omega
    have t1' : decide (12 < (ps.size : Int) + (ls.size : Int)) = false := by simp; omega
    have t2' : ((cl : Int) == 0) = false := by simp; omega
    have t3 : decide (120 < cl) = false := by simp; omega
    have t3' : decide (120 < (cl : Int)) = false := by simp; omega
    have HSS := Lib.hid hS
    clear hS
    cases hf1 : fairB ps with
    | false =>
      have HV : Hid (headA fi ps ls rt cl = 2) := Lib.hid (by rw [headA, if_neg HSS.out, if_pos (.inl hf1)])
      have LP1 : Hid (∀ w, Calls Tryd.prog 151 #[.string ps] w (fun e w' => e = .returned (.bool false) ∧ w = w')) := Lib.hid fun w => (LT.out ps w h1).mono (by rintro e w' ⟨rfl, rfl⟩; exact ⟨by rw [hf1], rfl⟩)
      clear hf1
      go_enter Tryd.func152, Tryd.ntmps152
      go_wp2_with (go_at_call 151; (with_reducible refine (LP1.out _).mono ?_); rintro e w' ⟨rfl, rfl⟩)
      all_goals
        go_ret
        exact ⟨by rw [HV.out, E1.out]; rfl, HB.out⟩
    | true =>
      have LP1 : Hid (∀ w, Calls Tryd.prog 151 #[.string ps] w (fun e w' => e = .returned (.bool true) ∧ w = w')) := Lib.hid fun w => (LT.out ps w h1).mono (by rintro e w' ⟨rfl, rfl⟩; exact ⟨by rw [hf1], rfl⟩)
      cases hf2 : fairB ls with
      | false =>
        have HV : Hid (headA fi ps ls rt cl = 2) := Lib.hid (by rw [headA, if_neg HSS.out, if_pos (.inr (.inl hf2))])
        have LP2 : Hid (∀ w, Calls Tryd.prog 151 #[.string ls] w (fun e w' => e = .returned (.bool false) ∧ w = w')) := Lib.hid fun w => (LT.out ls w h2).mono (by rintro e w' ⟨rfl, rfl⟩; exact ⟨by rw [hf2], rfl⟩)
        clear hf1 hf2
        go_enter Tryd.func152, Tryd.ntmps152
        go_wp2_with (first | (go_at_call 151; (with_reducible refine (LP1.out _).mono ?_); rintro e w' ⟨rfl, rfl⟩) | (go_at_call 151; (with_reducible refine (LP2.out _).mono ?_); rintro e w' ⟨rfl, rfl⟩))
        all_goals
          go_ret
          exact ⟨by rw [HV.out, E1.out]; rfl, HB.out⟩
      | true =>
        have LP2 : Hid (∀ w, Calls Tryd.prog 151 #[.string ls] w (fun e w' => e = .returned (.bool true) ∧ w = w')) := Lib.hid fun w => (LT.out ls w h2).mono (by rintro e w' ⟨rfl, rfl⟩; exact ⟨by rw [hf2], rfl⟩)
        have HF1 := Lib.hid hf1
        have HF2 := Lib.hid hf2
        clear hf1 hf2
        have BAD : Hid ((retK rt = 3 ∨ (fi = true ∧ (ps ≠ ⟨#[]⟩ ∨ retK rt = 2))) → headA fi ps ls rt cl = 2) := Lib.hid fun h => by rw [headA, if_neg HSS.out, if_pos (.inr (.inr h))]
        have GOOD : Hid (¬ (retK rt = 3 ∨ (fi = true ∧ (ps ≠ ⟨#[]⟩ ∨ retK rt = 2))) → headA fi ps ls rt cl = 0) := Lib.hid fun h => by
          rw [headA, if_neg HSS.out, if_neg (by rw [HF1.out, HF2.out]; simpa using h)]
        rcases retK_ways rt with hr | hr | hr | ⟨h3', n0, n1, n2⟩
        · have hl : rt.toList = [] := str_eq.2 hr
          have hk3 : retK rt = 0 := by rw [hr]; decide
          clear hr
          cases fi with
          | false =>
            have HV := Lib.hid (GOOD.out (by rw [hk3]; simp))
            clear hk3
            go_enter Tryd.func152, Tryd.ntmps152
            go_wp2_with (first | (go_at_call 151; (with_reducible refine (LP1.out _).mono ?_); rintro e w' ⟨rfl, rfl⟩) | (go_at_call 151; (with_reducible refine (LP2.out _).mono ?_); rintro e w' ⟨rfl, rfl⟩))
            go_ret
            exact ⟨by rw [HV.out]; rfl, HB.out⟩
          | true =>
            by_cases hps : ps = ⟨#[]⟩
            · have HV := Lib.hid (GOOD.out (by rw [hk3]; simp [hps]))
              have he : ps.toList = [] := str_eq.2 hps
              clear hk3 hps
              go_enter Tryd.func152, Tryd.ntmps152
              go_wp2_with (first | (go_at_call 151; (with_reducible refine (LP1.out _).mono ?_); rintro e w' ⟨rfl, rfl⟩) | (go_at_call 151; (with_reducible refine (LP2.out _).mono ?_); rintro e w' ⟨rfl, rfl⟩))
              go_ret
              exact ⟨by rw [HV.out]; rfl, HB.out⟩
            · have HV := Lib.hid (BAD.out (.inr ⟨rfl, .inl hps⟩))
              have he := str_isEmpty hps
              have he' := str_no (l := []) hps
              clear hk3 hps
              go_enter Tryd.func152, Tryd.ntmps152
              go_wp2_with (first | (go_at_call 151; (with_reducible refine (LP1.out _).mono ?_); rintro e w' ⟨rfl, rfl⟩) | (go_at_call 151; (with_reducible refine (LP2.out _).mono ?_); rintro e w' ⟨rfl, rfl⟩))
              go_ret
              exact ⟨by rw [HV.out, E1.out]; rfl, HB.out⟩
        · have hl : rt.toList = [73] := str_eq.2 hr
          have hk3 : retK rt = 1 := by rw [hr]; decide
          clear hr
          cases fi with
          | false =>
            have HV := Lib.hid (GOOD.out (by rw [hk3]; simp))
            clear hk3
            go_enter Tryd.func152, Tryd.ntmps152
            go_wp2_with (first | (go_at_call 151; (with_reducible refine (LP1.out _).mono ?_); rintro e w' ⟨rfl, rfl⟩) | (go_at_call 151; (with_reducible refine (LP2.out _).mono ?_); rintro e w' ⟨rfl, rfl⟩))
            go_ret
            exact ⟨by rw [HV.out]; rfl, HB.out⟩
          | true =>
            by_cases hps : ps = ⟨#[]⟩
            · have HV := Lib.hid (GOOD.out (by rw [hk3]; simp [hps]))
              have he : ps.toList = [] := str_eq.2 hps
              clear hk3 hps
              go_enter Tryd.func152, Tryd.ntmps152
              go_wp2_with (first | (go_at_call 151; (with_reducible refine (LP1.out _).mono ?_); rintro e w' ⟨rfl, rfl⟩) | (go_at_call 151; (with_reducible refine (LP2.out _).mono ?_); rintro e w' ⟨rfl, rfl⟩))
              go_ret
              exact ⟨by rw [HV.out]; rfl, HB.out⟩
            · have HV := Lib.hid (BAD.out (.inr ⟨rfl, .inl hps⟩))
              have he := str_isEmpty hps
              have he' := str_no (l := []) hps
              clear hk3 hps
              go_enter Tryd.func152, Tryd.ntmps152
              go_wp2_with (first | (go_at_call 151; (with_reducible refine (LP1.out _).mono ?_); rintro e w' ⟨rfl, rfl⟩) | (go_at_call 151; (with_reducible refine (LP2.out _).mono ?_); rintro e w' ⟨rfl, rfl⟩))
              go_ret
              exact ⟨by rw [HV.out, E1.out]; rfl, HB.out⟩
        · have hl : rt.toList = [82] := str_eq.2 hr
          have hk3 : retK rt = 2 := by rw [hr]; decide
          clear hr
          cases fi with
          | false =>
            have HV := Lib.hid (GOOD.out (by rw [hk3]; simp))
            clear hk3
            go_enter Tryd.func152, Tryd.ntmps152
            go_wp2_with (first | (go_at_call 151; (with_reducible refine (LP1.out _).mono ?_); rintro e w' ⟨rfl, rfl⟩) | (go_at_call 151; (with_reducible refine (LP2.out _).mono ?_); rintro e w' ⟨rfl, rfl⟩))
            go_ret
            exact ⟨by rw [HV.out]; rfl, HB.out⟩
          | true =>
            have HV := Lib.hid (BAD.out (.inr ⟨rfl, .inr hk3⟩))
            clear hk3
            go_enter Tryd.func152, Tryd.ntmps152
            go_wp2_with (first | (go_at_call 151; (with_reducible refine (LP1.out _).mono ?_); rintro e w' ⟨rfl, rfl⟩) | (go_at_call 151; (with_reducible refine (LP2.out _).mono ?_); rintro e w' ⟨rfl, rfl⟩))
            all_goals
              go_ret
              exact ⟨by rw [HV.out, E1.out]; rfl, HB.out⟩
        · have HV := Lib.hid (BAD.out (.inl h3'))
          have r0 := str_isEmpty n0
          have r0' := str_no (l := []) n0
          have r1' := str_no (l := [73]) n1
          have r2' := str_no (l := [82]) n2
          have r1 : (rt.toList == [73]) = false := by simpa using r1'
          have r2 : (rt.toList == [82]) = false := by simpa using r2'
          clear h3' n0 n1 n2
          go_enter Tryd.func152, Tryd.ntmps152
          go_wp2_with (first | (go_at_call 151; (with_reducible refine (LP1.out _).mono ?_); rintro e w' ⟨rfl, rfl⟩) | (go_at_call 151; (with_reducible refine (LP2.out _).mono ?_); rintro e w' ⟨rfl, rfl⟩))
          all_goals
            go_ret
            exact ⟨by rw [HV.out, E1.out]; rfl, HB.out⟩

theorem May_all (a : Nat → Addr) (ca : Option Addr) (nc cc : Nat) (f : Nat → ByteArray) (ma : Option Addr) (nm mc : Nat) (ms : Nat → Meth) (w : World) (hA : Sents a w) (h1 : nc ≤ 12) (h2 : 1 ≤ nm) (h3 : nm ≤ 12) (hP : Prg w ca nc cc f ma nm mc ms) (hS : Sml nc f nm ms) :
    Calls Tryd.prog 36 #[.agg #[.slice ca nc cc, .slice ma nm mc]] w (WherePost a (verdict nc nm f ms) w) := by
  obtain ⟨mb, mo, rfl, hmb, hmc⟩ := Prg_at hP (by omega)
  refine May_any a ca nc cc (some ⟨mb, mo, none⟩) nm mc f (goodC nc f) (goodM nc nm f ms) (fun i => clsC (f i)) (mthV nc nm f ms) w h1 h2 h3 hP.cls ?_ goodC_le (fun i hi => goodC_ok hi) goodC_bad ?_ goodM_le (fun i hi => goodM_ok hi) goodM_bad
  · intro i hi w' hb
    exact mayClass_all a (f i) w' (hA.below hb) (hS.fs i hi)
  · intro m hm w' hb
    obtain ⟨x0, x1, x2, x3⟩ := hmc m hm
    have q1 := hS.ps m hm
    have q2 := hS.ls m hm
    have q4 := hS.len m hm
    refine mayMethod_any a ca nc cc mb mo nm mc m (ms m).ps (ms m).ls (ms m).rt (ms m).co (ms m).len (ms m).cp (ms m).gv _ _ (icA nc nm f (ms m)) w' (hA.below hb) hm (by omega) (by omega) ((hP.code m hm).below hb)
      ((hb.cell (p := ⟨mb, mo + m * 4, none⟩) hmb).trans x0) ((hb.cell (p := ⟨mb, mo + m * 4 + 1, none⟩) hmb).trans x1) ((hb.cell (p := ⟨mb, mo + m * 4 + 2, none⟩) hmb).trans x2) ((hb.cell (p := ⟨mb, mo + m * 4 + 3, none⟩) hmb).trans x3) ?_ ?_ (goodI_le (ms m)) (fun i hi => goodI_ok (ms m) hi) (goodI_bad (ms m))
    · intro w2 hb2
      have e : ((m : Int) == 0) = decide (m = 0) := by
        by_cases hm0 : m = 0
        · subst hm0; rfl
        · simp [hm0]
      rw [e]
      exact mayHead_all a _ _ _ _ _ _ _ w2 ((hA.below hb).below hb2) q1 q2 q4
    · intro i hi w2 hb2
      exact mayInstr_any a ca nc cc (some ⟨mb, mo, none⟩) nm mc _ _ _ _ _ _ _ _ _ _ w2 _ ((hA.below hb).below hb2) (named_any ca nc cc (some ⟨mb, mo, none⟩) nm mc f _ _ _ _ _ _ _ _ _ _ w2 (by omega) (by omega) (by omega) ((hP.cls.below hb).below hb2))

end Go.Proofs.YtjffbojgdemooaaDoor

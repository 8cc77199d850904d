/-
  ProgMay: what the law calls.
-/
import Derived.Test.YtjffbojgdemooaaDoorSmP
import Derived.Test.YtjffbojgdemooaaDoorLgt
import Derived.Test.YtjffbojgdemooaaDoorPrgA
namespace Go.Proofs.YtjffbojgdemooaaDoor
open Go.RowKit

/-- Nothing is the same as no fault. -/
theorem faultNil (w : World) : Calls Tryd.prog 62 #[.nilIface] w (PlainPost 0 w) := by
  go_enter Tryd.func62, Tryd.ntmps62
  go_wp2_with fail
  refine (rnone_any _).mono ?_
  rintro e w2 ⟨rfl, hb2⟩
  obtain ⟨f0, f1, g0, g1, hlt⟩ := boxed w 53 hb2
  have HB2 : Hid (Below w.heap.size w w2) := Lib.hid (((Below.refl _ _).alloc (Nat.le_refl _) _).trans (hb2.mono (by simp)))
  clear hb2
  go_wp2_with fail
  exact bodyPost_ret (v := .agg #[.int .i64 0, .slice none 0 0]) (by simp [results, Tryd.results62, go_sem, f0, f1]) rfl ⟨rfl, (HB2.out.setCell (Nat.le_refl _) _).setCell (Nat.le_refl _) _⟩

theorem same_nil (w : World) : Calls Tryd.prog 35 #[.nilIface, .agg #[.int .i64 0, .slice none 0 0]] w (TruePost w) := by
  have F : Hid (∀ w, Calls Tryd.prog 62 #[.nilIface] w (PlainPost 0 w)) := Lib.hid faultNil
  go_enter Tryd.func35, Tryd.ntmps35
  go_wp2_with fail
  refine (F.out _).mono ?_
  rintro e w2 ⟨rfl, hb2⟩
  obtain ⟨f0, f1, hlt⟩ := boxedC w 53 0 hb2
  have HB2 : Hid (Below w.heap.size w w2) := Lib.hid (((Below.refl _ _).alloc (Nat.le_refl _) _).trans (hb2.mono (by simp)))
  have hb3 : Below w2.heap.size w2 (w2.alloc (Obj.cells #[Value.int IntKind.i64 0, Value.slice none 0 0] 53)) := (Below.refl _ _).alloc (Nat.le_refl _) _
  have g0 := (hb3.cell (p := ⟨w.heap.size, 0, none⟩) hlt).trans f0
  have g1 := (hb3.cell (p := ⟨w.heap.size, 1, none⟩) hlt).trans f1
  clear hb2 hb3 f0 f1
  go_wp2_with fail
  refine (sameFault_plain 0 _).mono ?_
  rintro e w4 ⟨rfl, hb4⟩
  go_wp2_with fail
  go_ret
  exact ⟨rfl, (HB2.out.alloc HB2.out.size _).trans (hb4.mono (by have := HB2.out.size; simp; omega))⟩

set_option maxRecDepth 100000 in
/-- May, where there are too many. -/
theorem may_bare (a : Nat → Addr) (ca : Option Addr) (nc cc : Nat) (ma : Option Addr) (nm mc : Nat) (w : World) (h : Sents a w) (hs : nc ≤ 1000000 ∧ nm ≤ 1000000) (hm : 12 < nc ∨ nm = 0 ∨ 12 < nm) :
    Calls Tryd.prog 36 #[.agg #[.slice ca nc cc, .slice ma nm mc]] w fun e w' => e = .returned (.iface 272 (.pointer (some (a 0)))) ∧ Below w.heap.size w w' := by
  have hbl : Below w.heap.size w (w.alloc (.cells #[.slice ca nc cc, .slice ma nm mc] 46)) := (Below.refl _ _).alloc (Nat.le_refl _) _
  have hS := h.below hbl
  have c0 := hS.c0
  obtain ⟨x, hx⟩ : ∃ x, a 0 = x := ⟨_, rfl⟩
  rw [hx] at c0
  rw [hx]
  have HB := Lib.hid hbl
  clear h hS hbl hx
  by_cases h1 : 12 < nc
  · have t1 : decide (12 < (nc : Int)) = true := by simp; omega
    have t1' : decide (12 < nc) = true := by simp; omega
    clear hm h1
    go_enter Tryd.func36, Tryd.ntmps36
    go_wp2_with fail
    go_ret
    exact ⟨rfl, HB.out⟩
  · have t1 : decide (12 < (nc : Int)) = false := by simp; omega
    have t1' : decide (12 < nc) = false := by simp; omega
    by_cases h2 : nm = 0
    · have t2 : ((nm : Int) == 0) = true := by simp; omega
      clear hm h1 h2
      go_enter Tryd.func36, Tryd.ntmps36
      go_wp2_with fail
      go_ret
      exact ⟨rfl, HB.out⟩
    · have t2 : ((nm : Int) == 0) = false := by simp; omega
      have t3 : decide (12 < (nm : Int)) = true := by simp; omega
      have t3' : decide (12 < nm) = true := by simp; omega
      clear hm h1 h2
      go_enter Tryd.func36, Tryd.ntmps36
      go_wp2_with fail
      go_ret
      exact ⟨rfl, HB.out⟩

set_option maxRecDepth 100000 in
theorem rmay_bare (ca : Option Addr) (nc cc : Nat) (ma : Option Addr) (nm mc : Nat) (w : World) (hs : nc ≤ 1000000 ∧ nm ≤ 1000000) (hm : 12 < nc ∨ nm = 0 ∨ 12 < nm) :
    Calls Tryd.prog 37 #[.agg #[.slice ca nc cc, .slice ma nm mc]] w (PlainPost 101 w) := by
  have hbl := rmW_below ca nc cc ma nm mc w
  have HB := Lib.hid hbl
  have BW : Hid (∀ w', Below (rmW ca nc cc ma nm mc w).heap.size (rmW ca nc cc ma nm mc w) w' → Below w.heap.size w w') := Lib.hid fun w' hb => (rmW_below ca nc cc ma nm mc w).trans (hb.mono (rmW_below ca nc cc ma nm mc w).size)
  clear hbl
  by_cases h1 : 12 < nc
  · have t1 : decide (12 < (nc : Int)) = true := by simp; omega
    have t1' : decide (12 < nc) = true := by simp; omega
    clear hm h1
    go_enter Tryd.func37, Tryd.ntmps37
    go_wp2_with fail
    refine (bare_any 101 _).mono ?_
    rintro e w2 ⟨rfl, hb2⟩
    obtain ⟨f0, f1, g0, g1, hlt⟩ := boxed _ 53 hb2
    rw [World.size_alloc] at f0 f1 g0 g1
    have HX := Lib.hid (BW.out w2 hb2)
    clear hb2 hlt
    go_wp2_with fail
    exact bodyPost_ret (v := .agg #[.int .i64 101, .slice none 0 0]) (by simp [results, Tryd.results37, go_sem, f0, f1]) rfl ⟨rfl, (HX.out.setCell (by show w.heap.size ≤ w.heap.size + 1; omega) _).setCell (by show w.heap.size ≤ w.heap.size + 1; omega) _⟩
  · have t1 : decide (12 < (nc : Int)) = false := by simp; omega
    have t1' : decide (12 < nc) = false := by simp; omega
    by_cases h2 : nm = 0
    · have t2 : decide ((nm : Int) < 1) = true := by simp; omega
      clear hm h1 h2
      go_enter Tryd.func37, Tryd.ntmps37
      go_wp2_with fail
      refine (bare_any 101 _).mono ?_
      rintro e w2 ⟨rfl, hb2⟩
      obtain ⟨f0, f1, g0, g1, hlt⟩ := boxed _ 53 hb2
      rw [World.size_alloc] at f0 f1 g0 g1
      have HX := Lib.hid (BW.out w2 hb2)
      clear hb2 hlt
      go_wp2_with fail
      exact bodyPost_ret (v := .agg #[.int .i64 101, .slice none 0 0]) (by simp [results, Tryd.results37, go_sem, f0, f1]) rfl ⟨rfl, (HX.out.setCell (by show w.heap.size ≤ w.heap.size + 1; omega) _).setCell (by show w.heap.size ≤ w.heap.size + 1; omega) _⟩
    · have t2 : decide ((nm : Int) < 1) = false := by simp; omega
      have t3 : decide (12 < (nm : Int)) = true := by simp; omega
      have t3' : decide (12 < nm) = true := by simp; omega
      clear hm h1 h2
      go_enter Tryd.func37, Tryd.ntmps37
      go_wp2_with fail
      refine (bare_any 101 _).mono ?_
      rintro e w2 ⟨rfl, hb2⟩
      obtain ⟨f0, f1, g0, g1, hlt⟩ := boxed _ 53 hb2
      rw [World.size_alloc] at f0 f1 g0 g1
      have HX := Lib.hid (BW.out w2 hb2)
      clear hb2 hlt
      go_wp2_with fail
      exact bodyPost_ret (v := .agg #[.int .i64 101, .slice none 0 0]) (by simp [results, Tryd.results37, go_sem, f0, f1]) rfl ⟨rfl, (HX.out.setCell (by show w.heap.size ≤ w.heap.size + 1; omega) _).setCell (by show w.heap.size ≤ w.heap.size + 1; omega) _⟩

theorem wf64y {x : Int} (h0 : -9223372036854775808 ≤ x) (h1 : x ≤ 9223372036854775807) : (Lit.int .i64 x).wf = true := by
  simp [Lit.wf, IntKind.min, IntKind.max, IntKind.signed, IntKind.bits]
  omega

/-- The places in a verdict are numbers. -/
theorem verdict_wf {nc nm : Nat} {f : Nat → ByteArray} {ms : Nat → Meth} {c : Nat} {m pc : Int} (h1 : nc ≤ 1000) (h2 : nm ≤ 1000) (hS : Sml nc f nm ms) (h : verdict nc nm f ms = some (c, m, pc)) : (Lit.int .i64 m).wf = true ∧ (Lit.int .i64 pc).wf = true ∧ c < 14 := by
  have hg := goodC_le (nc := nc) (f := f)
  have hg2 := goodM_le (nc := nc) (nm := nm) (f := f) (ms := ms)
  unfold verdict progW at h
  split at h
  · have hc : clsC (f (goodC nc f)) ≤ 2 := by unfold clsC; split <;> first | omega | (split <;> omega)
    have e := Option.some.inj h
    have e1 := congrArg Prod.fst e
    have e2 := congrArg (fun x => x.2.1) e
    have e3 := congrArg (fun x => x.2.2) e
    simp at e1 e2 e3
    subst e2; subst e3
    exact ⟨wf64y (by omega) (by omega), by decide, by omega⟩
  · split at h
    · rename_i hlt
      unfold mthV methW at h
      split at h
      · have hc : headA (decide (goodM nc nm f ms = 0)) (ms (goodM nc nm f ms)).ps (ms (goodM nc nm f ms)).ls (ms (goodM nc nm f ms)).rt (ms (goodM nc nm f ms)).len ≤ 2 := by unfold headA; split <;> first | omega | (split <;> omega)
        have e := Option.some.inj h
        have e1 := congrArg Prod.fst e
        have e2 := congrArg (fun x => x.2.1) e
        have e3 := congrArg (fun x => x.2.2) e
        simp at e1 e2 e3
        subst e2; subst e3
        exact ⟨wf64y (by omega) (by omega), by decide, by omega⟩
      · split at h
        · rename_i hI
          have hI2 := hS.len (goodM nc nm f ms) hlt
          generalize goodM nc nm f ms = gm at *
          have hc : icA nc nm f (ms gm) (firstBad (fun i => decide (icA nc nm f (ms gm) i ≠ 0)) (ms gm).len) ≤ 4 := by
            unfold icA icOf instrC
            split
            · omega
            · split
              · omega
              · split
                · omega
                · split <;> omega
          have e := Option.some.inj h
          have e1 := congrArg Prod.fst e
          have e2 := congrArg (fun x => x.2.1) e
          have e3 := congrArg (fun x => x.2.2) e
          simp only at e1 e2 e3
          subst e2; subst e3
          exact ⟨wf64y (by omega) (by omega), wf64y (by omega) (by omega), by omega⟩
        · cases h
    · cases h

end Go.Proofs.YtjffbojgdemooaaDoor

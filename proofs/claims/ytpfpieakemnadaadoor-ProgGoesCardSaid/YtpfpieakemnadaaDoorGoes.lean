/-
  The law on where a method goes on: true, whatever comes.
-/
import Derived.Test.YtpfpieakemnadaaDoorGoes0
import Derived.Deep.DeepCutAuto
namespace Go.Proofs.YtpfpieakemnadaaDoor
open Go.RowKit

theorem goes_many (ad : Option Addr) (len cap : Nat) (pc : Int) (a : Nat → Addr) (w : World) (hS : Sents a w) (hl : 120 < len) :
    Calls Tryd.prog 10 #[.slice ad len cap, .int .i64 pc] w (TruePost w) := by
  have F := Lib.hid (pfirst a w hS)
  have t1 : decide (120 < (len : Int)) = true := by simp; omega
  clear hS hl
  go_enter Tryd.func10, Tryd.ntmps10
  go_wp2_with fail
  refine F.out.mono ?_
  rintro e w1 ⟨rfl, hb1⟩
  have HB := Lib.hid hb1
  clear hb1 F
  go_wp2_with fail
  go_ret
  exact ⟨rfl, HB.out⟩

/-- The world behind first, and the method's box. -/
def gbox (ad : Option Addr) (len cap : Nat) (w : World) : World := w.alloc (.cells #[.string ⟨#[]⟩, .string ⟨#[]⟩, .string ⟨#[]⟩, .slice ad len cap] 64)

theorem gbox_keep (ad : Option Addr) (len cap : Nat) (w w' : World) (h : Below (gbox ad len cap w).heap.size (gbox ad len cap w) w') : w'.cell? ⟨w.heap.size, 0, none⟩ = some (.string ⟨#[]⟩) ∧ w'.cell? ⟨w.heap.size, 1, none⟩ = some (.string ⟨#[]⟩) ∧ w'.cell? ⟨w.heap.size, 2, none⟩ = some (.string ⟨#[]⟩) ∧ w'.cell? ⟨w.heap.size, 3, none⟩ = some (.slice ad len cap) := by
  have hr := (h.block w.heap.size (by simp [gbox])).trans (heap_alloc_new w (.cells #[.string ⟨#[]⟩, .string ⟨#[]⟩, .string ⟨#[]⟩, .slice ad len cap] 64))
  exact ⟨(cell_of_row _ _ 0 _ _ (0, 0) hr).trans rfl, (cell_of_row _ _ 1 _ _ (0, 0) hr).trans rfl, (cell_of_row _ _ 2 _ _ (0, 0) hr).trans rfl, (cell_of_row _ _ 3 _ _ (0, 0) hr).trans rfl⟩

theorem goes_out (ad : Option Addr) (len cap : Nat) (pc : Int) (a : Nat → Addr) (w : World) (hS : Sents a w) (hl : len ≤ 120) (hk : ¬ (0 ≤ pc ∧ pc < len)) :
    Calls Tryd.prog 10 #[.slice ad len cap, .int .i64 pc] w (TruePost w) := by
  have F := Lib.hid (pfirst a w hS)
  have t1 : decide (120 < (len : Int)) = false := by simp; omega
  have HK := Lib.hid hk
  have t2 : decide (pc < 0) = true ∨ (decide (pc < 0) = false ∧ decide ((len : Int) ≤ pc) = true) := by
    by_cases h : pc < 0
    · exact .inl (by simpa using h)
    · exact .inr ⟨by simpa using h, by simp; omega⟩
  have HT := Lib.hid t2
  clear hS hl hk t2
  go_enter Tryd.func10, Tryd.ntmps10
  go_wp2_with fail
  refine F.out.mono ?_
  rintro e w1 ⟨rfl, hb1⟩
  have HB := Lib.hid hb1
  clear hb1 F
  have N1 := Lib.hid (nowhere ad len cap pc (gbox ad len cap w1) HK.out)
  have HB1 : Hid (Below w.heap.size w (gbox ad len cap w1)) := Lib.hid (HB.out.alloc HB.out.size _)
  go_wp2_with fail
  refine N1.out.mono ?_
  rintro e w2 ⟨nd, nl, rfl, hr, hb2⟩
  have hn0 : nl = 0 := by have := hr.len_eq; simp at this; omega
  subst hn0
  obtain ⟨m0, m1, m2, m3⟩ := gbox_keep ad len cap w1 w2 hb2
  have B2 := Lib.hid (noback ad len cap pc w2 HK.out)
  have HB2 : Hid (Below w.heap.size w w2) := Lib.hid (HB1.out.trans (hb2.mono HB1.out.size))
  clear hr hb2 N1 HB1
  go_wp2_with fail
  refine B2.out.mono ?_
  rintro e w3 ⟨rfl, hb3⟩
  have HB3 : Hid (Below w.heap.size w w3) := Lib.hid (HB2.out.trans (hb3.mono HB2.out.size))
  clear hb3 B2 HB2 m0 m1 m2 m3
  rcases HT.out with t2 | ⟨t2, t3⟩
  all_goals
    go_wp2_with fail
    go_ret
    exact ⟨rfl, HB3.out⟩

/-- What the last lines ask of what Next and Back answered. -/
theorem same_one {x : Int} {l : List Int} {ad : Option Addr} {n g : Nat} {w : World} (h : Row .i64 w ad n n l) (hl : l = [x]) (hc : w.heap[g]? = some (.cells #[.int .i64 x] 3 (0, 0))) :
    Calls Tryd.prog 28 #[.slice ad n n, .slice (some ⟨g, 0, none⟩) 1 1] w (TruePost w) := by
  subst hl
  have hn : n = 1 := by have := h.len_eq; simp at this; omega
  have hw := h.wf x (by simp)
  refine (same_ints ad (some ⟨g, 0, none⟩) n n 1 1 [x] [x] w h (row_one ((cell_of_row _ _ 0 _ _ (0, 0) hc).trans rfl) (Nat.le_refl _) (by unfold maxLen; omega) hw) (by omega)).mono ?_
  rintro e w' ⟨he, nq, rfl⟩
  exact ⟨by rw [he]; simp, below_drewN (Below.refl _ _) nq⟩

set_option maxHeartbeats 4000000 in
set_option maxRecDepth 100000 in
theorem goes_in (lb lo len cap k : Nat) (T A B N : Int) (a : Nat → Addr) (w : World) (hS : Sents a w) (h : At4 w lb lo k T A B N) (hk : k < len) (hl : len ≤ 120) (hA : (Lit.int .i64 A).wf = true) :
    Calls Tryd.prog 10 #[.slice (some ⟨lb, lo, none⟩) len cap, .int .i64 k] w (TruePost w) := by
  have F := Lib.hid (pfirst a w hS)
  have t1 : decide (120 < (len : Int)) = false := by simp; omega
  have t4 : decide ((len : Int) ≤ (k : Int)) = false := by simp; omega
  have t5 : decide (len ≤ k) = false := by simp; omega
  have H4 := Lib.hid h
  have HA := Lib.hid hA
  have hw := wf_i64 hA
  clear hS h hA
  go_enter Tryd.func10, Tryd.ntmps10
  go_wp2_with fail
  refine F.out.mono ?_
  rintro e w1 ⟨rfl, hb1⟩
  have HB := Lib.hid hb1
  clear hb1 F
  have HB1 : Hid (Below w.heap.size w (gbox (some ⟨lb, lo, none⟩) len cap w1)) := Lib.hid (HB.out.alloc HB.out.size _)
  have N1 := Lib.hid (next_in lb lo len cap k T A B N (gbox (some ⟨lb, lo, none⟩) len cap w1) (H4.out.below HB1.out) hk hl HA.out)
  go_wp2_with fail
  refine N1.out.mono ?_
  rintro e w2 ⟨nd, nl, rfl, hr, hb2⟩
  have HB2 : Hid (Below w.heap.size w w2) := Lib.hid (HB1.out.trans (hb2.mono HB1.out.size))
  obtain ⟨m0, m1, m2, m3⟩ := gbox_keep (some ⟨lb, lo, none⟩) len cap w1 w2 hb2
  have B2 := Lib.hid (back_in lb lo len cap k T A B N w2 (H4.out.below HB2.out) hk hl)
  have HR := Lib.hid hr
  clear hr hb2 N1 HB1
  go_wp2_with fail
  refine B2.out.mono ?_
  rintro e w3 ⟨rfl, hb3⟩
  have HB3 : Hid (Below w.heap.size w w3) := Lib.hid (HB2.out.trans (hb3.mono HB2.out.size))
  have hb4 : Below w.heap.size w (w3.alloc (.cells #[.int .i64 T, .int .i64 A, .int .i64 B, .int .i64 N] 51)) := HB3.out.alloc HB3.out.size _
  have HR3 := Lib.hid (Row_cells HR.out hb3)
  have hal := heap_alloc_new w3 (.cells #[.int .i64 T, .int .i64 A, .int .i64 B, .int .i64 N] 51)
  have HR4 := Lib.hid (Row_alloc HR3.out (.cells #[.int .i64 T, .int .i64 A, .int .i64 B, .int .i64 N] 51))
  obtain ⟨k0, k1, k2, k3⟩ := H4.out.below HB3.out
  have HB4 := Lib.hid hb4
  have HAL := Lib.hid hal
  clear hb3 hb4 hal B2 HB2 m0 m1 m2 m3 HR HR3
  obtain ⟨L, hL⟩ : ∃ L, nextL T A k = L := ⟨_, rfl⟩
  obtain ⟨v, hv⟩ : ∃ v, backB T A k = v := ⟨_, rfl⟩
  rw [hL] at HR4
  rw [hv]
  have HL := Lib.hid hL
  have HV := Lib.hid hv
  clear hL hv
  go_upto_region 10 with (fail)
  generalize (w3.alloc (.cells #[.int .i64 T, .int .i64 A, .int .i64 B, .int .i64 N] 51)) = w4 at *
  have i0 : w4.cell? ⟨w3.heap.size, 0, none⟩ = some (.int .i64 T) := (cell_of_row _ _ 0 _ _ (0, 0) HAL.out).trans rfl
  have i1 : w4.cell? ⟨w3.heap.size, 1, none⟩ = some (.int .i64 A) := (cell_of_row _ _ 1 _ _ (0, 0) HAL.out).trans rfl
  clear HAL k0 k1 k2 k3
  by_cases c33 : T = 33
  · subst c33
    have hL : L = [] := HL.out.symm
    have hv : v = false := by have := HV.out; simp [backB] at this; exact this
    subst hL hv
    have hn : nl = 0 := by have := HR4.out.len_eq; simp at this; omega
    subst hn
    go_wp2_with fail
    go_ret
    exact ⟨rfl, HB4.out⟩
  · have SO : Hid (∀ x : Int, L = [x] → Calls Tryd.prog 28 #[.slice nd nl nl, .slice (some ⟨w4.heap.size, 0, none⟩) 1 1] (w4.alloc (.cells #[.int .i64 x] 3)) (TruePost (w4.alloc (.cells #[.int .i64 x] 3)))) := Lib.hid fun x hx => same_one (Row_alloc HR4.out _) hx (heap_alloc_new w4 _)
    have BN : Hid (∀ x : Int, ∀ w5, Below (w4.alloc (.cells #[.int .i64 x] 3)).heap.size (w4.alloc (.cells #[.int .i64 x] 3)) w5 → Below w.heap.size w w5 ∧ w5.cell? ⟨w3.heap.size, 1, none⟩ = some (.int .i64 A)) := Lib.hid fun x w5 h5 => by
      have hb := HB4.out.alloc HB4.out.size (.cells #[.int .i64 x] 3)
      refine ⟨hb.trans (h5.mono hb.size), ?_⟩
      have hlt := World.block_lt_of_cell? w4 _ i1
      exact (h5.cell (p := ⟨w3.heap.size, 1, none⟩) (by simp; simp at hlt; omega)).trans ((((Below.refl w4.heap.size w4).alloc (Nat.le_refl _) _).cell (p := ⟨w3.heap.size, 1, none⟩) hlt).trans i1)
    have f33 : (T == 33) = false := by simpa using c33
    by_cases c22 : T = 22
    · subst c22
      have hL : L = [A] := HL.out.symm
      have td : decide (A ≤ (k : Int)) = v := by have := HV.out; simpa [backB] using this
      have SA := Lib.hid (SO.out A hL)
      clear c33 f33 SO
      go_wp2_with fail
      refine SA.out.mono ?_
      rintro e w5 ⟨rfl, hb5⟩
      obtain ⟨hb6, j1⟩ := BN.out A w5 hb5
      have HB6 := Lib.hid hb6
      clear hb5 hb6 SA BN
      go_wp2_with fail
      go_ret
      exact ⟨rfl, HB6.out⟩
    · by_cases c23 : T = 23
      · subst c23
        by_cases ce : A = (k : Int) + 1
        · have hL : L = [A] := by rw [← HL.out, ce]; simp [nextL]
          have hv : v = false := by have := HV.out; simp [backB] at this; rw [← this]; simp; omega
          subst hv
          have te : (A == (k : Int) + 1) = true := by simpa using ce
          have SA := Lib.hid (SO.out A hL)
          clear c33 f33 SO ce c22
          go_wp2_with fail
          refine SA.out.mono ?_
          rintro e w5 ⟨rfl, hb5⟩
          obtain ⟨hb6, j1⟩ := BN.out A w5 hb5
          have HB6 := Lib.hid hb6
          clear hb5 hb6 SA BN
          go_wp2_with fail
          go_ret
          exact ⟨rfl, HB6.out⟩
        · have te : (A == (k : Int) + 1) = false := by simpa using ce
          have td : decide (A ≤ (k : Int)) = v := by have := HV.out; simpa [backB] using this
          have hn : nl = 2 := by
            have h1 := HR4.out.len_eq
            rw [← HL.out] at h1
            unfold nextL at h1
            rw [if_neg (by omega), if_neg (by omega)] at h1
            split at h1
            · simp at h1; omega
            · split at h1
              · simp at h1; omega
              · exfalso; rename_i g1 g2; omega
          subst hn
          obtain ⟨gb, go, hnd, hc⟩ := Row_at HR4.out (by omega)
          subst hnd
          have n0 := hc 0 (by omega)
          have n1 := hc 1 (by omega)
          clear SO BN hc c22 c33 f33
          rw [← HL.out] at n0 n1
          rcases Int.lt_or_gt_of_ne ce with g1 | g1
          · have e : nextL 23 A k = [A, (k : Int) + 1] := by simp [nextL, g1]
            rw [e] at n0 n1
            simp only [List.getD_cons_zero, List.getD_cons_succ, Nat.add_zero] at n0 n1
            have tm : decide (A < (k : Int) + 1) = true := by simpa using g1
            clear e ce
            go_wp2_with fail
            go_quiet (fail)
            all_goals
              go_wp2_with fail
              go_ret
              first
                | exact ⟨rfl, below_drewN HB4.out _⟩
                | (trace_state; exact ⟨by simp [td, g1, tm]; omega, below_drewN HB4.out _⟩)
                | sorry
          · have e : nextL 23 A k = [(k : Int) + 1, A] := by
              unfold nextL
              rw [if_neg (by omega), if_neg (by omega), if_neg (by omega), if_pos ⟨rfl, by omega⟩]
            rw [e] at n0 n1
            simp only [List.getD_cons_zero, List.getD_cons_succ, Nat.add_zero] at n0 n1
            have tm : decide (A < (k : Int) + 1) = false := by simp; omega
            clear e ce
            go_wp2_with fail
            go_quiet (fail)
            all_goals
              go_wp2_with fail
              go_ret
              first
                | exact ⟨rfl, below_drewN HB4.out _⟩
                | (trace_state; exact ⟨by simp [td, g1, tm]; omega, below_drewN HB4.out _⟩)
                | sorry
      · have hL : L = [(k : Int) + 1] := by rw [← HL.out]; simp [nextL, c33, c22, c23]
        have hv : v = false := by have := HV.out; rw [← this]; simp [backB, c22, c23]
        subst hv
        have f22 : (T == 22) = false := by simpa using c22
        have f23 : (T == 23) = false := by simpa using c23
        have SA := Lib.hid (SO.out _ hL)
        clear c33 c22 c23 SO
        go_wp2_with fail
        refine SA.out.mono ?_
        rintro e w5 ⟨rfl, hb5⟩
        obtain ⟨hb6, j1⟩ := BN.out _ w5 hb5
        have HB6 := Lib.hid hb6
        clear hb5 hb6 SA BN
        go_wp2_with fail
        refine (names_any _).mono ?_
        rintro e w7 ⟨g, rfl, hb7⟩
        have HB7 := Lib.hid (HB6.out.trans (hb7.mono HB6.out.size))
        clear hb7 HB6
        go_wp2_with fail
        go_ret
        exact ⟨rfl, HB7.out⟩

end Go.Proofs.YtpfpieakemnadaaDoor

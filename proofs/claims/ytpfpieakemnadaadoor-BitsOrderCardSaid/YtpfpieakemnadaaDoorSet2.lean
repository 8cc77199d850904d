/-
  The set's methods that take another set, each by a contract: Clone, Join, Less, Same.
-/
import Derived.Test.YtpfpieakemnadaaDoorSetF
namespace Go.Proofs.YtpfpieakemnadaaDoor
open Go.RowKit

/-! ### Same -/

theorem word_in {B s r n : Nat} {ws : List Nat} (k : Nat) (w : World) (h : SetW B s r n ws w) (hk : k < 1048576) :
    Calls Tryd.prog 60 #[.pointer (some ⟨s, 0, none⟩), .int .i64 k] w fun e w' => e = .returned (.int .u64 (ws.getD k 0 : Nat)) ∧ w = w' := by
  obtain ⟨c0, c1⟩ := h.cells
  have hn := h.nle
  have hl := h.len
  have H := Lib.hid h
  clear h c0
  by_cases hlt : k < ws.length
  · have cw := H.out.cell k hlt
    have hq : ws.length ≤ 16384 := by omega
    generalize ws.getD k 0 = x at *
    generalize ws.length = m at *
    have t1 : decide (k < m) = true := by simpa using hlt
    clear hl
    go_enter Tryd.func60, Tryd.ntmps60
    go_wp2
    go_ret
    exact ⟨rfl, rfl⟩
  · have e0 : ws.getD k 0 = 0 := by simp [List.getD, List.getElem?_eq_none (Nat.le_of_not_lt hlt)]
    rw [e0]
    have hq : ws.length ≤ 16384 := by omega
    generalize ws.length = m at *
    have t1 : decide (k < m) = false := by simpa using hlt
    clear hl
    go_enter Tryd.func60, Tryd.ntmps60
    go_wp2
    go_ret
    exact ⟨rfl, rfl⟩

def SameSetPost (ws vs : List Nat) (w : World) (e : Ending) (w' : World) : Prop :=
  ∃ b : Bool, e = .returned (.bool b) ∧ (b = true ↔ ∀ k, ws.getD k 0 = vs.getD k 0) ∧ ∃ q, w' = w.drewN q

theorem same_set {B s r n C u v m : Nat} {ws vs : List Nat} (w : World) (h1 : SetW B s r n ws w) (h2 : SetW C u v m vs w) :
    Calls Tryd.prog 27 #[.pointer (some ⟨s, 0, none⟩), .pointer (some ⟨u, 0, none⟩)] w (SameSetPost ws vs w) := by
  obtain ⟨c0, c1⟩ := h1.cells
  obtain ⟨d0, d1⟩ := h2.cells
  have hq1 : ws.length ≤ 16384 := by have := h1.len; have := h1.nle; omega
  have hq2 : vs.length ≤ 16384 := by have := h2.len; have := h2.nle; omega
  have H1 := Lib.hid h1
  have H2 := Lib.hid h2
  clear h1 h2 c0 d0
  generalize e1 : ws.length = p at *
  generalize e2 : vs.length = q at *
  have E1 := Lib.hid e1
  have E2 := Lib.hid e2
  clear e1 e2
  go_enter Tryd.func27, Tryd.ntmps27
  go_wp2
  go_quiet (fail)
  all_goals go_wp2_with fail
  all_goals
    first
      | (have hP : Hid (ws.length ≤ q) := Lib.hid (by have := E1.out; omega)
         have hQ : Hid (vs.length ≤ q) := Lib.hid (by have := E2.out; omega)
         have hM := hq2
         generalize q = M at *)
      | (have hP : Hid (ws.length ≤ p) := Lib.hid (by have := E1.out; omega)
         have hQ : Hid (vs.length ≤ p) := Lib.hid (by have := E2.out; omega)
         have hM := hq1
         generalize p = M at *)
    have K1 : Hid (SetW B s r n ws (w.drewN nq)) := Lib.hid (H1.out.kept rfl rfl)
    have K2 : Hid (SetW C u v m vs (w.drewN nq)) := Lib.hid (H2.out.kept rfl rfl)
    clear c1 d1 hq1 hq2 H1 H2
    go_loop [17] (fun si => ∃ k : Nat, k ≤ M ∧ si = .int .i64 k ∧ ∀ j, j < k → ws.getD j 0 = vs.getD j 0) (fun si => M - (intOf si).toNat)
    case atStart => exact ⟨0, Nat.zero_le _, rfl, fun j hj => absurd hj (Nat.not_lt_zero j)⟩
    case round =>
      obtain ⟨k, hk, rfl, hsm⟩ := hrel
      have HSM := Lib.hid hsm
      clear hsm
      by_cases hlt : k < M
      · have t1 : decide (k < M) = true := by simpa using hlt
        have hk2 : k < 1048576 := by omega
        have W1 := word_in k _ K1.out hk2
        have W2 := word_in k _ K2.out hk2
        generalize hx : ws.getD k 0 = x at W1
        generalize hy : vs.getD k 0 = y at W2
        have HX := Lib.hid hx
        have HY := Lib.hid hy
        have W1 := Lib.hid W1
        have W2 := Lib.hid W2
        clear hx hy
        go_wp2_with fail
        refine W1.out.mono ?_
        rintro e w' ⟨rfl, rfl⟩
        go_wp2_with fail
        refine W2.out.mono ?_
        rintro e w' ⟨rfl, rfl⟩
        by_cases hxy : x = y
        · subst hxy
          have t2 : ((x : Int) != (x : Int)) = false := by simp
          go_wp2_with fail
          go_round
          case rel =>
            refine ⟨k + 1, by omega, by go_num, fun j hj => ?_⟩
            by_cases e : j = k
            · rw [e, HX.out, HY.out]
            · exact HSM.out j (by omega)
          case measure => simp [intOf]; omega
        · have HXY := Lib.hid hxy
          have t2 : ((x : Int) != (y : Int)) = true := by simp only [bne_iff_ne, ne_eq]; omega
          clear hxy
          go_wp2_with fail
          go_ret
          refine ⟨false, rfl, ⟨fun h => (by cases h), fun h => ?_⟩, nq, rfl⟩
          have := h k
          rw [HX.out, HY.out] at this
          exact absurd this HXY.out
      · obtain rfl : k = M := by omega
        have t1 : decide (k < k) = false := by simp
        go_wp2_with fail
        go_ret
        refine ⟨true, rfl, ⟨fun _ j => ?_, fun _ => rfl⟩, nq, rfl⟩
        by_cases e : j < k
        · exact HSM.out j e
        · have a1 : ws.getD j 0 = 0 := by have := hP.out; simp [List.getD, List.getElem?_eq_none (show ws.length ≤ j by omega)]
          have a2 : vs.getD j 0 = 0 := by have := hQ.out; simp [List.getD, List.getElem?_eq_none (show vs.length ≤ j by omega)]
          rw [a1, a2]

/-! ### Less -/

theorem bitAt_put (ws : List Nat) (k y j : Nat) (hk : k < ws.length) : bitAt (ws.set k y) j = if j / 64 = k then y.testBit (j % 64) else bitAt ws j := by
  unfold bitAt
  by_cases h : j / 64 = k
  · rw [if_pos h, h, getD_set_same _ hk]
  · rw [if_neg h, getD_set_other _ h]

theorem bitAt_over {ws : List Nat} {j : Nat} (h : ws.length ≤ j / 64) : bitAt ws j = false := by
  unfold bitAt
  have : ws.getD (j / 64) 0 = 0 := by simp [List.getD, List.getElem?_eq_none h]
  rw [this, Nat.zero_testBit]

theorem andNot_bit (x v b : Nat) (hv : v < 18446744073709551616) (hb : b < 64) : (x &&& (18446744073709551615 - v)).testBit b = (x.testBit b && !v.testBit b) := by
  have e : 18446744073709551615 - v = 2 ^ 64 - (v + 1) := by omega
  rw [Nat.testBit_and, e, Nat.testBit_two_pow_sub_succ (show v < 2 ^ 64 from hv)]
  simp [hb]

def LessPost (B s r n : Nat) (ws vs : List Nat) (w : World) (e : Ending) (w' : World) : Prop :=
  e = .returned (.tuple #[]) ∧ (∃ xs, SetW B s r n xs w' ∧ ∀ j, bitAt xs j = (bitAt ws j && !bitAt vs j)) ∧ w.grownBy w' (some r)

def LessRel (B s r n C u v m : Nat) (ws vs : List Nat) (w : World) (M : Nat) (si : Value) (wr : World) : Prop :=
  ∃ (k : Nat) (xs : List Nat), k ≤ M ∧ si = .int .i64 k ∧ xs.length = ws.length ∧ SetW B s r n xs wr ∧ SetW C u v m vs wr ∧ (∀ j, bitAt xs j = (bitAt ws j && !(decide (j / 64 < k) && bitAt vs j))) ∧ w.grownBy wr (some r)

theorem less_word {B s r n C u v m : Nat} {ws vs xs : List Nat} {w wr : World} {M k : Nat} (hk : k < M) (hkl : k < xs.length) (hl : xs.length = ws.length) (h1 : SetW B s r n xs wr) (h2 : SetW C u v m vs wr) (hru : r ≠ u) (hrv : r ≠ v)
    (hb : ∀ j, bitAt xs j = (bitAt ws j && !(decide (j / 64 < k) && bitAt vs j))) (hg : w.grownBy wr (some r)) (y : Nat) (hy : y = xs.getD k 0 &&& (18446744073709551615 - vs.getD k 0)) :
    LessRel B s r n C u v m ws vs w M (.int .i64 ((k : Int) + 1)) (wr.setCell ⟨r, k, none⟩ (.int .u64 (y : Nat))).drew := by
  have hv := h2.word_lt k
  have hy64 : y < 2 ^ 64 := by rw [hy]; exact Nat.lt_of_le_of_lt Nat.and_le_left (h1.word_lt k)
  have hbit : ∀ j, bitAt (xs.set k y) j = (bitAt ws j && !(decide (j / 64 < k + 1) && bitAt vs j)) := fun j => by
    rw [bitAt_put _ _ _ _ hkl]
    by_cases e : j / 64 = k
    · rw [if_pos e, hy, andNot_bit _ _ _ hv (Nat.mod_lt _ (by decide))]
      have a1 : (xs.getD k 0).testBit (j % 64) = bitAt xs j := by unfold bitAt; rw [e]
      have a2 : (vs.getD k 0).testBit (j % 64) = bitAt vs j := by unfold bitAt; rw [e]
      rw [a1, a2, hb]
      have : ¬ j / 64 < k := by omega
      have : j / 64 < k + 1 := by omega
      simp [*]
    · rw [if_neg e, hb]
      by_cases h : j / 64 < k
      · have : j / 64 < k + 1 := by omega
        simp [*]
      · have : ¬ j / 64 < k + 1 := by omega
        simp [*]
  refine ⟨k + 1, xs.set k y, by omega, by simp, by simpa using hl, SetW.kept (w := wr.setCell ⟨r, k, none⟩ (.int .u64 (y : Nat))) (h1.stored k y hy64 fun j hj => ?_) rfl rfl, SetW.kept h2 (Below.heap_setCell wr ⟨r, k, none⟩ _ u (Ne.symm hru)) (Below.heap_setCell wr ⟨r, k, none⟩ _ v (Ne.symm hrv)), hbit, ?_⟩
  · rw [hbit]
    have h0 : bitAt xs j = false := h1.top j hj
    rw [hb] at h0
    by_cases h : j / 64 < k
    · have : j / 64 < k + 1 := by omega
      simpa [*] using h0
    · by_cases hw : bitAt ws j = true
      · simp [hw, h] at h0
      · simp [hw]
  · have k1 := grown_store wr r k (.int .u64 (y : Nat))
    exact ⟨k1.os.trans hg.os, k1.tape.trans hg.tape, k1.output.trans hg.output, Nat.le_trans hg.size k1.size, fun i hi hne => (k1.block i (by have := hg.size; omega) hne).trans (hg.block i hi hne)⟩

set_option maxHeartbeats 4000000 in
theorem less_set {B s r n C u v m : Nat} {ws vs : List Nat} (w : World) (h1 : SetW B s r n ws w) (h2 : SetW C u v m vs w) (hru : r ≠ u) (hrv : r ≠ v) :
    Calls Tryd.prog 25 #[.pointer (some ⟨s, 0, none⟩), .pointer (some ⟨u, 0, none⟩)] w (LessPost B s r n ws vs w) := by
  obtain ⟨c0, c1⟩ := h1.cells
  obtain ⟨d0, d1⟩ := h2.cells
  have hq1 : ws.length ≤ 16384 := by have := h1.len; have := h1.nle; omega
  have hq2 : vs.length ≤ 16384 := by have := h2.len; have := h2.nle; omega
  have H1 := Lib.hid h1
  have H2 := Lib.hid h2
  clear h1 h2 c0 d0
  generalize e1 : ws.length = p at *
  generalize e2 : vs.length = q at *
  have E1 := Lib.hid e1
  have E2 := Lib.hid e2
  clear e1 e2
  go_enter Tryd.func25, Tryd.ntmps25
  go_wp2
  go_quiet (fail)
  all_goals go_wp2_with fail
  all_goals
    have hmin : Hid (p ≤ q ∨ q ≤ p) := Lib.hid (Nat.le_total p q)
    first
      | (have hP : Hid (q ≤ ws.length) := Lib.hid (by have := E1.out; omega)
         have hQ : Hid (q ≤ vs.length) := Lib.hid (by have := E2.out; omega)
         have hE : Hid (q = ws.length ∨ q = vs.length) := Lib.hid (.inr E2.out.symm)
         have hM := hq2
         generalize q = M at *)
      | (have hP : Hid (p ≤ ws.length) := Lib.hid (by have := E1.out; omega)
         have hQ : Hid (p ≤ vs.length) := Lib.hid (by have := E2.out; omega)
         have hE : Hid (p = ws.length ∨ p = vs.length) := Lib.hid (.inl E1.out.symm)
         have hM := hq1
         generalize p = M at *)
    have R0 : Hid (LessRel B s r n C u v m ws vs w M (.int .i64 ((0 : Nat) : Int)) (w.drewN nq)) := Lib.hid ⟨0, ws, Nat.zero_le _, rfl, rfl, H1.out.kept rfl rfl, H2.out.kept rfl rfl, fun j => by simp, ⟨rfl, rfl, rfl, Nat.le_refl _, fun _ _ _ => rfl⟩⟩
    clear c1 d1 hq1 hq2 H1 H2
    go_loopw [16] (fun si wr => LessRel B s r n C u v m ws vs w M si wr) (fun si _ => M - (intOf si).toNat)
    case atStart => exact R0.out
    case round =>
      obtain ⟨k, xs, hk, rfl, hxl, hs, ht, hb, hg⟩ := hrel
      clear R0
      have HS := Lib.hid hs
      have HT := Lib.hid ht
      have HB := Lib.hid hb
      have HG := Lib.hid hg
      have HXL := Lib.hid hxl
      clear hs ht hb hg hxl
      by_cases hlt : k < M
      · have t1 : decide (k < M) = true := by simpa using hlt
        have hkx : k < xs.length := by have := HXL.out; have := hP.out; omega
        have hkv : k < vs.length := by have := hQ.out; omega
        have s1 := HS.out.cells.2
        have s2 := HT.out.cells.2
        have cw := HS.out.cell k hkx
        have cv := HT.out.cell k hkv
        have cf := HS.out.frozen k
        have hst := less_word (s := s) (n := n) (C := C) (m := m) (ws := ws) (w := w) (M := M) hlt hkx HXL.out HS.out HT.out hru hrv HB.out HG.out _ rfl
        have hor := u64_andNot_nat (xs.getD k 0) (vs.getD k 0) (HS.out.word_lt k) (HT.out.word_lt k)
        have hx1 : xs.length ≤ 16385 := by have := HS.out.len; have := HS.out.nle; omega
        have hv1 : vs.length ≤ 16385 := by have := HT.out.len; have := HT.out.nle; omega
        generalize xs.length = p1 at hkx hx1 s1
        generalize vs.length = q1 at hkv hv1 s2
        generalize (xs.getD k 0 &&& (18446744073709551615 - vs.getD k 0)) = z at *
        generalize xs.getD k 0 = x at *
        generalize vs.getD k 0 = y at *
        have HST := Lib.hid hst
        clear hst
        go_wp2_with fail
        go_region_law (fail)
        all_goals go_wp2_with fail
        all_goals
          go_roundw
          case rel => first | exact HST.out | (rw [← hor] at HST; exact HST.out)
          case measure => simp [intOf]; omega
      · obtain rfl : k = M := by omega
        have t1 : decide (k < k) = false := by simp
        go_wp2_with fail
        refine bodyPost_end (v := .tuple #[]) (by simp [results, Tryd.results25, go_sem]) rfl ⟨rfl, ⟨xs, HS.out, fun j => ?_⟩, HG.out⟩
        rw [HB.out]
        by_cases h : j / 64 < k
        · simp [h]
        · rcases hE.out with e | e
          · have : bitAt ws j = false := bitAt_over (by omega)
            simp [this]
          · have : bitAt vs j = false := bitAt_over (by omega)
            simp [this]

end Go.Proofs.YtpfpieakemnadaaDoor

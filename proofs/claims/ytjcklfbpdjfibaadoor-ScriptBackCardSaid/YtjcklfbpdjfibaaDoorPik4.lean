/-
  The reference's own May of a list of picks.
-/
import Derived.Test.YtjcklfbpdjfibaaDoorPik0
import Derived.Test.YtjcklfbpdjfibaaDoorPlc
import Derived.IntWalk
namespace Go.Proofs.YtjcklfbpdjfibaaDoor
open Go.RowKit

def RefMayP (n len : Nat) (w : World) (e : Ending) (w' : World) : Prop :=
  ∃ (C : Int) (sa : Option Addr) (sn sc : Nat), e = .returned (.agg #[.int .i64 C, .slice sa sn sc]) ∧ (n = len → C = 0) ∧ (n < len → C ≠ 0) ∧ Below w.heap.size w w'

def boxW (w : World) : World := w.alloc (Obj.cells #[Value.int IntKind.i64 0, Value.slice none 0 0] 53)

def RMRel (w : World) (n : Nat) (si : Value) (wr : World) : Prop := ∃ k : Nat, k ≤ n ∧ si = .int .i64 k ∧ Below (boxW w).heap.size (boxW w) wr

theorem none_any (w : World) : Calls Tryd.prog 92 #[] w (PlainPost 0 w) := by
  go_enter Tryd.func92, Tryd.ntmps92
  go_wp2
  exact bodyPost_ret (v := .agg #[.int .i64 0, .slice none 0 0]) (by simp [results, Tryd.results92, go_sem]) rfl ⟨rfl, (Below.refl _ _).alloc (Nat.le_refl _) _⟩

theorem rm_below {w wr : World} (h : Below (boxW w).heap.size (boxW w) wr) : Below w.heap.size w wr := ((Below.refl _ _).alloc (Nat.le_refl _) _).trans (h.mono (by simp [boxW]))

theorem pickC_cases {T K A B H : Int} : (pickC T K A B H = 2 ∧ (K < 1 ∨ 5 < K)) ∨ (pickC T K A B H = 3 ∧ 1 ≤ K ∧ K ≤ 5 ∧ (T < 0 ∨ 1048576 < T ∨ A < 0 ∨ mostA K < A ∨ B < 0 ∨ mostB K < B)) ∨
    ((pickC T K A B H = 5 ∧ T < H ∨ pickC T K A B H = 0 ∧ H ≤ T) ∧ 1 ≤ K ∧ K ≤ 5 ∧ 0 ≤ T ∧ T ≤ 1048576 ∧ 0 ≤ A ∧ A ≤ mostA K ∧ 0 ≤ B ∧ B ≤ mostB K) := by
  unfold pickC
  split
  · exact .inl ⟨rfl, by assumption⟩
  · split
    · exact .inr (.inl ⟨rfl, by omega, by omega, by assumption⟩)
    · split
      · exact .inr (.inr ⟨.inl ⟨rfl, by assumption⟩, by omega⟩)
      · exact .inr (.inr ⟨.inr ⟨rfl, by omega⟩, by omega⟩)

theorem most_cases (K : Int) : ((K == 3) = true ∧ mostA K = 11 ∧ mostB K = 2047) ∨ ((K == 3) = false ∧ (K == 5) = true ∧ mostA K = 0 ∧ mostB K = 2047) ∨ ((K == 3) = false ∧ (K == 5) = false ∧ mostA K = 0 ∧ mostB K = 0) := by
  by_cases h3 : K = 3
  · subst h3; exact .inl ⟨rfl, rfl, rfl⟩
  · by_cases h5 : K = 5
    · subst h5; exact .inr (.inl ⟨rfl, rfl, rfl, rfl⟩)
    · exact .inr (.inr ⟨by simpa using h3, by simpa using h5, by simp [mostA, h3], by simp [mostB, h3, h5]⟩)

set_option maxHeartbeats 8000000 in
set_option maxRecDepth 100000 in
theorem ref_may (ad : Option Addr) (len cap : Nat) (gv : Nat → Nat → Int) (n : Nat) (w : World) (hp : Picks w ad len cap gv) (h400 : len ≤ 400) (hn : n ≤ len) (hok : ∀ i, i < n → codeAt gv i = 0) (hbad : n < len → codeAt gv n ≠ 0) :
    Calls Tryd.prog 74 #[.slice ad len cap] w (RefMayP n len w) := by
  have HP := Lib.hid hp
  have HOK := Lib.hid hok
  have HBAD := Lib.hid hbad
  clear hp hok hbad
  have d1 : decide ((400 : Int) < (len : Int)) = false := by simp; omega
  have R0 : Hid (RMRel w n (.int .i64 ((0 : Nat) : Int)) (boxW w)) := Lib.hid ⟨0, Nat.zero_le _, rfl, Below.refl _ _⟩
  go_enter Tryd.func74, Tryd.ntmps74
  go_wp2_with fail
  go_loopw [3] (fun si wr => RMRel w n si wr) (fun si _ => len - (intOf si).toNat)
  case atStart => exact R0.out
  case round =>
    obtain ⟨k, hk, rfl, hb⟩ := hrel
    clear R0
    have HB := Lib.hid hb
    clear hb
    by_cases hlt : k < len
    · have t1 : decide (k < len) = true := by simpa using hlt
      obtain ⟨lb, lo, rfl, hlb, hc⟩ := Picks_at HP.out (by omega)
      have hcell : ∀ i j, i < len → j < 4 → wr.cell? ⟨lb, lo + (i * 4 + j), none⟩ = some (.int .i64 (gv i j)) := fun i j hi hj =>
        ((rm_below HB.out).cell (p := ⟨lb, lo + (i * 4 + j), none⟩) hlb).trans (hc i j hi hj)
      have k0 := hcell k 0 hlt (by omega)
      have k1 := hcell k 1 hlt (by omega)
      have k2 := hcell k 2 hlt (by omega)
      have k3 := hcell k 3 hlt (by omega)
      rw [Nat.add_zero] at k0
      rw [← Nat.add_assoc] at k1 k2 k3
      have hcd : codeAt gv k = pickC (gv k 0) (gv k 1) (gv k 2) (gv k 3) (aheadOf gv k) := rfl
      have hah : (0 < k → ∃ j, k = j + 1 ∧ wr.cell? ⟨lb, lo + j * 4, none⟩ = some (.int .i64 (aheadOf gv k))) ∧ (k = 0 → aheadOf gv k = 0) := by
        refine ⟨fun h0 => ?_, fun h0 => by subst h0; rfl⟩
        obtain ⟨j, rfl⟩ : ∃ j, k = j + 1 := ⟨k - 1, by omega⟩
        have := hcell j 0 (by omega) (by omega)
        rw [Nat.add_zero] at this
        exact ⟨j, rfl, this⟩
      clear hcell hc hlb
      generalize aheadOf gv k = H at *
      generalize gv k 0 = T at *
      generalize gv k 1 = K at *
      generalize gv k 2 = A at *
      generalize gv k 3 = B at *
      have hW : Below (boxW w).heap.size (boxW w) (wr.alloc (Obj.cells #[.int .i64 T, .int .i64 K, .int .i64 A, .int .i64 B] 107)) := HB.out.alloc HB.out.size _
      have HW := Lib.hid hW
      clear hW
      rcases pickC_cases (T := T) (K := K) (A := A) (B := B) (H := H) with ⟨h2, hK⟩ | ⟨h3, hK1, hK2, hD⟩ | ⟨hC, hK1, hK2, hT1, hT2, hA1, hA2, hB1, hB2⟩
      · have hnk : ¬ k < n := fun h => by have := HOK.out k h; omega
        have HNK := Lib.hid (show n < len by omega)
        clear hcd hah hnk h2
        rcases hK with hK | hK
        · have t2 : decide (K < 1) = true := by simpa using hK
          clear hK
          go_wp2_with fail
          refine (placed_any 102 _ _ (by decide)).mono ?_
          rintro e w2 ⟨g, rfl, hc6, hb6⟩
          have hbx : Below (boxW w).heap.size (boxW w) w2 := HW.out.trans (hb6.mono HW.out.size)
          obtain ⟨f0, f1, g0, g1, hsz⟩ := boxed w 53 hbx
          have HX := Lib.hid (rm_below hbx)
          clear hb6 hbx hc6
          go_wp2_with fail
          exact bodyPost_ret (v := .agg #[.int .i64 102, .slice (some ⟨g, 0, none⟩) 1 1]) (by simp [results, Tryd.results74, go_sem, f0, f1]) rfl ⟨102, _, _, _, rfl, fun h => by have := HNK.out; omega, fun _ => by decide, (HX.out.setCell (Nat.le_refl _) _).setCell (Nat.le_refl _) _⟩
        · have t2 : decide (K < 1) = false := by simp; omega
          have t3 : decide (5 < K) = true := by simpa using hK
          clear hK
          go_wp2_with fail
          refine (placed_any 102 _ _ (by decide)).mono ?_
          rintro e w2 ⟨g, rfl, hc6, hb6⟩
          have hbx : Below (boxW w).heap.size (boxW w) w2 := HW.out.trans (hb6.mono HW.out.size)
          obtain ⟨f0, f1, g0, g1, hsz⟩ := boxed w 53 hbx
          have HX := Lib.hid (rm_below hbx)
          clear hb6 hbx hc6
          go_wp2_with fail
          exact bodyPost_ret (v := .agg #[.int .i64 102, .slice (some ⟨g, 0, none⟩) 1 1]) (by simp [results, Tryd.results74, go_sem, f0, f1]) rfl ⟨102, _, _, _, rfl, fun h => by have := HNK.out; omega, fun _ => by decide, (HX.out.setCell (Nat.le_refl _) _).setCell (Nat.le_refl _) _⟩
      · have hnk : ¬ k < n := fun h => by have := HOK.out k h; omega
        have HNK := Lib.hid (show n < len by omega)
        have t2 : decide (K < 1) = false := by simp; omega
        have t3 : decide (5 < K) = false := by simp; omega
        clear hcd hah hnk h3 hK1 hK2
        rcases most_cases K with ⟨t4, hmA, hmB⟩ | ⟨t4, t5, hmA, hmB⟩ | ⟨t4, t5, hmA, hmB⟩
        all_goals
          rw [hmA, hmB] at hD
          have HD := Lib.hid hD
          clear hmA hmB hD
          go_wp2_with fail
        all_goals first
          | (exfalso; have := HD.out; omega)
          | (refine (placed_any 103 _ _ (by decide)).mono ?_
             rintro e w2 ⟨g, rfl, hc6, hb6⟩
             have hbx : Below (boxW w).heap.size (boxW w) w2 := HW.out.trans (hb6.mono HW.out.size)
             obtain ⟨f0, f1, g0, g1, hsz⟩ := boxed w 53 hbx
             have HX := Lib.hid (rm_below hbx)
             clear hb6 hbx hc6
             go_wp2_with fail
             exact bodyPost_ret (v := .agg #[.int .i64 103, .slice (some ⟨g, 0, none⟩) 1 1]) (by simp [results, Tryd.results74, go_sem, f0, f1]) rfl ⟨103, _, _, _, rfl, fun h => by have := HNK.out; omega, fun _ => by decide, (HX.out.setCell (Nat.le_refl _) _).setCell (Nat.le_refl _) _⟩)
      · have t2 : decide (K < 1) = false := by simp; omega
        have t3 : decide (5 < K) = false := by simp; omega
        have t6 : decide (T < 0) = false := by simp; omega
        have t7 : decide (1048576 < T) = false := by simp; omega
        have t8 : decide (A < 0) = false := by simp; omega
        have t9 : decide (B < 0) = false := by simp; omega
        clear hK1 hK2 hT2 hA1 hB1
        by_cases hk0 : 0 < k
        · obtain ⟨j, hj, cJ⟩ := hah.1 hk0
          have u0 : decide (0 < k) = true := by simpa using hk0
          have a4 : IntKind.i64.wrap ((k : Int) - 1) = (j : Int) := by rw [IntWalk.i64_in _ (by omega)]; omega
          have hjl : j < len := by omega
          have hlb : lb < wr.heap.size := World.block_lt_of_cell? wr _ cJ
          have cJ2 : (wr.alloc (Obj.cells #[.int .i64 T, .int .i64 K, .int .i64 A, .int .i64 B] 107)).cell? ⟨lb, lo + j * 4, none⟩ = some (.int .i64 H) := (((Below.refl wr.heap.size wr).alloc (Nat.le_refl _) _).cell (p := ⟨lb, lo + j * 4, none⟩) hlb).trans cJ
          have HJ := Lib.hid hj
          have HT1 := Lib.hid hT1
          clear hah hj hk0 cJ hT1
          rcases hC with ⟨h5, hlt2⟩ | ⟨h0, hle⟩
          · have hnk : ¬ k < n := fun h => by have := HOK.out k h; omega
            have HNK := Lib.hid (show n < len by omega)
            have u1 : decide (T < H) = true := by simpa using hlt2
            clear hcd hnk h5 hlt2
            rcases most_cases K with ⟨t4, hmA, hmB⟩ | ⟨t4, t5, hmA, hmB⟩ | ⟨t4, t5, hmA, hmB⟩
            all_goals
              rw [hmA] at hA2
              rw [hmB] at hB2
              clear hmA hmB
              go_wp2_with fail
            all_goals go_quiet (fail)
            all_goals go_wp2_with fail
            all_goals
              refine (placed_any 105 _ _ (by decide)).mono ?_
              rintro e w2 ⟨g, rfl, hc6, hb6⟩
              have hbx : Below (boxW w).heap.size (boxW w) w2 := (below_drewN HW.out nq).trans (hb6.mono HW.out.size)
              obtain ⟨f0, f1, g0, g1, hsz⟩ := boxed w 53 hbx
              have HX := Lib.hid (rm_below hbx)
              clear hb6 hbx hc6
              go_wp2_with fail
              exact bodyPost_ret (v := .agg #[.int .i64 105, .slice (some ⟨g, 0, none⟩) 1 1]) (by simp [results, Tryd.results74, go_sem, f0, f1]) rfl ⟨105, _, _, _, rfl, fun h => by have := HNK.out; omega, fun _ => by decide, (HX.out.setCell (Nat.le_refl _) _).setCell (Nat.le_refl _) _⟩
          · have hkn : k < n := by
              rcases Nat.lt_or_ge k n with h | h
              · exact h
              · obtain rfl : k = n := by omega
                exact absurd (hcd.trans h0) (HBAD.out hlt)
            have HKN := Lib.hid hkn
            have u1 : decide (T < H) = false := by simp; omega
            clear hcd hkn h0 hle
            rcases most_cases K with ⟨t4, hmA, hmB⟩ | ⟨t4, t5, hmA, hmB⟩ | ⟨t4, t5, hmA, hmB⟩
            all_goals
              rw [hmA] at hA2
              rw [hmB] at hB2
              clear hmA hmB
              go_wp2_with fail
            all_goals go_quiet (fail)
            all_goals go_wp2_with fail
            all_goals
              go_roundw
              case rel => exact ⟨k + 1, HKN.out, by go_num, below_drewN HW.out nq⟩
              case measure => simp [intOf]; omega
        · have u0 : decide (0 < k) = false := by simpa using hk0
          have hz := hah.2 (by omega)
          rcases hC with ⟨h5, hlt2⟩ | ⟨h0, hle⟩
          · omega
          · have hkn : k < n := by
              rcases Nat.lt_or_ge k n with h | h
              · exact h
              · obtain rfl : k = n := by omega
                exact absurd (hcd.trans h0) (HBAD.out hlt)
            have HKN := Lib.hid hkn
            clear hcd hkn h0 hle hah hz hk0 hT1
            rcases most_cases K with ⟨t4, hmA, hmB⟩ | ⟨t4, t5, hmA, hmB⟩ | ⟨t4, t5, hmA, hmB⟩
            all_goals
              rw [hmA] at hA2
              rw [hmB] at hB2
              clear hmA hmB
              go_wp2_with fail
            all_goals go_quiet (fail)
            all_goals go_wp2_with fail
            all_goals
              go_roundw
              case rel => exact ⟨k + 1, HKN.out, by go_num, below_drewN HW.out nq⟩
              case measure => simp [intOf]; omega
    · have t1 : decide (k < len) = false := by simpa using hlt
      obtain rfl : n = len := by omega
      have HB2 := Lib.hid (rm_below HB.out)
      go_wp2_with fail
      refine (none_any _).mono ?_
      rintro e w2 ⟨rfl, hb2⟩
      have hbx : Below (boxW w).heap.size (boxW w) w2 := HB.out.trans (hb2.mono HB.out.size)
      obtain ⟨f0, f1, g0, g1, hsz⟩ := boxed w 53 hbx
      have HX := Lib.hid (rm_below hbx)
      clear hb2 hbx
      go_wp2_with fail
      exact bodyPost_ret (v := .agg #[.int .i64 0, .slice none 0 0]) (by simp [results, Tryd.results74, go_sem, f0, f1]) rfl ⟨0, _, _, _, rfl, fun _ => rfl, fun h => absurd h (Nat.lt_irrefl _), (HX.out.setCell (Nat.le_refl _) _).setCell (Nat.le_refl _) _⟩

end Go.Proofs.YtjcklfbpdjfibaaDoor

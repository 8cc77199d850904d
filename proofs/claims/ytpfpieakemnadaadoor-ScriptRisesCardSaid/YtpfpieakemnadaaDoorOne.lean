/-
  The law on one pick: true, whatever comes.
-/
import Derived.Test.YtpfpieakemnadaaDoorSFirst
import Derived.Test.YtpfpieakemnadaaDoorScrNew
namespace Go.Proofs.YtpfpieakemnadaaDoor
open Go.RowKit

def PlacedPost (c pos : Int) (w : World) (e : Ending) (w' : World) : Prop := ∃ g, e = .returned (.agg #[.int .i64 c, .slice (some ⟨g, 0, none⟩) 1 1]) ∧ w'.cell? ⟨g, 0, none⟩ = some (.int .i64 pos) ∧ Below w.heap.size w w'

theorem placed_any (c pos : Int) (w : World) (hc : c ≠ 0) :
    Calls Tryd.prog 44 #[.int .i64 c, .int .i64 pos] w (PlacedPost c pos w) := by
  have t1 : (c == 0) = false := by simpa using hc
  clear hc
  go_enter Tryd.func44, Tryd.ntmps44
  go_wp2_with fail
  have hX := heap_alloc_new w (Obj.cells #[Value.int IntKind.i64 c, Value.slice (some ⟨w.heap.size + 1, 0, none⟩) 1 1] 57)
  have hs : (w.alloc (Obj.cells #[Value.int IntKind.i64 c, Value.slice (some ⟨w.heap.size + 1, 0, none⟩) 1 1] 57)).heap.size = w.heap.size + 1 := by simp
  have hY := heap_alloc_new (w.alloc (Obj.cells #[Value.int IntKind.i64 c, Value.slice (some ⟨w.heap.size + 1, 0, none⟩) 1 1] 57)) (Obj.cells #[Value.int IntKind.i64 pos] 3)
  rw [hs] at hY
  have hb : Below w.heap.size w ((w.alloc (Obj.cells #[Value.int IntKind.i64 c, Value.slice (some ⟨w.heap.size + 1, 0, none⟩) 1 1] 57)).alloc (Obj.cells #[Value.int IntKind.i64 pos] 3)) := ((Below.refl _ _).alloc (Nat.le_refl _) _).alloc (by simp) _
  have hX2 : ((w.alloc (Obj.cells #[Value.int IntKind.i64 c, Value.slice (some ⟨w.heap.size + 1, 0, none⟩) 1 1] 57)).alloc (Obj.cells #[Value.int IntKind.i64 pos] 3)).heap[w.heap.size]? = _ := (Below.heap_alloc _ _ _ (by simp)).trans hX
  have f0 := (cell_of_row _ w.heap.size 0 _ 57 (0, 0) hX2).trans rfl
  have f1 := (cell_of_row _ w.heap.size 1 _ 57 (0, 0) hX2).trans rfl
  exact bodyPost_ret (v := .agg #[.int .i64 c, .slice (some ⟨w.heap.size + 1, 0, none⟩) 1 1]) (by simp [results, Tryd.results44, go_sem, f0, f1]) rfl ⟨_, rfl, (cell_of_row _ (w.heap.size + 1) 0 _ 3 (0, 0) hY).trans rfl, hb⟩

def gvOf (T K A B : Int) (i j : Nat) : Int := match i, j with
  | 0, 0 => T
  | 0, 1 => K
  | 0, 2 => A
  | 0, 3 => B
  | _, _ => 0

theorem picks_one (T K A B : Int) (w : World) : Picks (w.alloc (Obj.cells #[.int .i64 T, .int .i64 K, .int .i64 A, .int .i64 B] 94)) (some ⟨w.heap.size, 0, none⟩) 1 1 (gvOf T K A B) := by
  refine ⟨Nat.le_refl _, by unfold maxLen; omega, fun h => (by cases h), fun ad had i j hi hj => ?_⟩
  cases had
  obtain rfl : i = 0 := by omega
  have e : (⟨w.heap.size, 0, none⟩ : Addr).add (0 * 4 + j) = ⟨w.heap.size, j, none⟩ := by
    unfold Addr.add
    split
    · rename_i h0; simp at h0; rw [h0]
    · simp
  rw [e, cell_of_row _ w.heap.size j _ 94 (0, 0) (heap_alloc_new w _)]
  match j, hj with
  | 0, _ => rfl
  | 1, _ => rfl
  | 2, _ => rfl
  | 3, _ => rfl

theorem code_of (T K A B : Int) : codeAt (gvOf T K A B) 0 = pickC T K A B 0 := rfl

theorem pick_fair {T K A B : Int} (h : pickC T K A B 0 = 0) : 1 ≤ K ∧ K ≤ 5 ∧ 0 ≤ T ∧ T ≤ 1048576 ∧ 0 ≤ A ∧ A ≤ mostA K ∧ 0 ≤ B ∧ B ≤ mostB K := by
  unfold pickC at h
  split at h
  · cases h
  · split at h
    · cases h
    · omega
theorem pick_kind {T K A B : Int} (h : pickC T K A B 0 = 2) : K < 1 ∨ 5 < K := by
  unfold pickC at h
  split at h
  · assumption
  · split at h
    · cases h
    · split at h <;> cases h
theorem pick_index {T K A B : Int} (h : pickC T K A B 0 = 3) : 1 ≤ K ∧ K ≤ 5 ∧ (T < 0 ∨ 1048576 < T ∨ A < 0 ∨ mostA K < A ∨ B < 0 ∨ mostB K < B) := by
  unfold pickC at h
  split at h
  · cases h
  · split at h
    · exact ⟨by omega, by omega, by assumption⟩
    · split at h <;> cases h
theorem pick_codes (T K A B : Int) : pickC T K A B 0 = 0 ∨ pickC T K A B 0 = 2 ∨ pickC T K A B 0 = 3 := by
  unfold pickC
  split
  · exact .inr (.inl rfl)
  · split
    · exact .inr (.inr rfl)
    · split
      · omega
      · exact .inl rfl

set_option maxHeartbeats 4000000 in
set_option maxRecDepth 100000 in
theorem one_fair (a : Nat → Addr) (T K A B : Int) (w : World) (h : Sents a w) (hc : pickC T K A B 0 = 0) :
    Calls Tryd.prog 13 #[.int .i64 T, .int .i64 K, .int .i64 A, .int .i64 B] w (TruePost w) := by
  have H := Lib.hid h
  have HC := Lib.hid ((code_of T K A B).trans hc)
  obtain ⟨g1, g2, g3, g4, g5, g6, g7, g8⟩ := pick_fair hc
  clear h hc
  go_enter Tryd.func13, Tryd.ntmps13
  go_wp2_with fail
  refine (sfirst a _ H.out).mono ?_
  rintro e w1 ⟨rfl, hb1⟩
  have hb2 : Below w.heap.size w (w1.alloc (Obj.cells #[.int .i64 T, .int .i64 K, .int .i64 A, .int .i64 B] 94)) := hb1.alloc hb1.size _
  have HS := Lib.hid (H.out.below hb2)
  have HP := Lib.hid (picks_one T K A B w1)
  have HB2 := Lib.hid hb2
  clear hb1 hb2
  go_wp2_with fail
  refine (may_list a _ 1 1 (gvOf T K A B) 1 _ HS.out HP.out (by omega) (by omega) (fun i hi => (show codeAt (gvOf T K A B) i = 0 from (show i = 0 from Nat.lt_one_iff.1 hi) ▸ HC.out)) (fun h => by omega)).mono ?_
  rintro e w3 ⟨hb3, ⟨_, rfl⟩ | ⟨hlt, _⟩⟩
  · have HS3 := Lib.hid (HS.out.below hb3)
    have HP3 := Lib.hid (HP.out.below hb3)
    have HB3 : Hid (Below w.heap.size w w3) := Lib.hid (HB2.out.trans (hb3.mono HB2.out.size))
    clear hb3
    go_wp2_with fail
    refine (new_ok a _ 1 (gvOf T K A B) _ HS3.out HP3.out HC.out).mono ?_
    rintro e w4 ⟨q, rfl, hb4⟩
    have HB4 : Hid (Below w.heap.size w w4) := Lib.hid (HB3.out.trans (hb4.mono HB3.out.size))
    clear hb4
    by_cases k3 : K = 3
    · subst k3
      have m1 : mostA 3 = 11 := rfl
      have m2 : mostB 3 = 2047 := rfl
      rw [m1] at g6
      rw [m2] at g8
      clear m1 m2
      go_wp2_with fail
      all_goals first
        | (go_ret; exact ⟨rfl, HB4.out⟩)
        | (exfalso; omega)
    · by_cases k5 : K = 5
      · subst k5
        have m1 : mostA 5 = 0 := rfl
        have m2 : mostB 5 = 2047 := rfl
        rw [m1] at g6
        rw [m2] at g8
        clear m1 m2
        go_wp2_with fail
        all_goals first
          | (go_ret; exact ⟨rfl, HB4.out⟩)
          | (exfalso; omega)
      · have t3 : (K == 3) = false := by simpa using k3
        have t5 : (K == 5) = false := by simpa using k5
        have m1 : mostA K = 0 := by simp [mostA, k3]
        have m2 : mostB K = 0 := by simp [mostB, k3, k5]
        rw [m1] at g6
        rw [m2] at g8
        have hA : A = 0 := by omega
        have hBz : B = 0 := by omega
        clear m1 m2 k3 k5
        subst hA
        subst hBz
        go_wp2_with fail
        all_goals first
          | (go_ret; exact ⟨rfl, HB4.out⟩)
          | (exfalso; omega)
  · omega

set_option maxHeartbeats 8000000 in
set_option maxRecDepth 100000 in
theorem one_kind (a : Nat → Addr) (T K A B : Int) (w : World) (h : Sents a w) (hc : pickC T K A B 0 = 2) :
    Calls Tryd.prog 13 #[.int .i64 T, .int .i64 K, .int .i64 A, .int .i64 B] w (TruePost w) := by
  have H := Lib.hid h
  have HC := Lib.hid ((code_of T K A B).trans hc)
  have HNE : Hid (codeAt (gvOf T K A B) 0 ≠ 0) := Lib.hid (by rw [HC.out]; decide)
  have g1 := pick_kind hc
  clear h hc
  go_enter Tryd.func13, Tryd.ntmps13
  go_wp2_with fail
  refine (sfirst a _ H.out).mono ?_
  rintro e w1 ⟨rfl, hb1⟩
  have hb2 : Below w.heap.size w (w1.alloc (Obj.cells #[.int .i64 T, .int .i64 K, .int .i64 A, .int .i64 B] 94)) := hb1.alloc hb1.size _
  have HS := Lib.hid (H.out.below hb2)
  have HP := Lib.hid (picks_one T K A B w1)
  have HB2 := Lib.hid hb2
  clear hb1 hb2
  go_wp2_with fail
  refine (may_list a _ 1 1 (gvOf T K A B) 0 _ HS.out HP.out (by omega) (by omega) (fun i hi => absurd hi (Nat.not_lt_zero i)) (fun _ => HNE.out)).mono ?_
  rintro e w3 ⟨hb3, ⟨h0, _⟩ | ⟨_, p, rfl, hp, hat⟩⟩
  · omega
  · rw [HC.out] at hat
    have HS3 := Lib.hid (HS.out.below hb3)
    have HP3 := Lib.hid (HP.out.below hb3)
    have HB3 : Hid (Below w.heap.size w w3) := Lib.hid (HB2.out.trans (hb3.mono HB2.out.size))
    have HA3 : Hid (AtBox a p 1 0 w3) := Lib.hid hat
    clear hb3 hat
    go_wp2_with fail
    refine (new_bad a _ 1 (gvOf T K A B) _ HS3.out HP3.out HNE.out).mono ?_
    rintro e w4 ⟨q, rfl, hat, hq, hb4⟩
    rw [HC.out] at hat
    have HS4 := Lib.hid (HS3.out.below hb4)
    have HB4 : Hid (Below w.heap.size w w4) := Lib.hid (HB3.out.trans (hb4.mono HB3.out.size))
    have HA4 := Lib.hid (HA3.out.below hb4)
    have HQ4 : Hid (AtBox a q 1 0 w4) := Lib.hid hat
    clear hb4 hat
    have t3 : (K == 3) = false := by simp; omega
    have t5 : (K == 5) = false := by simp; omega
    go_wp2_with fail
    all_goals first
      | (exfalso; omega)
      | skip
    all_goals
      refine (placed_any 102 0 _ (by decide)).mono ?_
      rintro e w5 ⟨g, rfl, hc5, hb5⟩
      have hb6 : Below w4.heap.size w4 (w5.alloc (Obj.cells #[Value.int IntKind.i64 102, Value.slice (some ⟨g, 0, none⟩) 1 1] 57)) := hb5.alloc hb5.size _
      have hal := heap_alloc_new w5 (Obj.cells #[Value.int IntKind.i64 102, Value.slice (some ⟨g, 0, none⟩) 1 1] 57)
      have hrw := row_one (cp := 1) (((Below.refl w5.heap.size w5).alloc (Nat.le_refl _) (Obj.cells #[Value.int IntKind.i64 102, Value.slice (some ⟨g, 0, none⟩) 1 1] 57)).cell (p := ⟨g, 0, none⟩) (World.block_lt_of_cell? w5 _ hc5) |>.trans hc5) (Nat.le_refl _) (by unfold maxLen; omega) rfl
      have u0 := (cell_of_row _ w5.heap.size 0 _ 57 (0, 0) hal).trans rfl
      have u1 := (cell_of_row _ w5.heap.size 1 _ 57 (0, 0) hal).trans rfl
      have S1 := Lib.hid (same_around a p 1 0 g 1 _ (HS4.out.below hb6) (by decide) (HA4.out.below hb6) hrw)
      have HB6 : Hid (Below w.heap.size w (w5.alloc (Obj.cells #[Value.int IntKind.i64 102, Value.slice (some ⟨g, 0, none⟩) 1 1] 57))) := Lib.hid (HB4.out.trans (hb6.mono HB4.out.size))
      have HS6 := Lib.hid (HS4.out.below hb6)
      have HQ6 := Lib.hid (HQ4.out.below hb6)
      have HR6 := Lib.hid hrw
      clear hb5 hb6 hc5 hrw
      go_wp2_with fail
      refine S1.out.mono ?_
      rintro e w7 ⟨rfl, hb7⟩
      have v0 := (hb7.cell (p := ⟨w5.heap.size, 0, none⟩) (by simp)).trans u0
      have v1 := (hb7.cell (p := ⟨w5.heap.size, 1, none⟩) (by simp)).trans u1
      have S2 := Lib.hid (same_around a q 1 0 g 1 _ (HS6.out.below hb7) (by decide) (HQ6.out.below hb7) (Row_cells HR6.out hb7))
      have HB7 : Hid (Below w.heap.size w w7) := Lib.hid (HB6.out.trans (hb7.mono HB6.out.size))
      clear hb7 u0 u1 hal
      go_wp2_with fail
      refine S2.out.mono ?_
      rintro e w8 ⟨rfl, hb8⟩
      go_wp2_with fail
      go_ret
      exact ⟨rfl, HB7.out.trans (hb8.mono HB7.out.size)⟩

set_option maxHeartbeats 8000000 in
set_option maxRecDepth 100000 in
theorem one_index (a : Nat → Addr) (T K A B : Int) (w : World) (h : Sents a w) (hc : pickC T K A B 0 = 3) :
    Calls Tryd.prog 13 #[.int .i64 T, .int .i64 K, .int .i64 A, .int .i64 B] w (TruePost w) := by
  have H := Lib.hid h
  have HC := Lib.hid ((code_of T K A B).trans hc)
  have HNE : Hid (codeAt (gvOf T K A B) 0 ≠ 0) := Lib.hid (by rw [HC.out]; decide)
  obtain ⟨g1, g2, g3⟩ := pick_index hc
  clear h hc
  go_enter Tryd.func13, Tryd.ntmps13
  go_wp2_with fail
  refine (sfirst a _ H.out).mono ?_
  rintro e w1 ⟨rfl, hb1⟩
  have hb2 : Below w.heap.size w (w1.alloc (Obj.cells #[.int .i64 T, .int .i64 K, .int .i64 A, .int .i64 B] 94)) := hb1.alloc hb1.size _
  have HS := Lib.hid (H.out.below hb2)
  have HP := Lib.hid (picks_one T K A B w1)
  have HB2 := Lib.hid hb2
  clear hb1 hb2
  go_wp2_with fail
  refine (may_list a _ 1 1 (gvOf T K A B) 0 _ HS.out HP.out (by omega) (by omega) (fun i hi => absurd hi (Nat.not_lt_zero i)) (fun _ => HNE.out)).mono ?_
  rintro e w3 ⟨hb3, ⟨h0, _⟩ | ⟨_, p, rfl, hp, hat⟩⟩
  · omega
  · rw [HC.out] at hat
    have HS3 := Lib.hid (HS.out.below hb3)
    have HP3 := Lib.hid (HP.out.below hb3)
    have HB3 : Hid (Below w.heap.size w w3) := Lib.hid (HB2.out.trans (hb3.mono HB2.out.size))
    have HA3 : Hid (AtBox a p 2 0 w3) := Lib.hid hat
    clear hb3 hat
    go_wp2_with fail
    refine (new_bad a _ 1 (gvOf T K A B) _ HS3.out HP3.out HNE.out).mono ?_
    rintro e w4 ⟨q, rfl, hat, hq, hb4⟩
    rw [HC.out] at hat
    have HS4 := Lib.hid (HS3.out.below hb4)
    have HB4 : Hid (Below w.heap.size w w4) := Lib.hid (HB3.out.trans (hb4.mono HB3.out.size))
    have HA4 := Lib.hid (HA3.out.below hb4)
    have HQ4 : Hid (AtBox a q 2 0 w4) := Lib.hid hat
    clear hb4 hat
    by_cases k3 : K = 3
    · subst k3
      have m1 : mostA 3 = 11 := rfl
      have m2 : mostB 3 = 2047 := rfl
      rw [m1, m2] at g3
      clear m1 m2
      go_wp2_with fail
      all_goals first
        | (exfalso; omega)
        | skip
      all_goals
        refine (placed_any 103 0 _ (by decide)).mono ?_
        rintro e w5 ⟨g, rfl, hc5, hb5⟩
        have hb6 : Below w4.heap.size w4 (w5.alloc (Obj.cells #[Value.int IntKind.i64 103, Value.slice (some ⟨g, 0, none⟩) 1 1] 57)) := hb5.alloc hb5.size _
        have hal := heap_alloc_new w5 (Obj.cells #[Value.int IntKind.i64 103, Value.slice (some ⟨g, 0, none⟩) 1 1] 57)
        have hrw := row_one (cp := 1) (((Below.refl w5.heap.size w5).alloc (Nat.le_refl _) (Obj.cells #[Value.int IntKind.i64 103, Value.slice (some ⟨g, 0, none⟩) 1 1] 57)).cell (p := ⟨g, 0, none⟩) (World.block_lt_of_cell? w5 _ hc5) |>.trans hc5) (Nat.le_refl _) (by unfold maxLen; omega) rfl
        have u0 := (cell_of_row _ w5.heap.size 0 _ 57 (0, 0) hal).trans rfl
        have u1 := (cell_of_row _ w5.heap.size 1 _ 57 (0, 0) hal).trans rfl
        have S1 := Lib.hid (same_around a p 2 0 g 1 _ (HS4.out.below hb6) (by decide) (HA4.out.below hb6) hrw)
        have HB6 : Hid (Below w.heap.size w (w5.alloc (Obj.cells #[Value.int IntKind.i64 103, Value.slice (some ⟨g, 0, none⟩) 1 1] 57))) := Lib.hid (HB4.out.trans (hb6.mono HB4.out.size))
        have HS6 := Lib.hid (HS4.out.below hb6)
        have HQ6 := Lib.hid (HQ4.out.below hb6)
        have HR6 := Lib.hid hrw
        clear hb5 hb6 hc5 hrw
        go_wp2_with fail
        refine S1.out.mono ?_
        rintro e w7 ⟨rfl, hb7⟩
        have v0 := (hb7.cell (p := ⟨w5.heap.size, 0, none⟩) (by simp)).trans u0
        have v1 := (hb7.cell (p := ⟨w5.heap.size, 1, none⟩) (by simp)).trans u1
        have S2 := Lib.hid (same_around a q 2 0 g 1 _ (HS6.out.below hb7) (by decide) (HQ6.out.below hb7) (Row_cells HR6.out hb7))
        have HB7 : Hid (Below w.heap.size w w7) := Lib.hid (HB6.out.trans (hb7.mono HB6.out.size))
        clear hb7 u0 u1 hal
        go_wp2_with fail
        refine S2.out.mono ?_
        rintro e w8 ⟨rfl, hb8⟩
        go_wp2_with fail
        go_ret
        exact ⟨rfl, HB7.out.trans (hb8.mono HB7.out.size)⟩
    · by_cases k5 : K = 5
      · subst k5
        have m1 : mostA 5 = 0 := rfl
        have m2 : mostB 5 = 2047 := rfl
        rw [m1, m2] at g3
        clear m1 m2
        go_wp2_with fail
        all_goals first
          | (exfalso; omega)
          | skip
        all_goals
          refine (placed_any 103 0 _ (by decide)).mono ?_
          rintro e w5 ⟨g, rfl, hc5, hb5⟩
          have hb6 : Below w4.heap.size w4 (w5.alloc (Obj.cells #[Value.int IntKind.i64 103, Value.slice (some ⟨g, 0, none⟩) 1 1] 57)) := hb5.alloc hb5.size _
          have hal := heap_alloc_new w5 (Obj.cells #[Value.int IntKind.i64 103, Value.slice (some ⟨g, 0, none⟩) 1 1] 57)
          have hrw := row_one (cp := 1) (((Below.refl w5.heap.size w5).alloc (Nat.le_refl _) (Obj.cells #[Value.int IntKind.i64 103, Value.slice (some ⟨g, 0, none⟩) 1 1] 57)).cell (p := ⟨g, 0, none⟩) (World.block_lt_of_cell? w5 _ hc5) |>.trans hc5) (Nat.le_refl _) (by unfold maxLen; omega) rfl
          have u0 := (cell_of_row _ w5.heap.size 0 _ 57 (0, 0) hal).trans rfl
          have u1 := (cell_of_row _ w5.heap.size 1 _ 57 (0, 0) hal).trans rfl
          have S1 := Lib.hid (same_around a p 2 0 g 1 _ (HS4.out.below hb6) (by decide) (HA4.out.below hb6) hrw)
          have HB6 : Hid (Below w.heap.size w (w5.alloc (Obj.cells #[Value.int IntKind.i64 103, Value.slice (some ⟨g, 0, none⟩) 1 1] 57))) := Lib.hid (HB4.out.trans (hb6.mono HB4.out.size))
          have HS6 := Lib.hid (HS4.out.below hb6)
          have HQ6 := Lib.hid (HQ4.out.below hb6)
          have HR6 := Lib.hid hrw
          clear hb5 hb6 hc5 hrw
          go_wp2_with fail
          refine S1.out.mono ?_
          rintro e w7 ⟨rfl, hb7⟩
          have v0 := (hb7.cell (p := ⟨w5.heap.size, 0, none⟩) (by simp)).trans u0
          have v1 := (hb7.cell (p := ⟨w5.heap.size, 1, none⟩) (by simp)).trans u1
          have S2 := Lib.hid (same_around a q 2 0 g 1 _ (HS6.out.below hb7) (by decide) (HQ6.out.below hb7) (Row_cells HR6.out hb7))
          have HB7 : Hid (Below w.heap.size w w7) := Lib.hid (HB6.out.trans (hb7.mono HB6.out.size))
          clear hb7 u0 u1 hal
          go_wp2_with fail
          refine S2.out.mono ?_
          rintro e w8 ⟨rfl, hb8⟩
          go_wp2_with fail
          go_ret
          exact ⟨rfl, HB7.out.trans (hb8.mono HB7.out.size)⟩
      · have t3 : (K == 3) = false := by simpa using k3
        have t5 : (K == 5) = false := by simpa using k5
        have m1 : mostA K = 0 := by simp [mostA, k3]
        have m2 : mostB K = 0 := by simp [mostB, k3, k5]
        rw [m1, m2] at g3
        clear m1 m2
        go_wp2_with fail
        all_goals first
          | (exfalso; omega)
          | skip
        all_goals
          refine (placed_any 103 0 _ (by decide)).mono ?_
          rintro e w5 ⟨g, rfl, hc5, hb5⟩
          have hb6 : Below w4.heap.size w4 (w5.alloc (Obj.cells #[Value.int IntKind.i64 103, Value.slice (some ⟨g, 0, none⟩) 1 1] 57)) := hb5.alloc hb5.size _
          have hal := heap_alloc_new w5 (Obj.cells #[Value.int IntKind.i64 103, Value.slice (some ⟨g, 0, none⟩) 1 1] 57)
          have hrw := row_one (cp := 1) (((Below.refl w5.heap.size w5).alloc (Nat.le_refl _) (Obj.cells #[Value.int IntKind.i64 103, Value.slice (some ⟨g, 0, none⟩) 1 1] 57)).cell (p := ⟨g, 0, none⟩) (World.block_lt_of_cell? w5 _ hc5) |>.trans hc5) (Nat.le_refl _) (by unfold maxLen; omega) rfl
          have u0 := (cell_of_row _ w5.heap.size 0 _ 57 (0, 0) hal).trans rfl
          have u1 := (cell_of_row _ w5.heap.size 1 _ 57 (0, 0) hal).trans rfl
          have S1 := Lib.hid (same_around a p 2 0 g 1 _ (HS4.out.below hb6) (by decide) (HA4.out.below hb6) hrw)
          have HB6 : Hid (Below w.heap.size w (w5.alloc (Obj.cells #[Value.int IntKind.i64 103, Value.slice (some ⟨g, 0, none⟩) 1 1] 57))) := Lib.hid (HB4.out.trans (hb6.mono HB4.out.size))
          have HS6 := Lib.hid (HS4.out.below hb6)
          have HQ6 := Lib.hid (HQ4.out.below hb6)
          have HR6 := Lib.hid hrw
          clear hb5 hb6 hc5 hrw
          go_wp2_with fail
          refine S1.out.mono ?_
          rintro e w7 ⟨rfl, hb7⟩
          have v0 := (hb7.cell (p := ⟨w5.heap.size, 0, none⟩) (by simp)).trans u0
          have v1 := (hb7.cell (p := ⟨w5.heap.size, 1, none⟩) (by simp)).trans u1
          have S2 := Lib.hid (same_around a q 2 0 g 1 _ (HS6.out.below hb7) (by decide) (HQ6.out.below hb7) (Row_cells HR6.out hb7))
          have HB7 : Hid (Below w.heap.size w w7) := Lib.hid (HB6.out.trans (hb7.mono HB6.out.size))
          clear hb7 u0 u1 hal
          go_wp2_with fail
          refine S2.out.mono ?_
          rintro e w8 ⟨rfl, hb8⟩
          go_wp2_with fail
          go_ret
          exact ⟨rfl, HB7.out.trans (hb8.mono HB7.out.size)⟩

theorem one_main (T K A B : Int) (w : World) (h1 : (Lit.int .i64 T).wf = true) (h2 : (Lit.int .i64 K).wf = true) (h3 : (Lit.int .i64 A).wf = true) (h4 : (Lit.int .i64 B).wf = true) (hL : laidMetH Tryd.prog Rows.scriptOneRow.laid w) :
    Calls Tryd.prog 13 #[.int .i64 T, .int .i64 K, .int .i64 A, .int .i64 B] w (TruePost w) := by
  obtain ⟨a, hS⟩ := sents_of_laid (show (sentTexts.map mkSent : List (String × DataW Unit)) = Rows.scriptOneRow.laid from rfl) (by kernel_rfl) hL
  rcases pick_codes T K A B with h | h | h
  · exact one_fair a T K A B w hS h
  · exact one_kind a T K A B w hS h
  · exact one_index a T K A B w hS h

end Go.Proofs.YtpfpieakemnadaaDoor

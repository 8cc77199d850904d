/-
  MovesNone: the law's walk.
-/
import Derived.Test.YtbpamcgmhnnmnaaDoorMvG
namespace Go.Proofs.YtbpamcgmhnnmnaaDoor
open Go.RowKit Go.ChangeShapes

theorem is101 (sa : Nat → Addr) (w : World) (h : Sents sa w) : Calls Tryd.prog 81 #[errI sa 0, .int .i64 101] w (TruePost w) := is_plain sa 0 w h (by decide)
theorem is103 (sa : Nat → Addr) (w : World) (h : Sents sa w) : Calls Tryd.prog 81 #[errI sa 2, .int .i64 103] w (TruePost w) := is_plain sa 2 w h (by decide)
theorem is105 (sa : Nat → Addr) (w : World) (h : Sents sa w) : Calls Tryd.prog 81 #[errI sa 4, .int .i64 105] w (TruePost w) := is_plain sa 4 w h (by decide)

theorem place_four (y : Int) : (isP y = false ∧ ((y < -1000 ∧ y < 1000) ∨ (1000 < y ∧ -1000 < y))) ∨ y = 900 ∨ y = 901 ∨ (isP y = true ∧ ¬ y = 900 ∧ ¬ y = 901) := by
  by_cases h : -1000 ≤ y ∧ y ≤ 1000
  · have e : isP y = true := by simp [isP, h]
    rw [e]
    by_cases h9 : y = 900
    · exact .inr (.inl h9)
    · by_cases h1 : y = 901
      · exact .inr (.inr (.inl h1))
      · exact .inr (.inr (.inr ⟨rfl, h9, h1⟩))
  · have e : isP y = false := by simp [isP]; omega
    rw [e]
    exact .inl ⟨rfl, by omega⟩

def NoneRel (N : Nat) (w : World) (s7 s6 : Value) (wr : World) : Prop :=
  ∃ i : Nat, i ≤ N ∧ s7 = .int .i64 i ∧ wr.ownsRow w.heap.size 112 2 s6 i (mvCells (idL i)) ∧ Below w.heap.size w wr

set_option maxHeartbeats 8000000 in
set_option maxRecDepth 100000 in
theorem none_walk (x y : Int) (w : World) (sa : Nat → Addr) (S : Sents sa w) (a : Nat) (e1 : bits BinOp.and IntKind.i64 x 7 = (a : Int)) (ha : a < 8) : Calls Tryd.prog 13 #[.int .i64 x, .int .i64 y] w (TruePost w) := by
  obtain ⟨N, hN⟩ : ∃ N : Nat, (496 : Int) + a = N := ⟨496 + a, by omega⟩
  have hN1 : 496 ≤ N := by omega
  have hN2 : N ≤ 503 := by omega
  have s1 : IntKind.i64.wrap ((496 : Int) + a) = N := by rw [← hN]; exact IntWalk.i64_in _ (by omega)
  obtain ⟨i0, hi, hz0, hz1, hz2⟩ := info_parts moveinfo
  have HI := Lib.hid hi
  have HZ0 := Lib.hid hz0
  have HZ1 := Lib.hid hz1
  have HZ2 := Lib.hid hz2
  have HS := Lib.hid S
  clear hN S hi hz0 hz1 hz2 ha
  go_enter Tryd.func13, Tryd.ntmps13
  go_wp2_with fail
  refine (mfirst sa w HS.out).mono ?_
  rintro e w1 ⟨rfl, hB1⟩
  have R0 : Hid (NoneRel N w (.int .i64 0) (.slice none 0 0) w1) := Lib.hid ⟨0, Nat.zero_le _, rfl, World.ownsRow_nil _ _ _ _, hB1⟩
  clear hB1
  go_wp2_with fail
  clear e1 s1
  go_loopw [7, 6] (fun s7 s6 wr => NoneRel N w s7 s6 wr) (fun s7 _ _ => N - (intOf s7).toNat)
  case atStart => exact R0.out
  case round =>
    clear R0
    obtain ⟨i, hi, rfl, hown, hB⟩ := hrel
    obtain ⟨va, vc, rfl⟩ := own_shapeM hown
    by_cases hlt : i < N
    · have t1 : decide (i < N) = true := by simpa using hlt
      have HO := Lib.hid hown
      have HB := Lib.hid hB
      have HM1 := Lib.hid (show i + 1 ≤ maxLen by unfold maxLen; omega)
      have HM2 := Lib.hid (show (i + 1) * 16 ≤ 140737488355328 by omega)
      have HB3 : Hid (w.heap.size ≤ (wr.alloc (.cells #[.int .i64 i, .int .i64 i] 112)).heap.size) := Lib.hid (by rw [World.size_alloc]; have := hB.size; omega)
      clear hown hB
      go_wp2_with (at_builtin; refine wpList_append_own _ rfl (.tmp 28) (.tmp 32) 110 rfl w.heap.size 112 i0 (.agg #[.int .i64 0, .int .i64 0]) 2 16 Tryd.underlying110 HI.out HZ0.out HZ1.out HZ2.out rfl (by decide) (.slice va i vc) i (mvCells (idL i)) rfl (HO.out.alloc _) ⟨wr.heap.size, 0, none⟩ 1 1 [.int .i64 i, .int .i64 i] rfl rfl (cells_newM _ _ _ _) (by simp [Value.oneCell']) HM1.out HM2.out HB3.out ?_; intro v5 w5 hown5 hgrow5 hnil5; obtain ⟨va5, vc5, rfl⟩ := own_shapeM hown5; replace hown5 := Lib.hid hown5; replace hgrow5 := Lib.hid hgrow5; clear hnil5)
      go_roundw
      case rel => exact ⟨i + 1, by omega, by go_num, by rw [idL_next, mvCells_next]; exact hown5.out, (HB.out.alloc HB.out.size _).grown hgrow5.out HB3.out (fun z hz => (HO.out.lt z hz).1)⟩
      case measure => simp [intOf]; omega
    · obtain rfl : i = N := by omega
      obtain ⟨W0, rfl⟩ : ∃ W0 : World, W0 = wr := ⟨_, rfl⟩
      have t1 : decide (i < i) = false := by simp
      obtain ⟨va', vc', he, hrow⟩ := mrow_own hown
      cases he
      have hle := hrow.le
      have hmx := hrow.max
      unfold maxLen at hmx
      have HB := Lib.hid hB
      have HROW := Lib.hid hrow
      clear hown hrow hB
      by_cases h5 : i ≤ 500
      · have t2 : decide ((i : Int) > 500) = false := by simp; omega
        have K1 := Lib.hid (ord_id sa va i vc W0 (HS.out.below HB.out) HROW.out h5)
        go_wp2_with fail
        refine K1.out.mono ?_
        rintro e w5 ⟨b5, c5, rfl, hB5⟩
        have B5 := Lib.hid (HB.out.trans (hB5.mono HB.out.size))
        have KC := Lib.hid (cyc_id va i vc w5 (HROW.out.below hB5) h5)
        clear hB5 K1
        go_wp2_with fail
        refine KC.out.mono ?_
        rintro e W ⟨rfl, hB6⟩
        have BW : Hid (Below w.heap.size w W) := Lib.hid (B5.out.trans (hB6.mono B5.out.size))
        clear hB6 KC B5 HROW
        rcases place_four y with ⟨hp, ho⟩ | rfl | rfl | ⟨hp, h9, h1⟩
        · have HP := Lib.hid hp
          rcases ho with ⟨hl, hg⟩ | ⟨hl, hg⟩
          · have u1 : decide (y ≥ -1000) = false := by simp; omega
            have u3 : (y != 900) = true := by simp; omega
            have u4 : (y != 901) = true := by simp; omega
            clear hl hg hp
            have K2 := Lib.hid (ord_one sa W.heap.size y 5 y 900 (y = (900 : Int)) (W.alloc (.cells #[.int .i64 y, .int .i64 5] 112)) (HS.out.below (BW.out.alloc BW.out.size _)) (mrow_pair y 5 (heap_alloc_new _ _)) (by decide) (by rw [show isP 5 = true by decide, Bool.and_true]) (by omega))
            rw [show oneE sa y (y = (900 : Int)) = errI sa 2 by unfold oneE; rw [if_pos HP.out]] at K2
            unfold errI at K2
            go_wp2_with fail
            refine K2.out.mono ?_
            rintro e w2 ⟨a2, n2, c2, rfl, hB2⟩
            have B2 : Hid (Below w.heap.size w w2) := Lib.hid ((BW.out.alloc BW.out.size _).trans (hB2.mono (by have := BW.out.size; simp; omega)))
            have K3 := Lib.hid (ord_one sa w2.heap.size 7 y y 901 (y = (901 : Int)) (w2.alloc (.cells #[.int .i64 7, .int .i64 y] 112)) (HS.out.below (B2.out.alloc B2.out.size _)) (mrow_pair 7 y (heap_alloc_new _ _)) (by decide) (by rw [show isP 7 = true by decide, Bool.true_and]) (by omega))
            rw [show oneE sa y (y = (901 : Int)) = errI sa 2 by unfold oneE; rw [if_pos HP.out]] at K3
            unfold errI at K3
            clear hB2 K2
            go_wp2_with fail
            refine K3.out.mono ?_
            rintro e w3 ⟨a3, n3, c3, rfl, hB3⟩
            have B3 : Hid (Below w.heap.size w w3) := Lib.hid ((B2.out.alloc B2.out.size _).trans (hB3.mono (by have := B2.out.size; simp; omega)))
            have K4 := Lib.hid (ord_nil sa y w3 (HS.out.below B3.out))
            rw [show oneE sa y False = errI sa 2 by unfold oneE; rw [if_pos HP.out]] at K4
            unfold errI at K4
            clear hB3 K3
            go_wp2_with fail
            refine K4.out.mono ?_
            rintro e w4 ⟨a4, n4, c4, rfl, hB4⟩
            have B4 : Hid (Below w.heap.size w w4) := Lib.hid (B3.out.trans (hB4.mono B3.out.size))
            clear hB4 K4
            have K5 := Lib.hid (is103 sa w4 (HS.out.below B4.out))
            unfold errI at K5
            go_wp2_with fail
            refine K5.out.mono ?_
            rintro e w5 ⟨rfl, hB5⟩
            have B5 : Hid (Below w.heap.size w w5) := Lib.hid (B4.out.trans (hB5.mono B4.out.size))
            clear hB5 K5
            go_wp2_with fail
            go_ret
            exact ⟨rfl, B5.out⟩
          · have u1 : decide (y ≥ -1000) = true := by simp; omega
            have u2 : decide (y ≤ 1000) = false := by simp; omega
            have u3 : (y != 900) = true := by simp; omega
            have u4 : (y != 901) = true := by simp; omega
            clear hl hg hp
            have K2 := Lib.hid (ord_one sa W.heap.size y 5 y 900 (y = (900 : Int)) (W.alloc (.cells #[.int .i64 y, .int .i64 5] 112)) (HS.out.below (BW.out.alloc BW.out.size _)) (mrow_pair y 5 (heap_alloc_new _ _)) (by decide) (by rw [show isP 5 = true by decide, Bool.and_true]) (by omega))
            rw [show oneE sa y (y = (900 : Int)) = errI sa 2 by unfold oneE; rw [if_pos HP.out]] at K2
            unfold errI at K2
            go_wp2_with fail
            refine K2.out.mono ?_
            rintro e w2 ⟨a2, n2, c2, rfl, hB2⟩
            have B2 : Hid (Below w.heap.size w w2) := Lib.hid ((BW.out.alloc BW.out.size _).trans (hB2.mono (by have := BW.out.size; simp; omega)))
            have K3 := Lib.hid (ord_one sa w2.heap.size 7 y y 901 (y = (901 : Int)) (w2.alloc (.cells #[.int .i64 7, .int .i64 y] 112)) (HS.out.below (B2.out.alloc B2.out.size _)) (mrow_pair 7 y (heap_alloc_new _ _)) (by decide) (by rw [show isP 7 = true by decide, Bool.true_and]) (by omega))
            rw [show oneE sa y (y = (901 : Int)) = errI sa 2 by unfold oneE; rw [if_pos HP.out]] at K3
            unfold errI at K3
            clear hB2 K2
            go_wp2_with fail
            refine K3.out.mono ?_
            rintro e w3 ⟨a3, n3, c3, rfl, hB3⟩
            have B3 : Hid (Below w.heap.size w w3) := Lib.hid ((B2.out.alloc B2.out.size _).trans (hB3.mono (by have := B2.out.size; simp; omega)))
            have K4 := Lib.hid (ord_nil sa y w3 (HS.out.below B3.out))
            rw [show oneE sa y False = errI sa 2 by unfold oneE; rw [if_pos HP.out]] at K4
            unfold errI at K4
            clear hB3 K3
            go_wp2_with fail
            refine K4.out.mono ?_
            rintro e w4 ⟨a4, n4, c4, rfl, hB4⟩
            have B4 : Hid (Below w.heap.size w w4) := Lib.hid (B3.out.trans (hB4.mono B3.out.size))
            clear hB4 K4
            have K5 := Lib.hid (is103 sa w4 (HS.out.below B4.out))
            unfold errI at K5
            go_wp2_with fail
            refine K5.out.mono ?_
            rintro e w5 ⟨rfl, hB5⟩
            have B5 : Hid (Below w.heap.size w w5) := Lib.hid (B4.out.trans (hB5.mono B4.out.size))
            clear hB5 K5
            go_wp2_with fail
            go_ret
            exact ⟨rfl, B5.out⟩
        · skip
          have K2 := Lib.hid (ord_one sa W.heap.size 900 5 900 900 (900 = (900 : Int)) (W.alloc (.cells #[.int .i64 900, .int .i64 5] 112)) (HS.out.below (BW.out.alloc BW.out.size _)) (mrow_pair 900 5 (heap_alloc_new _ _)) (by decide) (by rw [show isP 5 = true by decide, Bool.and_true]) (by omega))
          rw [show oneE sa 900 (900 = (900 : Int)) = errI sa 4 by rfl] at K2
          unfold errI at K2
          go_wp2_with fail
          refine K2.out.mono ?_
          rintro e w2 ⟨a2, n2, c2, rfl, hB2⟩
          have B2 : Hid (Below w.heap.size w w2) := Lib.hid ((BW.out.alloc BW.out.size _).trans (hB2.mono (by have := BW.out.size; simp; omega)))
          have K3 := Lib.hid (ord_one sa w2.heap.size 7 900 900 901 (900 = (901 : Int)) (w2.alloc (.cells #[.int .i64 7, .int .i64 900] 112)) (HS.out.below (B2.out.alloc B2.out.size _)) (mrow_pair 7 900 (heap_alloc_new _ _)) (by decide) (by rw [show isP 7 = true by decide, Bool.true_and]) (by omega))
          rw [show oneE sa 900 (900 = (901 : Int)) = .nilIface by rfl] at K3
          clear hB2 K2
          go_wp2_with fail
          refine K3.out.mono ?_
          rintro e w3 ⟨a3, n3, c3, rfl, hB3⟩
          have B3 : Hid (Below w.heap.size w w3) := Lib.hid ((B2.out.alloc B2.out.size _).trans (hB3.mono (by have := B2.out.size; simp; omega)))
          have K4 := Lib.hid (ord_nil sa 900 w3 (HS.out.below B3.out))
          rw [show oneE sa 900 False = .nilIface by rfl] at K4
          clear hB3 K3
          go_wp2_with fail
          refine K4.out.mono ?_
          rintro e w4 ⟨a4, n4, c4, rfl, hB4⟩
          have B4 : Hid (Below w.heap.size w w4) := Lib.hid (B3.out.trans (hB4.mono B3.out.size))
          clear hB4 K4
          have K5 := Lib.hid (is105 sa w4 (HS.out.below B4.out))
          unfold errI at K5
          go_wp2_with fail
          refine K5.out.mono ?_
          rintro e w5 ⟨rfl, hB5⟩
          have B5 : Hid (Below w.heap.size w w5) := Lib.hid (B4.out.trans (hB5.mono B4.out.size))
          clear hB5 K5
          go_wp2_with fail
          go_ret
          exact ⟨rfl, B5.out⟩
        · skip
          have K2 := Lib.hid (ord_one sa W.heap.size 901 5 901 900 (901 = (900 : Int)) (W.alloc (.cells #[.int .i64 901, .int .i64 5] 112)) (HS.out.below (BW.out.alloc BW.out.size _)) (mrow_pair 901 5 (heap_alloc_new _ _)) (by decide) (by rw [show isP 5 = true by decide, Bool.and_true]) (by omega))
          rw [show oneE sa 901 (901 = (900 : Int)) = .nilIface by rfl] at K2
          go_wp2_with fail
          refine K2.out.mono ?_
          rintro e w2 ⟨a2, n2, c2, rfl, hB2⟩
          have B2 : Hid (Below w.heap.size w w2) := Lib.hid ((BW.out.alloc BW.out.size _).trans (hB2.mono (by have := BW.out.size; simp; omega)))
          have K3 := Lib.hid (ord_one sa w2.heap.size 7 901 901 901 (901 = (901 : Int)) (w2.alloc (.cells #[.int .i64 7, .int .i64 901] 112)) (HS.out.below (B2.out.alloc B2.out.size _)) (mrow_pair 7 901 (heap_alloc_new _ _)) (by decide) (by rw [show isP 7 = true by decide, Bool.true_and]) (by omega))
          rw [show oneE sa 901 (901 = (901 : Int)) = errI sa 4 by rfl] at K3
          unfold errI at K3
          clear hB2 K2
          go_wp2_with fail
          refine K3.out.mono ?_
          rintro e w3 ⟨a3, n3, c3, rfl, hB3⟩
          have B3 : Hid (Below w.heap.size w w3) := Lib.hid ((B2.out.alloc B2.out.size _).trans (hB3.mono (by have := B2.out.size; simp; omega)))
          have K4 := Lib.hid (ord_nil sa 901 w3 (HS.out.below B3.out))
          rw [show oneE sa 901 False = .nilIface by rfl] at K4
          clear hB3 K3
          go_wp2_with fail
          refine K4.out.mono ?_
          rintro e w4 ⟨a4, n4, c4, rfl, hB4⟩
          have B4 : Hid (Below w.heap.size w w4) := Lib.hid (B3.out.trans (hB4.mono B3.out.size))
          clear hB4 K4
          go_wp2_with fail
          go_ret
          exact ⟨rfl, B4.out⟩
        · have HP := Lib.hid hp
          have HN9 := Lib.hid h9
          have HN1 := Lib.hid h1
          simp only [isP, decide_eq_true_eq] at hp
          have u1 : decide (y ≥ -1000) = true := by simp; omega
          have u2 : decide (y ≤ 1000) = true := by simp; omega
          have u3 : (y != 900) = true := by simpa using h9
          have u4 : (y != 901) = true := by simpa using h1
          clear h9 h1 hp
          have K2 := Lib.hid (ord_one sa W.heap.size y 5 y 900 (y = (900 : Int)) (W.alloc (.cells #[.int .i64 y, .int .i64 5] 112)) (HS.out.below (BW.out.alloc BW.out.size _)) (mrow_pair y 5 (heap_alloc_new _ _)) (by decide) (by rw [show isP 5 = true by decide, Bool.and_true]) (by omega))
          rw [show oneE sa y (y = (900 : Int)) = .nilIface by unfold oneE; rw [HP.out, if_neg (by decide), if_neg HN9.out]] at K2
          go_wp2_with fail
          refine K2.out.mono ?_
          rintro e w2 ⟨a2, n2, c2, rfl, hB2⟩
          have B2 : Hid (Below w.heap.size w w2) := Lib.hid ((BW.out.alloc BW.out.size _).trans (hB2.mono (by have := BW.out.size; simp; omega)))
          have K3 := Lib.hid (ord_one sa w2.heap.size 7 y y 901 (y = (901 : Int)) (w2.alloc (.cells #[.int .i64 7, .int .i64 y] 112)) (HS.out.below (B2.out.alloc B2.out.size _)) (mrow_pair 7 y (heap_alloc_new _ _)) (by decide) (by rw [show isP 7 = true by decide, Bool.true_and]) (by omega))
          rw [show oneE sa y (y = (901 : Int)) = .nilIface by unfold oneE; rw [HP.out, if_neg (by decide), if_neg HN1.out]] at K3
          clear hB2 K2
          go_wp2_with fail
          refine K3.out.mono ?_
          rintro e w3 ⟨a3, n3, c3, rfl, hB3⟩
          have B3 : Hid (Below w.heap.size w w3) := Lib.hid ((B2.out.alloc B2.out.size _).trans (hB3.mono (by have := B2.out.size; simp; omega)))
          have K4 := Lib.hid (ord_nil sa y w3 (HS.out.below B3.out))
          rw [show oneE sa y False = .nilIface by unfold oneE; rw [HP.out, if_neg (by decide), if_neg (fun h => h)]] at K4
          clear hB3 K3
          go_wp2_with fail
          refine K4.out.mono ?_
          rintro e w4 ⟨a4, n4, c4, rfl, hB4⟩
          have B4 : Hid (Below w.heap.size w w4) := Lib.hid (B3.out.trans (hB4.mono B3.out.size))
          clear hB4 K4
          go_wp2_with fail
          go_ret
          exact ⟨rfl, B4.out⟩
      · have t2 : decide ((i : Int) > 500) = true := by simp; omega
        have K1 := Lib.hid (order_many sa va i vc 900 W0 (HS.out.below HB.out) (by omega) HROW.out.le HROW.out.max)
        unfold NoOrd errI at K1
        go_wp2_with fail
        refine K1.out.mono ?_
        rintro e w5 ⟨rfl, hB5⟩
        have B5 := Lib.hid (HB.out.trans (hB5.mono HB.out.size))
        have KC := Lib.hid (is101 sa w5 (HS.out.below B5.out))
        unfold errI at KC
        clear hB5 K1
        go_wp2_with fail
        refine KC.out.mono ?_
        rintro e W ⟨rfl, hB6⟩
        have BW : Hid (Below w.heap.size w W) := Lib.hid (B5.out.trans (hB6.mono B5.out.size))
        clear hB6 KC B5 HROW
        go_wp2_with fail
        go_ret
        exact ⟨rfl, BW.out⟩

theorem none_main (x y : Int) (w : World) (_hx : (Lit.int .i64 x).wf = true) (_hy : (Lit.int .i64 y).wf = true) (hL : laidMetH Tryd.prog Rows.movesNoneRow.laid w) : Calls Tryd.prog 13 #[.int .i64 x, .int .i64 y] w (TruePost w) := by
  obtain ⟨sa, S⟩ := sents_of_laid (show (sentTexts.map mkSent : List (String × DataW Unit)) = Rows.movesNoneRow.laid from rfl) (by kernel_rfl) hL
  have e1 := lowb3_i64 x
  obtain ⟨a, ha⟩ : ∃ a : Nat, x % 8 = (a : Int) := ⟨(x % 8).toNat, by omega⟩
  rw [ha] at e1
  exact none_walk x y w sa S a e1 (by omega)

end Go.Proofs.YtbpamcgmhnnmnaaDoor

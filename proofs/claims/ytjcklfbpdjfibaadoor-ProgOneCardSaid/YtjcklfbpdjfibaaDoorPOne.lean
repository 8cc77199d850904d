/-
  The law on any one instruction: true, whatever comes.
-/
import Derived.Test.YtjcklfbpdjfibaaDoorPOne0
namespace Go.Proofs.YtjcklfbpdjfibaaDoor
open Go.RowKit

def lits : List Int := [3, 4, 24, 27, 25, 26, 28, 29, 30, 32, 22, 23, 1]

theorem one_kind_c {op A B N : Int} (h : op < 1 ∨ 35 < op) : oneC op A B N = 2 := by rw [oneC, instrC, if_pos h]

set_option maxHeartbeats 2000000 in
set_option maxRecDepth 100000 in
theorem pone_kind (a : Nat → Addr) (op A B N : Int) (w : World) (hS : Sents a w) (hop : op < 1 ∨ 35 < op) :
    Calls Tryd.prog 6 #[.int .i64 op, .int .i64 A, .int .i64 B, .int .i64 N] w (TruePost w) := by
  have F := Lib.hid (pfirst a w hS)
  have H := Lib.hid hS
  have HC : oneC op A B N = 2 := one_kind_c hop
  have HOP := Lib.hid hop
  clear hS hop
  go_enter Tryd.func6, Tryd.ntmps6
  go_wp2_with fail
  refine F.out.mono ?_
  rintro e w1 ⟨rfl, hb1⟩
  have HB1 := Lib.hid hb1
  clear hb1 F
  go_wp2_with fail
  refine (one_prog op A B N w1).mono ?_
  rintro e w2 ⟨cb, mb, k1, k2, rfl, hO, hb2⟩
  have HB2 := Lib.hid (HB1.out.trans (hb2.mono HB1.out.size))
  have HB3 : Hid (Below w.heap.size w (w2.alloc (.cells #[.slice (some ⟨cb, 0, none⟩) 2 2, .slice (some ⟨mb, 0, none⟩) 2 2] 46))) := Lib.hid (HB2.out.alloc HB2.out.size _)
  have hM := may_two a cb mb k1 k2 op A B N _ (H.out.below HB3.out) (hO.below ((Below.refl _ _).alloc (Nat.le_refl _) (.cells #[.slice (some ⟨cb, 0, none⟩) 2 2, .slice (some ⟨mb, 0, none⟩) 2 2] 46)))
  rw [HC, if_neg (by omega)] at hM
  have HM := Lib.hid hM
  clear hM hO hb2 HC
  go_wp2_with fail
  refine HM.out.mono ?_
  rintro e w4 ⟨hb4, b, rfl, hbb, hbox⟩
  have HB4 := Lib.hid (HB3.out.trans (hb4.mono HB3.out.size))
  have HBOX := Lib.hid hbox
  clear hb4 hbb hbox HM
  have t : decide (op < 1) = true ∨ (decide (op < 1) = false ∧ decide (35 < op) = true) := by
    rcases HOP.out with h | h
    · exact .inl (by simpa using h)
    · by_cases h1 : op < 1
      · exact .inl (by simpa using h1)
      · exact .inr ⟨by simpa using h1, by simpa using h⟩
  rcases t with t | ⟨t, t2⟩
  all_goals
    go_wp2_with fail
    refine (there_any 102 1 1 _).mono ?_
    rintro e w5 ⟨g, rfl, g0, g1, hb5⟩
    have hb := HB4.out.trans (hb5.mono HB4.out.size)
    have SW := Lib.hid (same_where a b 1 1 1 g 2 w5 (H.out.below hb) (by omega) (HBOX.out.below hb5) (row_two g0 g1 (Nat.le_refl _) (by unfold maxLen; omega) rfl rfl))
    have HB5 := Lib.hid hb
    clear hb5 hb g0 g1
    go_wp2_with fail
    refine SW.out.mono ?_
    rintro e w6 ⟨rfl, hb6⟩
    have HB6 := Lib.hid (HB5.out.trans (hb6.mono HB5.out.size))
    clear hb6
    go_wp2_with fail
    go_ret
    exact ⟨rfl, HB6.out⟩

end Go.Proofs.YtjcklfbpdjfibaaDoor

/-
  The law on any one instruction: one that leads out of its method.
-/
import Derived.Test.YtjcklfbpdjfibaaDoorPOne0
namespace Go.Proofs.YtjcklfbpdjfibaaDoor
open Go.RowKit

set_option maxHeartbeats 40000000 in
set_option maxRecDepth 100000 in
theorem pone_target (a : Nat → Addr) (op A B N : Int) (w : World) (hS : Sents a w) (hok : 1 ≤ op ∧ op ≤ 35 ∧ (op = 22 ∨ op = 23) ∧ (A < 0 ∨ 1 < A)) (HC : oneC op A B N = 4) :
    Calls Tryd.prog 6 #[.int .i64 op, .int .i64 A, .int .i64 B, .int .i64 N] w (TruePost w) := by
  have F := Lib.hid (pfirst a w hS)
  have H := Lib.hid hS
  have HX : Hid (A < 0 ∨ 1 < A) := Lib.hid hok.2.2.2
  rcases hok.2.2.1 with rfl | rfl
  all_goals
   clear hS hok
   go_enter Tryd.func6, Tryd.ntmps6
   go_wp2_with fail
   refine F.out.mono ?_
   rintro e w1 ⟨rfl, hb1⟩
   have HB1 := Lib.hid hb1
   clear hb1 F
   go_wp2_with fail
   refine (one_prog _ A B N w1).mono ?_
   rintro e w2 ⟨cb, mb, k1, k2, rfl, hO, hb2⟩
   have HB2 := Lib.hid (HB1.out.trans (hb2.mono HB1.out.size))
   have HB3 : Hid (Below w.heap.size w (w2.alloc (.cells #[.slice (some ⟨cb, 0, none⟩) 2 2, .slice (some ⟨mb, 0, none⟩) 2 2] 46))) := Lib.hid (HB2.out.alloc HB2.out.size _)
   have hM := may_two a cb mb k1 k2 _ A B N _ (H.out.below HB3.out) (hO.below ((Below.refl _ _).alloc (Nat.le_refl _) (.cells #[.slice (some ⟨cb, 0, none⟩) 2 2, .slice (some ⟨mb, 0, none⟩) 2 2] 46)))
   rw [HC, if_neg (by omega)] at hM
   have HM := Lib.hid hM
   clear hM hO hb2 HC
   go_wp2_with fail
   refine HM.out.mono ?_
   rintro e w4 ⟨hb4, b, rfl, hbb, hbox⟩
   have HB4 := Lib.hid (HB3.out.trans (hb4.mono HB3.out.size))
   have HBOX := Lib.hid hbox
   have HS4 := Lib.hid (H.out.below HB4.out)
   clear hb4 hbb hbox HM HB1 HB2 HB3 H
   go_wp2_with fail
   all_goals first
     | (have h := HX.out
        clear HX HBOX HS4 HB4
        (exfalso; (try simp only [bne_iff_ne, ne_eq, bne_eq_false_iff_eq] at *); omega))
     | (refine (there_any _ _ _ _).mono ?_
        rintro e w5 ⟨g, rfl, g0, g1, hb5⟩
        have hb := HB4.out.trans (hb5.mono HB4.out.size)
        have SW := Lib.hid (same_where a b 3 1 1 g 2 w5 (HS4.out.below hb5) (by omega) (HBOX.out.below hb5) (row_two g0 g1 (Nat.le_refl _) (by unfold maxLen; omega) rfl rfl))
        have HB5 := Lib.hid hb
        clear hb5 hb g0 g1
        go_wp2_with fail
        refine SW.out.mono ?_
        rintro e w6 ⟨rfl, hb6⟩
        have HB6 := Lib.hid (HB5.out.trans (hb6.mono HB5.out.size))
        clear hb6
        go_wp2_with fail
        go_ret
        exact ⟨rfl, HB6.out⟩)

end Go.Proofs.YtjcklfbpdjfibaaDoor

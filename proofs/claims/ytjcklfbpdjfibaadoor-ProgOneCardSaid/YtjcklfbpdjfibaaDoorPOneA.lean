/-
  The law on any one instruction: one that may be.
-/
import Derived.Test.YtjcklfbpdjfibaaDoorPOne0
namespace Go.Proofs.YtjcklfbpdjfibaaDoor
open Go.RowKit

set_option maxHeartbeats 40000000 in
set_option maxRecDepth 100000 in
theorem pone_ok (a : Nat → Addr) (op A B N : Int) (w : World) (hS : Sents a w) (hok : okOne op A B N) (HC : oneC op A B N = 0) :
    Calls Tryd.prog 6 #[.int .i64 op, .int .i64 A, .int .i64 B, .int .i64 N] w (TruePost w) := by
  have F := Lib.hid (pfirst a w hS)
  have H := Lib.hid hS
  have HOK := Lib.hid hok
  clear hS hok
  go_enter Tryd.func6, Tryd.ntmps6
  go_wp2_with fail
  refine F.out.mono ?_
  rintro e w1 ⟨rfl, hb1⟩
  have HB1 := Lib.hid hb1
  clear hb1 F
  go_wp2_with fail
  refine (one_prog op A B N w1).mono ?_
  rintro e w2 ⟨cb, mb, k1, k2, rfl, hO, hb2⟩
  have HB2 := Lib.hid (HB1.out.trans (hb2.mono HB1.out.size))
  have HB3 : Hid (Below w.heap.size w (w2.alloc (.cells #[.slice (some ⟨cb, 0, none⟩) 2 2, .slice (some ⟨mb, 0, none⟩) 2 2] 46))) := Lib.hid (HB2.out.alloc HB2.out.size _)
  have hM := may_two a cb mb k1 k2 op A B N _ (H.out.below HB3.out) (hO.below ((Below.refl _ _).alloc (Nat.le_refl _) (.cells #[.slice (some ⟨cb, 0, none⟩) 2 2, .slice (some ⟨mb, 0, none⟩) 2 2] 46)))
  rw [HC, if_pos rfl] at hM
  have HM := Lib.hid hM
  clear hM hO hb2 HC
  go_wp2_with fail
  refine HM.out.mono ?_
  rintro e w4 ⟨hb4, rfl⟩
  have HB4 := Lib.hid (HB3.out.trans (hb4.mono HB3.out.size))
  clear hb4 HM HB1 HB2 HB3 H
  have t1 : decide (op < 1) = false := by have := HOK.out.1; simp; omega
  have t2 : decide (35 < op) = false := by have := HOK.out.2.1; simp; omega
  go_wp2_with fail
  all_goals first
    | (go_ret; exact ⟨rfl, HB4.out⟩)
    | (have h := HOK.out
       unfold okOne at h
       clear HOK
       first | (exfalso; omega) | (exfalso; (try simp only [beq_iff_eq, beq_eq_false_iff_ne, bne_iff_ne, ne_eq, bne_eq_false_iff_eq] at *); omega))

end Go.Proofs.YtjcklfbpdjfibaaDoor

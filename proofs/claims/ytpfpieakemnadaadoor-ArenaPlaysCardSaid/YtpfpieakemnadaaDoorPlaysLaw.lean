/-
  The law on plays, whole: what is too long, too great, or no size.
-/
import Derived.Test.YtpfpieakemnadaaDoorPlays
namespace Go.Proofs.YtpfpieakemnadaaDoor
open Go.RowKit

theorem is_111 (a : Nat → Addr) (w : World) (h : Sents a w) :
    Calls Tryd.prog 48 #[.iface 178 (.pointer (some (a 10))), .int .i64 111] w (TruePost w) := is_plain a 10 w h (by omega)

set_option maxRecDepth 100000 in
theorem plays_law (n : Int) (a : Option Addr) (len cap : Nat) (gv : Nat → Nat → Int) (ask : Int) (w : World) (hn : (Lit.int .i64 n).wf = true) (hd : Dos w a len cap gv) (hask : (Lit.int .i64 ask).wf = true)
    (laid : List (String × DataW Unit)) (e : sentTexts.map mkSent = laid) (hh : (laid.filter fun x => x.2.handleName?.isSome) = []) (hL : laidMetH Tryd.prog laid w) :
    Calls Tryd.prog 12 #[.int .i64 n, .slice a len cap, .int .i64 ask] w (TruePost w) := by
  obtain ⟨at', hS⟩ := sents_of_laid e hh hL
  have HS := Lib.hid hS
  clear hS hL e hh laid
  have hmax := hd.max
  have hle := hd.le
  unfold maxLen at hmax
  by_cases h60 : len ≤ 60
  · by_cases hno : n < 0 ∨ 65536 < n
    · have HNO := Lib.hid hno
      have d1 : decide ((60 : Int) < (len : Int)) = false := by simp; omega
      by_cases h0 : n < 0
      · have d2 : decide (n < 0) = true := by simp; omega
        clear hno hd
        go_enter Tryd.func12, Tryd.ntmps12
        go_wp2_with fail
        refine (afirst _).mono ?_
        rintro e w1 ⟨rfl, hB⟩
        have HS1 := Lib.hid (HS.out.below hB)
        have HB := Lib.hid hB
        clear hB
        go_wp2_with fail
        refine (new_no at' n _ HS1.out HNO.out).mono ?_
        rintro e w2 ⟨rfl, q, rfl⟩
        have HS2 := Lib.hid (HS1.out.below (below_drewN (Below.refl _ _) q))
        go_wp2_with fail
        refine (is_111 at' _ HS2.out).mono ?_
        rintro e w3 ⟨rfl, hb3⟩
        go_wp2_with fail
        go_ret
        exact ⟨rfl, HB.out.trans ((below_drewN (Below.refl _ _) q).trans (hb3.mono HB.out.size))⟩
      · have d2 : decide (n < 0) = false := by simp; omega
        have d3 : decide (65536 < n) = true := by simp; omega
        clear hno hd
        go_enter Tryd.func12, Tryd.ntmps12
        go_wp2_with fail
        refine (afirst _).mono ?_
        rintro e w1 ⟨rfl, hB⟩
        have HS1 := Lib.hid (HS.out.below hB)
        have HB := Lib.hid hB
        clear hB
        go_wp2_with fail
        refine (new_no at' n _ HS1.out HNO.out).mono ?_
        rintro e w2 ⟨rfl, q, rfl⟩
        have HS2 := Lib.hid (HS1.out.below (below_drewN (Below.refl _ _) q))
        go_wp2_with fail
        refine (is_111 at' _ HS2.out).mono ?_
        rintro e w3 ⟨rfl, hb3⟩
        go_wp2_with fail
        go_ret
        exact ⟨rfl, HB.out.trans ((below_drewN (Below.refl _ _) q).trans (hb3.mono HB.out.size))⟩
    · obtain ⟨N, rfl⟩ : ∃ N : Nat, n = (N : Int) := ⟨n.toNat, by omega⟩
      by_cases h200 : N ≤ 200
      · exact plays_main N a len cap gv ask w hd hask h60 h200
      · have d1 : decide ((60 : Int) < (len : Int)) = false := by simp; omega
        have d2 : decide ((N : Int) < 0) = false := by simp
        have d3 : decide ((65536 : Int) < (N : Int)) = false := by simp; omega
        have d4 : decide ((200 : Int) < (N : Int)) = true := by simp; omega
        clear hno hd
        go_enter Tryd.func12, Tryd.ntmps12
        go_wp2_with fail
        refine (afirst _).mono ?_
        rintro e w1 ⟨rfl, hB⟩
        go_wp2_with fail
        go_ret
        exact ⟨rfl, hB⟩
  · have d1 : decide ((60 : Int) < (len : Int)) = true := by simp; omega
    clear hd
    go_enter Tryd.func12, Tryd.ntmps12
    go_wp2_with fail
    refine (afirst _).mono ?_
    rintro e w1 ⟨rfl, hB⟩
    go_wp2_with fail
    go_ret
    exact ⟨rfl, hB⟩

end Go.Proofs.YtpfpieakemnadaaDoor

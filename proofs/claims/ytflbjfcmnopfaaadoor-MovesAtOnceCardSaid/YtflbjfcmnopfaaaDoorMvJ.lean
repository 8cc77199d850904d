/-
  MovesAtOnce: lists that the law does not ask about, and too long ones.
-/
import Derived.Test.YtflbjfcmnopfaaaDoorMvO
namespace Go.Proofs.YtflbjfcmnopfaaaDoor
open Go.RowKit

set_option maxHeartbeats 2000000 in
set_option maxRecDepth 100000 in
/-- Lists that the law does not ask about. -/
theorem once_off (a : Option Addr) (len cap : Nat) (spare : Int) (ka : Option Addr) (kn kc : Nat) (w : World) (hm : len ≤ 9223372036854775807) (hk : kn ≤ 9223372036854775807) (h : (60 < len ∧ len ≤ 500) ∨ 600 < len ∨ 40 < kn) :
    Calls Tryd.prog 13 #[.slice a len cap, .int .i64 spare, .slice ka kn kc] w (TruePost w) := by
  by_cases g1 : 60 < len
  · have t1 : decide ((len : Int) > 60) = true := by simp; omega
    by_cases g2 : len ≤ 500
    · have t2 : decide ((len : Int) ≤ 500) = true := by simp; omega
      clear h g1 g2
      go_enter Tryd.func13, Tryd.ntmps13
      go_wp2_with fail
      refine (mfirstF w).mono ?_
      rintro e w1 ⟨rfl, hB1⟩
      go_wp2_with fail
      go_ret
      exact ⟨rfl, hB1⟩
    · have t2 : decide ((len : Int) ≤ 500) = false := by simp; omega
      by_cases g3 : 600 < len
      · have t3 : decide ((len : Int) > 600) = true := by simp; omega
        clear h g1 g2 g3
        go_enter Tryd.func13, Tryd.ntmps13
        go_wp2_with fail
        refine (mfirstF w).mono ?_
        rintro e w1 ⟨rfl, hB1⟩
        go_wp2_with fail
        go_ret
        exact ⟨rfl, hB1⟩
      · have t3 : decide ((len : Int) > 600) = false := by simp; omega
        have t4 : decide ((kn : Int) > 40) = true := by simp; omega
        clear h g1 g2 g3
        go_enter Tryd.func13, Tryd.ntmps13
        go_wp2_with fail
        refine (mfirstF w).mono ?_
        rintro e w1 ⟨rfl, hB1⟩
        go_wp2_with fail
        go_ret
        exact ⟨rfl, hB1⟩
  · have t1 : decide ((len : Int) > 60) = false := by simp; omega
    by_cases g3 : 600 < len
    · omega
    · have t3 : decide ((len : Int) > 600) = false := by simp; omega
      have t4 : decide ((kn : Int) > 40) = true := by simp; omega
      clear h g1 g3
      go_enter Tryd.func13, Tryd.ntmps13
      go_wp2_with fail
      refine (mfirstF w).mono ?_
      rintro e w1 ⟨rfl, hB1⟩
      go_wp2_with fail
      go_ret
      exact ⟨rfl, hB1⟩

set_option maxHeartbeats 2000000 in
set_option maxRecDepth 100000 in
/-- Too many moves. -/
theorem once_many (sa : Nat → Addr) (a : Option Addr) (len cap : Nat) (spare : Int) (ka : Option Addr) (kn kc : Nat) (w : World) (S : Sents sa w) (hle : len ≤ cap) (hmax : cap ≤ maxLen) (h : 500 < len ∧ len ≤ 600) (hk : kn ≤ 40) :
    Calls Tryd.prog 13 #[.slice a len cap, .int .i64 spare, .slice ka kn kc] w (TruePost w) := by
  have t1 : decide ((len : Int) > 60) = true := by simp; omega
  have t2 : decide ((len : Int) ≤ 500) = false := by simp; omega
  have t3 : decide ((len : Int) > 600) = false := by simp; omega
  have t4 : decide ((kn : Int) > 40) = false := by simp; omega
  have t5 : decide ((len : Int) > 500) = true := by simp; omega
  have KO := Lib.hid (fun w' (hb : Below w.heap.size w w') => order_many sa a len cap spare w' (S.below hb) h.1 hle hmax)
  have KI := Lib.hid (fun w' (hb : Below w.heap.size w w') => is_plain sa 0 w' (S.below hb) (by decide))
  unfold NoOrd errI at KO
  unfold maxLen at hmax
  clear S h hk
  go_enter Tryd.func13, Tryd.ntmps13
  go_wp2_with fail
  refine (mfirstF w).mono ?_
  rintro e w1 ⟨rfl, hB1⟩
  have HB1 := Lib.hid hB1
  clear hB1
  go_wp2_with fail
  refine (KO.out w1 HB1.out).mono ?_
  rintro e w2 ⟨rfl, hB2⟩
  have HB2 := Lib.hid (HB1.out.trans (hB2.mono HB1.out.size))
  clear hB2
  go_wp2_with (go_at_call 65; refine (KI.out w2 HB2.out).mono ?_; rintro e w3 ⟨rfl, hB3⟩; replace hB3 := Lib.hid hB3)
  go_ret
  exact ⟨rfl, HB2.out.trans (hB3.out.mono HB2.out.size)⟩

end Go.Proofs.YtflbjfcmnopfaaaDoor

/-
  The law on a script that is printed and read again, and on its options' number: true, whatever comes.
-/
import Derived.Test.YtjcklfbpdjfibaaDoorParF
import Derived.Test.YtjcklfbpdjfibaaDoorParA
import Derived.Test.YtjcklfbpdjfibaaDoorPrnB
import Derived.Test.YtjcklfbpdjfibaaDoorPik2
import Derived.Test.YtjcklfbpdjfibaaDoorPik4
import Derived.Test.YtjcklfbpdjfibaaDoorSameB
import Derived.Test.YtjcklfbpdjfibaaDoorUnp
import Derived.Test.YtjcklfbpdjfibaaDoorPakA
import Derived.Deep.Slices
import Derived.ChangeArms
namespace Go.Proofs.YtjcklfbpdjfibaaDoor
open Go.RowKit Go.ChangeShapes Go.WideShapes Go.Deep

/-- Parse of any bytes, none too. -/
theorem parse_any0 (a : Nat → Addr) (ba : Option Addr) (n bc : Nat) (bs : List Nat) (w : World) (hS : Sents6 a w) (hr : Row .u8 w ba n bc (intsR bs)) (hnl : n ≤ 2000) (hb8 : ∀ g ∈ bs, g < 256) :
    Calls Tryd.prog 67 #[.slice ba n bc] w (ParseA bs w) := by
  by_cases h : 0 < n
  · obtain ⟨b, off, rfl, _⟩ := Row_at hr h
    exact parse_any a b off n bc bs w hS hS.four hr h hnl hb8
  · obtain rfl : n = 0 := by omega
    have hl := hr.len_eq
    have hbs : bs = [] := by
      cases bs with
      | nil => rfl
      | cons x xs => simp [intsR] at hl
    subst hbs
    refine (parse_full a ba 0 bc 0 (fun _ _ => 0) w hS hS.four hr (by omega) (fun i hi => by omega) rfl hr.max).mono ?_
    rintro e w' ⟨hb, oa, oc, rfl, hp⟩
    exact ⟨hb, .inl ⟨0, _, oa, oc, by omega, fun i hi => by omega, rfl, rfl, hp⟩⟩

theorem bits_pack (r : Int) (y0 y1 y2 y3 y4 : Bool) : packS r (five y0 y1 y2 y3 y4) 5 < 512 ∧ bitN (packS r (five y0 y1 y2 y3 y4) 5) 0 = y0 ∧ bitN (packS r (five y0 y1 y2 y3 y4) 5) 1 = y1 ∧ bitN (packS r (five y0 y1 y2 y3 y4) 5) 2 = y2 ∧ bitN (packS r (five y0 y1 y2 y3 y4) 5) 3 = y3 ∧ bitN (packS r (five y0 y1 y2 y3 y4) 5) 4 = y4 ∧ 1 + ((packS r (five y0 y1 y2 y3 y4) 5 : Nat) : Int) / 32 % 16 = (clampR r : Int) := by
  have hc := clampR_in r
  have hlow : lowS (five y0 y1 y2 y3 y4) 5 = (if y0 then 1 else 0) + (if y1 then 2 else 0) + (if y2 then 4 else 0) + (if y3 then 8 else 0) + (if y4 then 16 else 0) := by
    cases y0 <;> cases y1 <;> cases y2 <;> cases y3 <;> cases y4 <;> rfl
  rw [packS, hlow]
  unfold bitN
  have p0 : (2 : Nat) ^ 0 = 1 := rfl
  have p1 : (2 : Nat) ^ 1 = 2 := rfl
  have p2 : (2 : Nat) ^ 2 = 4 := rfl
  have p3 : (2 : Nat) ^ 3 = 8 := rfl
  have p4 : (2 : Nat) ^ 4 = 16 := rfl
  rw [p0, p1, p2, p3, p4]
  generalize clampR r = c at *
  cases y0 <;> cases y1 <;> cases y2 <;> cases y3 <;> cases y4 <;> (simp; omega)

end Go.Proofs.YtjcklfbpdjfibaaDoor

/-
  The set by what is in it: Clone, Join, Less, Same; and the law's own 'set', a set of a list's numbers.
-/
import Derived.Test.YtpfpieakemnadaaDoorJoin
import Derived.Test.YtpfpieakemnadaaDoorBFirst
namespace Go.Proofs.YtpfpieakemnadaaDoor
open Go.RowKit

theorem bitAt_ext {ws vs : List Nat} : (∀ k, ws.getD k 0 = vs.getD k 0) → ∀ j, bitAt ws j = bitAt vs j := fun h j => by unfold bitAt; rw [h]

def CloneFPost (n : Nat) (f : Nat → Bool) (w : World) (e : Ending) (w' : World) : Prop :=
  ∃ u v, e = .returned (.pointer (some ⟨u, 0, none⟩)) ∧ SetF w.heap.size u v n f w' ∧ Below w.heap.size w w'

theorem cloneF {B s r n : Nat} {f : Nat → Bool} (w : World) (h : SetF B s r n f w) :
    Calls Tryd.prog 26 #[.pointer (some ⟨s, 0, none⟩)] w (CloneFPost n f w) := by
  obtain ⟨ws, h1, h2⟩ := h
  refine (clone_set w h1).mono ?_
  rintro e w' ⟨u, v, rfl, hs, hb⟩
  exact ⟨u, v, rfl, ⟨ws, hs, h2⟩, hb⟩

def JoinFPost (B s r n : Nat) (f g : Nat → Bool) (w : World) (e : Ending) (w' : World) : Prop :=
  ∃ fr : Bool, e = .returned (.bool fr) ∧ SetF B s r n (fun j => f j || (g j && decide (j < n))) w' ∧ (fr = true ↔ ∃ j, j < n ∧ g j = true ∧ f j = false) ∧ w.grownBy w' (some r)

theorem joinF {B s r n C u v m : Nat} {f g : Nat → Bool} (w : World) (h1 : SetF B s r n f w) (h2 : SetF C u v m g w) (hru : r ≠ u) (hrv : r ≠ v) :
    Calls Tryd.prog 24 #[.pointer (some ⟨s, 0, none⟩), .pointer (some ⟨u, 0, none⟩)] w (JoinFPost B s r n f g w) := by
  obtain ⟨ws, a1, a2⟩ := h1
  obtain ⟨vs, b1, b2⟩ := h2
  refine (join_set w a1 b1 hru hrv).mono ?_
  rintro e w' ⟨fr, rfl, ⟨xs, hs, hx⟩, hf, hg⟩
  refine ⟨fr, rfl, ⟨xs, hs, fun j => by rw [hx, a2, b2]⟩, ?_, hg⟩
  rw [hf]
  constructor
  · rintro ⟨j, h1, h2, h3⟩
    exact ⟨j, h1, (b2 j).symm.trans h2, (a2 j).symm.trans h3⟩
  · rintro ⟨j, h1, h2, h3⟩
    exact ⟨j, h1, (b2 j).trans h2, (a2 j).trans h3⟩

def LessFPost (B s r n : Nat) (f g : Nat → Bool) (w : World) (e : Ending) (w' : World) : Prop :=
  e = .returned (.tuple #[]) ∧ SetF B s r n (fun j => f j && !g j) w' ∧ w.grownBy w' (some r)

theorem lessF {B s r n C u v m : Nat} {f g : Nat → Bool} (w : World) (h1 : SetF B s r n f w) (h2 : SetF C u v m g w) (hru : r ≠ u) (hrv : r ≠ v) :
    Calls Tryd.prog 25 #[.pointer (some ⟨s, 0, none⟩), .pointer (some ⟨u, 0, none⟩)] w (LessFPost B s r n f g w) := by
  obtain ⟨ws, a1, a2⟩ := h1
  obtain ⟨vs, b1, b2⟩ := h2
  refine (less_set w a1 b1 hru hrv).mono ?_
  rintro e w' ⟨rfl, ⟨xs, hs, hx⟩, hg⟩
  exact ⟨rfl, ⟨xs, hs, fun j => by rw [hx, a2, b2]⟩, hg⟩

def SameFPost (f g : Nat → Bool) (w : World) (e : Ending) (w' : World) : Prop :=
  ∃ b : Bool, e = .returned (.bool b) ∧ (b = true ↔ ∀ j, f j = g j) ∧ ∃ q, w' = w.drewN q

theorem sameF {B s r n C u v m : Nat} {f g : Nat → Bool} (w : World) (h1 : SetF B s r n f w) (h2 : SetF C u v m g w) :
    Calls Tryd.prog 27 #[.pointer (some ⟨s, 0, none⟩), .pointer (some ⟨u, 0, none⟩)] w (SameFPost f g w) := by
  obtain ⟨ws, a1, a2⟩ := h1
  obtain ⟨vs, b1, b2⟩ := h2
  refine (same_set w a1 b1).mono ?_
  rintro e w' ⟨b, rfl, hb, q, rfl⟩
  refine ⟨b, rfl, ?_, q, rfl⟩
  rw [hb]
  constructor
  · intro h j
    rw [← a2, ← b2]
    exact bitAt_ext h j
  · intro h k
    exact word_of_bits a1.small b1.small (fun j => by rw [a2, b2]; exact h j) k

theorem SetF.grown {B s r n g : Nat} {f : Nat → Bool} {w w' : World} (h : SetF B s r n f w) (hg : w.grownBy w' (some g)) (h1 : s ≠ g) (h2 : r ≠ g) : SetF B s r n f w' :=
  h.kept (hg.block s h.lt.1 (by simp; exact h1)) (hg.block r h.lt.2 (by simp; exact h2))
theorem SetF.stays {B s r n : Nat} {f : Nat → Bool} {w w' : World} (h : SetF B s r n f w) (hb : Below w.heap.size w w') : SetF B s r n f w' := h.below hb h.lt.1 h.lt.2
theorem SetF.drewN {B s r n : Nat} {f : Nat → Bool} {w : World} (h : SetF B s r n f w) (q : Nat) : SetF B s r n f (w.drewN q) := h.kept rfl rfl

/-- The numbers of a list that have place. -/
def inL (zs : List Int) (n j : Nat) : Bool := decide (j < n) && zs.contains (j : Int)

theorem inL_next (zs : List Int) (n i : Nat) (x : Int) (hi : i < zs.length) (hx : x = zs.getD i 0) (j : Nat) : (inL (zs.take i) n j || (inB x n && decide (j = x.toNat))) = inL (zs.take (i + 1)) n j := by
  have e : zs.take (i + 1) = zs.take i ++ [x] := by rw [List.take_add_one, hx]; simp [List.getD, hi]
  rw [Bool.eq_iff_iff, e]
  simp [inL, inB, List.contains_eq_mem]
  constructor
  · rintro (⟨h1, h2⟩ | ⟨⟨h1, h2⟩, h3⟩)
    · exact ⟨h1, .inl h2⟩
    · exact ⟨by omega, .inr (by omega)⟩
  · rintro ⟨h1, h2 | h2⟩
    · exact .inl ⟨h1, h2⟩
    · exact .inr ⟨⟨by omega, by omega⟩, by omega⟩

def SetRel (w : World) (s r n len : Nat) (zs : List Int) (si : Value) (wr : World) : Prop :=
  ∃ i : Nat, i ≤ len ∧ si = .int .i64 i ∧ SetF w.heap.size s r n (inL (zs.take i) n) wr ∧ Below w.heap.size w wr

set_option maxRecDepth 100000 in
theorem set_of (n : Nat) (a : Option Addr) (len cap : Nat) (zs : List Int) (w : World) (hn : n ≤ 1048576) (hl : Row .i64 w a len cap zs) :
    Calls Tryd.prog 18 #[.int .i64 n, .slice a len cap] w (fun e w' => ∃ s r, e = .returned (.pointer (some ⟨s, 0, none⟩)) ∧ SetF w.heap.size s r n (inL zs n) w' ∧ Below w.heap.size w w') := by
  have hmax := hl.max
  have hle := hl.le
  unfold maxLen at hmax
  have HR := Lib.hid hl
  clear hl
  go_enter Tryd.func18, Tryd.ntmps18
  go_wp2_with fail
  refine (newF n _ hn).mono ?_
  rintro e w1 ⟨s, r, rfl, hs, hb⟩
  have HS : Hid (SetF w.heap.size s r n (inL (zs.take 0) n) w1) := Lib.hid (hs.congr fun j => by simp [inL])
  have HB := Lib.hid hb
  clear hs hb
  go_wp2_with fail
  go_loopw [6] (fun si wr => SetRel w s r n len zs si wr) (fun si _ => len - (intOf si).toNat)
  case atStart => exact ⟨0, Nat.zero_le _, rfl, HS.out, HB.out⟩
  case round =>
    obtain ⟨i, hi, rfl, hs, hb⟩ := hrel
    clear HS HB
    have HS := Lib.hid hs
    have HB := Lib.hid hb
    clear hs hb
    by_cases hlt : i < len
    · have t1 : decide (i < len) = true := by simpa using hlt
      obtain ⟨lb, lo, rfl, hc⟩ := Row_at HR.out (by omega)
      have hblk : lb < w.heap.size := Row_lt HR.out (by omega) ⟨lb, lo, none⟩ rfl
      have cx : wr.cell? ⟨lb, lo + i, none⟩ = some (.int .i64 (zs.getD i 0)) := (HB.out.cell (p := ⟨lb, lo + i, none⟩) hblk).trans (hc i hlt)
      have hnx := inL_next zs n i _ (by rw [HR.out.len_eq]; exact hlt) rfl
      generalize zs.getD i 0 = x at *
      have HNX := Lib.hid hnx
      clear hnx hc
      go_wp2_with fail
      refine (addF x _ HS.out).mono ?_
      rintro e w2 ⟨rfl, hs2, hg2⟩
      have H2 : Hid (SetF w.heap.size s r n (inL (zs.take (i + 1)) n) w2) := Lib.hid (hs2.congr HNX.out)
      have B2 : Hid (Below w.heap.size w w2) := Lib.hid (below_own HB.out hg2 hs2.lo.2)
      clear hs2 hg2
      go_wp2_with fail
      go_roundw
      case rel => exact ⟨i + 1, by omega, by go_num, H2.out, B2.out⟩
      case measure => simp [intOf]; omega
    · obtain rfl : i = len := by omega
      have t1 : decide (i < i) = false := by simp
      go_wp2_with fail
      go_ret
      refine ⟨s, r, rfl, ?_, HB.out⟩
      have e : zs.take i = zs := by rw [← HR.out.len_eq, List.take_length]
      have h := HS.out
      rw [e] at h
      exact h

end Go.Proofs.YtpfpieakemnadaaDoor

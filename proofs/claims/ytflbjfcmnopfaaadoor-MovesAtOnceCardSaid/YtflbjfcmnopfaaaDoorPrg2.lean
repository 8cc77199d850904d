/-
  Package prog: named: whether the things that an instruction names are there.
-/
import Derived.Test.YtflbjfcmnopfaaaDoorPrg1
namespace Go.Proofs.YtflbjfcmnopfaaaDoor
open Go.RowKit

/-- A list of classes: one text each. -/
structure Cls (w : World) (a : Option Addr) (len cap : Nat) (f : Nat → ByteArray) : Prop where
  le : len ≤ cap
  max : cap ≤ maxLen
  nil : a = none → cap = 0
  cells : ∀ ad, a = some ad → ∀ i, i < len → w.cell? (ad.add i) = some (.string (f i))

theorem Cls_at {w : World} {a : Option Addr} {len cap : Nat} {f : Nat → ByteArray} (h : Cls w a len cap f) (hp : 0 < len) :
    ∃ b off, a = some ⟨b, off, none⟩ ∧ b < w.heap.size ∧ ∀ i, i < len → w.cell? ⟨b, off + i, none⟩ = some (.string (f i)) := by
  cases a with
  | none => have h1 := h.nil rfl; have h2 := h.le; omega
  | some ad =>
    obtain ⟨b, off, s⟩ := ad
    have h0 := h.cells _ rfl 0 hp
    have hs : s = none := by simpa [Addr.add] using World.cell?_spot h0
    subst hs
    have e : ∀ k, (⟨b, off, none⟩ : Addr).add k = ⟨b, off + k, none⟩ := by
      intro k
      unfold Addr.add
      split
      · rename_i h; subst h; rfl
      · rfl
    rw [e] at h0
    refine ⟨b, off, rfl, World.block_lt_of_cell? w _ h0, fun i hi => ?_⟩
    have hc := h.cells _ rfl i hi
    rw [e] at hc
    exact hc

theorem Cls.below {w w' : World} {a : Option Addr} {len cap : Nat} {f : Nat → ByteArray} (h : Cls w a len cap f) (hb : Below w.heap.size w w') : Cls w' a len cap f :=
  ⟨h.le, h.max, h.nil, fun ad had i hi => (hb.cell (World.block_lt_of_cell? w _ (h.cells ad had i hi))).trans (h.cells ad had i hi)⟩

def namedB (nc nm : Nat) (lo : Int) (fl : Nat → Nat) (op A B : Int) : Bool :=
  if op = 3 ∨ op = 4 then inside A lo
  else if op = 24 ∨ op = 27 then inside A nc
  else if op = 25 ∨ op = 26 then inside A nc && inside B (fl A.toNat)
  else if op = 28 ∨ op = 29 ∨ op = 30 then inside A 2
  else if op = 32 then decide (0 < A) && decide (A < nm)
  else true

def BoolPost (b : Bool) (w : World) (e : Ending) (w' : World) : Prop := e = .returned (.bool b) ∧ Below w.heap.size w w'

def progV (ca : Option Addr) (nc cc : Nat) (ma : Option Addr) (nm mc : Nat) : Value := .agg #[.slice ca nc cc, .slice ma nm mc]
def methV (ps ls rt : ByteArray) (co : Option Addr) (cl cp : Nat) : Value := .agg #[.string ps, .string ls, .string rt, .slice co cl cp]
def instrV (op A B N : Int) : Value := .agg #[.int .i64 op, .int .i64 A, .int .i64 B, .int .i64 N]

/-- The world behind the three boxes. -/
def boxes3 (ca : Option Addr) (nc cc : Nat) (ma : Option Addr) (nm mc : Nat) (ps ls rt : ByteArray) (co : Option Addr) (cl cp : Nat) (op A B N : Int) (w : World) : World :=
  ((w.alloc (.cells #[.slice ca nc cc, .slice ma nm mc] 50)).alloc (.cells #[.string ps, .string ls, .string rt, .slice co cl cp] 46)).alloc (.cells #[.int .i64 op, .int .i64 A, .int .i64 B, .int .i64 N] 52)

theorem boxes3_below (ca : Option Addr) (nc cc : Nat) (ma : Option Addr) (nm mc : Nat) (ps ls rt : ByteArray) (co : Option Addr) (cl cp : Nat) (op A B N : Int) (w : World) : Below w.heap.size w (boxes3 ca nc cc ma nm mc ps ls rt co cl cp op A B N w) :=
  (((Below.refl _ _).alloc (Nat.le_refl _) _).alloc (by simp) _).alloc (by simp; omega) _

set_option maxHeartbeats 2000000 in
set_option maxRecDepth 100000 in
theorem named_plain (ca : Option Addr) (nc cc : Nat) (ma : Option Addr) (nm mc : Nat) (fl : Nat → Nat) (ps ls rt : ByteArray) (co : Option Addr) (cl cp : Nat) (op A B N : Int) (w : World) (h1 : ps.size ≤ 1000000) (h2 : ls.size ≤ 1000000) (h25 : op ≠ 25) (h26 : op ≠ 26) :
    Calls Tryd.prog 186 #[.agg #[.slice ca nc cc, .slice ma nm mc], .agg #[.string ps, .string ls, .string rt, .slice co cl cp], .agg #[.int .i64 op, .int .i64 A, .int .i64 B, .int .i64 N]] w (BoolPost (namedB nc nm ((ps.size : Int) + ls.size) fl op A B) w) := by
  have HB := Lib.hid (boxes3_below ca nc cc ma nm mc ps ls rt co cl cp op A B N w)
  unfold boxes3 at HB
  by_cases h : op = 3 ∨ op = 4 ∨ op = 24 ∨ op = 27 ∨ op = 28 ∨ op = 29 ∨ op = 30
  · rcases h with rfl | rfl | rfl | rfl | rfl | rfl | rfl
    all_goals
      clear h25 h26
      go_enter Tryd.func186, Tryd.ntmps186
      go_wp2_with (go_at_call 138; refine (within_any _ _ _).mono ?_; rintro e w' ⟨rfl, rfl⟩)
      go_ret
      exact ⟨rfl, HB.out⟩
  · by_cases h32 : op = 32
    · subst h32
      clear h25 h26 h
      have hr : namedB nc nm ((ps.size : Int) + ls.size) fl 32 A B = (decide (0 < A) && decide (A < (nm : Int))) := rfl
      rw [hr]
      obtain ⟨x, hx⟩ : ∃ x, decide (0 < A) = x := ⟨_, rfl⟩
      obtain ⟨y, hy⟩ : ∃ x, decide (A < (nm : Int)) = x := ⟨_, rfl⟩
      rw [hx, hy]
      cases x <;> cases y
      all_goals
        go_enter Tryd.func186, Tryd.ntmps186
        go_wp2
        go_ret
        exact ⟨rfl, HB.out⟩
    · simp only [not_or] at h
      obtain ⟨a1, a2, a3, a4, a5, a6, a7⟩ := h
      have hr : namedB nc nm ((ps.size : Int) + ls.size) fl op A B = true := by
        unfold namedB
        rw [if_neg (by omega), if_neg (by omega), if_neg (by omega), if_neg (by omega), if_neg (by omega)]
      rw [hr]
      have t1 : (op == 3) = false := by simpa using a1
      have t2 : (op == 4) = false := by simpa using a2
      have t3 : (op == 24) = false := by simpa using a3
      have t4 : (op == 27) = false := by simpa using a4
      have t5 : (op == 28) = false := by simpa using a5
      have t6 : (op == 29) = false := by simpa using a6
      have t7 : (op == 30) = false := by simpa using a7
      have t8 : (op == 32) = false := by simpa using h32
      have t9 : (op == 25) = false := by simpa using h25
      have t0 : (op == 26) = false := by simpa using h26
      clear a1 a2 a3 a4 a5 a6 a7 h32 h25 h26 hr
      go_enter Tryd.func186, Tryd.ntmps186
      go_wp2
      go_ret
      exact ⟨rfl, HB.out⟩

end Go.Proofs.YtflbjfcmnopfaaaDoor

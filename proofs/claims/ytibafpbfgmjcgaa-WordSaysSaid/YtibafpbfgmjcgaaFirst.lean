/-
  The chapter's examples (the law's own 'first'): true.
-/
import Derived.Test.YtibafpbfgmjcgaaSame
import Derived.Test.YtibafpbfgmjcgaaZig
namespace Go.Proofs.Ytibafpbfgmjcgaa
open Go.RowKit

/-- What a call owns reads as a row. -/
theorem row_of_owns {k : IntKind} {w : World} {base e m : Nat} {v : Value} {zs : List Int} (h : w.ownsRow base e 1 v m (zs.map (Value.int k))) (hwf : ∀ n ∈ zs, (Lit.int k n).wf = true) :
    ∃ a cap, v = .slice a m cap ∧ Row k w a m cap zs := by
  have hl : zs.length = m := by simpa using h.1
  rcases h.2 with ⟨rfl, hm⟩ | ⟨g, cap, cur, rfl, hb, hg, hnc, hcm, hcs, ht⟩
  · subst hm
    exact ⟨none, 0, rfl, ⟨hl, Nat.le_refl _, Nat.zero_le _, fun _ => rfl, fun ad h => (by cases h), hwf⟩⟩
  · refine ⟨some ⟨g, 0, none⟩, cap, rfl, ⟨hl, hnc, hcm, fun h => (by cases h), fun ad had j hj => ?_, hwf⟩⟩
    cases had
    have e : (⟨g, 0, none⟩ : Addr).add j = ⟨g, j, none⟩ := by
      unfold Addr.add
      split
      · rename_i h; subst h; rfl
      · simp
    rw [e, h.cellAt j (by omega)]
    rw [List.getElem?_map, List.getElem?_eq_getElem (by omega)]
    simp [List.getD, List.getElem?_eq_getElem (show j < zs.length by omega)]

theorem wf_i64 {x : Int} (h : (Lit.int .i64 x).wf = true) : -9223372036854775808 ≤ x ∧ x ≤ 9223372036854775807 := by
  simp [Lit.wf, IntKind.min, IntKind.max, IntKind.signed, IntKind.bits] at h
  omega

theorem wf_u64 {x : Int} (h : (Lit.int .u64 x).wf = true) : 0 ≤ x ∧ x < 18446744073709551616 := by
  simp [Lit.wf, IntKind.min, IntKind.max, IntKind.signed, IntKind.bits] at h
  omega

theorem wf_u8 {x : Int} (h : (Lit.int .u8 x).wf = true) : 0 ≤ x ∧ x < 256 := by
  simp [Lit.wf, IntKind.min, IntKind.max, IntKind.signed, IntKind.bits] at h
  omega

theorem row_nil (k : IntKind) (w : World) : Row k w none 0 0 [] := ⟨rfl, Nat.le_refl _, Nat.zero_le _, fun _ => rfl, fun ad h => (by cases h), fun n hn => (by cases hn)⟩

theorem Row_kept {k : IntKind} {w w' : World} {a : Option Addr} {len cap : Nat} {zs : List Int} (h : Row k w a len cap zs) (hg : ∀ p v, w.cell? p = some v → w'.cell? p = some v) : Row k w' a len cap zs :=
  ⟨h.len_eq, h.le, h.max, h.nil, fun ad had j hj => hg _ _ (h.cells ad had j hj), h.wf⟩

theorem Row_alloc {k : IntKind} {w : World} {a : Option Addr} {len cap : Nat} {zs : List Int} (h : Row k w a len cap zs) (o : Obj) : Row k (w.alloc o) a len cap zs :=
  Row_kept h fun _ _ hc => (World.grownBy_alloc w o none).cell hc (by simp)

/-- A row whose block is below B reads as it did. -/
theorem Row_below {k : IntKind} {B : Nat} {w w' : World} {a : Option Addr} {len cap : Nat} {zs : List Int} (h : Row k w a len cap zs) (hb : Below B w w') (ha : ∀ ad, a = some ad → ad.block < B) : Row k w' a len cap zs :=
  ⟨h.len_eq, h.le, h.max, h.nil, fun ad had j hj => (hb.cell (p := ad.add j) (by rw [show (ad.add j).block = ad.block from by unfold Addr.add; split <;> rfl]; exact ha ad had)).trans (h.cells ad had j hj), h.wf⟩

/-- A row of a world lies below its size. -/
theorem Row_lt {k : IntKind} {w : World} {a : Option Addr} {len cap : Nat} {zs : List Int} (h : Row k w a len cap zs) (hp : 0 < len) : ∀ ad, a = some ad → ad.block < w.heap.size := by
  intro ad had
  have hc := h.cells ad had 0 hp
  exact World.block_lt_of_cell? w _ hc

theorem Row_cells {k : IntKind} {w w' : World} {a : Option Addr} {len cap : Nat} {zs : List Int} (h : Row k w a len cap zs) (hb : Below w.heap.size w w') : Row k w' a len cap zs :=
  Row_kept h fun p _ hc => (hb.cell (World.block_lt_of_cell? w p hc)).trans hc

theorem Row_drewN {k : IntKind} {w : World} {a : Option Addr} {len cap : Nat} {zs : List Int} (h : Row k w a len cap zs) (n : Nat) : Row k (w.drewN n) a len cap zs := Row_kept h fun _ _ hc => hc

/-- A block of two bytes that was just made. -/
theorem row_two (w : World) (x y : Nat) (hx : x < 256) (hy : y < 256) : Row .u8 (w.alloc (.cells #[.int .u8 (x : Int), .int .u8 (y : Int)] 5)) (some ⟨w.heap.size, 0, none⟩) 2 2 [(x : Int), (y : Int)] := by
  refine ⟨rfl, Nat.le_refl _, (by unfold maxLen; omega), fun h => (by cases h), fun ad had j hj => ?_, fun n hn => ?_⟩
  · cases had
    match j, hj with
    | 0, _ => simp [Addr.add, World.cell?_alloc_at]
    | 1, _ => simp [Addr.add, World.cell?_alloc_at]
  · have h : n = x ∨ n = y := by simpa using hn
    rcases h with rfl | rfl <;> simp [Lit.wf, IntKind.min, IntKind.max, IntKind.signed, IntKind.bits] <;> omega

theorem take_128 (w : World) :
    Calls Try.prog 16 #[.slice (some ⟨w.heap.size, 0, none⟩) 2 2, .int .i64 0] (w.alloc (.cells #[.int .u8 128, .int .u8 0] 5)) fun e w' => e = .returned (.tuple #[.int .u64 0, .int .i64 0, .bool false]) ∧ w.alloc (.cells #[.int .u8 128, .int .u8 0] 5) = w' := by
  have h := take_in w.heap.size 0 2 2 [128, 0] 0 (w.alloc (.cells #[.int .u8 128, .int .u8 0] 5)) rfl (by omega) (by omega) (by simp) (by
    intro j hj
    match j, hj with
    | 0, _ => simp [World.cell?_alloc_at]
    | 1, _ => simp [World.cell?_alloc_at])
  refine h.mono fun e w' hp => ?_
  have ht : takeAt [128, 0] ((0 : Nat) : Int) = none := by decide
  unfold TakePost at hp
  rw [ht] at hp
  exact hp

/-- What first answers, behind a definition. -/
def TruePost (w : World) (e : Ending) (w' : World) : Prop := e = .returned (.bool true) ∧ Below w.heap.size w w'

theorem enc300 : (([] : List Int).map (Value.int .u8) ++ (encF 9 300).map (fun (n : Nat) => Value.int .u8 n)) = ([172, 2] : List Int).map (Value.int .u8) := by simp [encF]

theorem below_drewN {B : Nat} {a w : World} (h : Below B a w) (n : Nat) : Below B a (w.drewN n) := ⟨h.os, h.tape, h.output, h.size, h.block⟩

set_option maxRecDepth 100000 in
theorem first_any (w : World) : Calls Try.prog 10 #[] w (TruePost w) := by
  have e1 : (two 11 (-7) 2).1 = -3 := by decide +kernel
  have e2 : (two 12 (-7) 2).1 = -1 := by decide +kernel
  have e3 : (two 17 (-8) 65).1 = -4 := by decide +kernel
  have e4 : zig (-1) = 1 := by decide
  have e5 : zig 2 = 4 := by decide
  go_enter Try.func10, Try.ntmps10
  go_wp2_with (first
    | (go_at_call 11; refine (two_any _ _ _ _).mono ?_; rintro e w' ⟨rfl, rfl⟩)
    | (go_at_call 16; refine (take_128 _).mono ?_; rintro e w' ⟨rfl, rfl⟩))
  refine (put_any none 0 0 [] 300 _ (row_nil _ _) (by omega) (by omega)).mono ?_
  rintro e w1 ⟨v, m, rfl, hown, hbel⟩
  rw [enc300] at hown
  obtain ⟨a, cap, rfl, hrow⟩ := row_of_owns hown (by decide)
  have hm : m = 2 := by have := hrow.len_eq; simpa using this.symm
  subst hm
  have HO := Lib.hid hown
  have HB := Lib.hid hbel
  have HR := Lib.hid hrow
  clear hown hbel hrow
  go_wp2_with (first
    | (go_at_call 22; refine (zig_any _ _ (by omega) (by omega)).mono ?_; rintro e w' ⟨rfl, rfl⟩))
  have hr1 : Row .u8 (w1.alloc (.cells #[.int .u8 172, .int .u8 2] 5)) a 2 cap [172, 2] := Row_alloc HR.out _
  have hr2 : Row .u8 (w1.alloc (.cells #[.int .u8 172, .int .u8 2] 5)) (some ⟨w1.heap.size, 0, none⟩) 2 2 [172, 2] := row_two w1 172 2 (by omega) (by omega)
  refine (same_any _ _ _ _ _ _ _ _ _ hr1 hr2 (by omega)).mono ?_
  rintro e w2 ⟨rfl, n, rfl⟩
  clear hr1 hr2
  have hd : decide (([172, 2] : List Int) = [172, 2]) = true := by decide
  go_wp2
  go_ret
  have hs := HB.out.size
  simp at hs
  exact ⟨rfl, below_drewN (((Below.refl _ _).alloc (Nat.le_refl _) _).trans (HB.out.mono (by simp)) |>.alloc (by omega) _) n⟩
end Go.Proofs.Ytibafpbfgmjcgaa

/-
  Moves: Order where the spare place is free; chapter 23's example without the listed errors.
-/
import Derived.Test.YtflbjfcmnopfaaaDoorMvG
import Derived.Test.YtflbjfcmnopfaaaDoorMvU
import Derived.Test.YtflbjfcmnopfaaaDoorMvK
namespace Go.Proofs.YtflbjfcmnopfaaaDoor
open Go.RowKit

def FinePost (o : List (Int × Int)) (w : World) (e : Ending) (w' : World) : Prop := ∃ v, e = .returned (.tuple #[v, .nilIface]) ∧ w'.ownsRow w.heap.size 108 2 v o.length (mvCells o) ∧ Below w.heap.size w w'

set_option maxHeartbeats 4000000 in
set_option maxRecDepth 100000 in
theorem order_fine (a : Option Addr) (len cap : Nat) (l : List (Int × Int)) (spare : Int) (o : List (Int × Int)) (c : Int) (w : World) (hr : MAny w a len cap l) (hlen : len ≤ 500) (hs : isP spare = true) (hp : ∀ m ∈ l, isP m.1 = true ∧ isP m.2 = true) (hnd : (l.map Prod.fst).Nodup) (ho : orderF l spare = some (o, c)) (hfree : ∀ m ∈ l, m.1 ≠ spare ∧ m.2 ≠ spare) :
    Calls Tryd.prog 64 #[.slice a len cap, .int .i64 spare] w (FinePost o w) := by
  have hle := hr.le
  have hmax := hr.max
  unfold maxLen at hmax
  have t0 : decide ((len : Int) > 500) = false := by simp; omega
  have K1 := Lib.hid (place_any spare w)
  rw [hs] at K1
  have hsb : -2000 ≤ spare ∧ spare ≤ 2000 := by simp [isP] at hs; omega
  have HL := Lib.hid hr.len_eq
  have K2 := Lib.hid (may_ok a len cap l w hr hlen hp hnd)
  have HR := Lib.hid hr
  have HP := Lib.hid hp
  have HO := Lib.hid ho
  have HSB := Lib.hid hsb
  have HFR := Lib.hid hfree
  clear hr hs hp hnd ho hsb hfree
  go_enter Tryd.func64, Tryd.ntmps64
  go_wp2_with (first | (go_at_call 118; refine K1.out.mono ?_; rintro e w' ⟨rfl, rfl⟩) | (go_at_call 119; refine K2.out.mono ?_; rintro e w1 ⟨rfl, hB1⟩))
  have R0 : Hid (PlRel len w (.int .i64 0) w1) := Lib.hid ⟨0, Nat.zero_le _, rfl, hB1⟩
  clear hB1 K1 K2
  go_loopw [26] (fun si wr => PlRel len w si wr) (fun si _ => len - (intOf si).toNat)
  case atStart => exact R0.out
  case round =>
    clear R0
    obtain ⟨i, hi, rfl, hB⟩ := hrel
    by_cases hlt : i < len
    · obtain ⟨b, off, rfl, hbl, hc⟩ := HR.out.at_ (by omega)
      have hil : i < l.length := by rw [HL.out]; exact hlt
      have cx : wr.cell? ⟨b, off + (i * 2 + 0), none⟩ = some (.int .i64 (l.getD i (0, 0)).1) := (hB.cell (p := ⟨b, off + (i * 2 + 0), none⟩) hbl).trans (hc i hlt).1
      have cy : wr.cell? ⟨b, off + (i * 2 + 1), none⟩ = some (.int .i64 (l.getD i (0, 0)).2) := (hB.cell (p := ⟨b, off + (i * 2 + 1), none⟩) hbl).trans (hc i hlt).2
      rw [Nat.add_zero] at cx
      rw [← Nat.add_assoc] at cy
      have t1 : decide (i < len) = true := by simpa using hlt
      have hq := HFR.out _ (mem_at hil)
      generalize l.getD i (0, 0) = m at *
      obtain ⟨x, y⟩ := m
      dsimp only at cx cy hq
      have t2 : (x == spare) = false := by simpa using hq.1
      have t3 : (y == spare) = false := by simpa using hq.2
      have HB := Lib.hid hB
      clear hc hB hil hbl hq
      go_wp2_with fail
      go_roundw
      case rel => exact ⟨i + 1, by omega, by go_num, HB.out.alloc HB.out.size _⟩
      case measure => simp [intOf]; omega
    · obtain rfl : i = len := by omega
      have t1 : decide (i < i) = false := by simp
      have KO := Lib.hid (order_any a i cap l spare o c wr ((HR.out.below hB).row HP.out) hlen HSB.out HO.out)
      have HB := Lib.hid hB
      clear hB
      go_wp2_with (go_at_call 120; refine KO.out.mono ?_; rintro e w9 ⟨v, rfl, hown, hB9⟩)
      obtain ⟨va, vc, rfl⟩ := own_shapeM hown
      have HOWN := Lib.hid hown
      clear hown
      go_wp2_with fail
      go_ret2
      exact ⟨_, rfl, own_baseM HOWN.out HB.out.size, HB.out.trans (hB9.mono HB.out.size)⟩

theorem ord_pairF (b : Nat) (w : World) (hr : MAny w (some ⟨b, 0, none⟩) 2 2 [(1, 2), (2, 1)]) :
    Calls Tryd.prog 64 #[.slice (some ⟨b, 0, none⟩) 2 2, .int .i64 9] w fun e w' => ∃ a c, e = .returned (.tuple #[.slice a 3 c, .nilIface]) ∧ Below w.heap.size w w' := by
  obtain ⟨o, ho, hl⟩ := order_two 9 (.inl rfl)
  refine (order_fine _ 2 2 _ 9 o 1 w hr (by decide) (by decide) pairs_in pairs_nodup ho (by decide)).mono ?_
  rintro e w' ⟨v, rfl, hown, hb⟩
  rw [hl] at hown
  obtain ⟨a, c', rfl⟩ := own_shapeM hown
  exact ⟨a, c', rfl, hb⟩

theorem ord_selfF (b : Nat) (w : World) (hr : MAny w (some ⟨b, 0, none⟩) 1 1 [(1, 1)]) :
    Calls Tryd.prog 64 #[.slice (some ⟨b, 0, none⟩) 1 1, .int .i64 9] w fun e w' => ∃ a c, e = .returned (.tuple #[.slice a 0 c, .nilIface]) ∧ Below w.heap.size w w' := by
  refine (order_fine _ 1 1 _ 9 [] 0 w hr (by decide) (by decide) (by decide) (by decide) (order_none _ _ (by decide)) (by decide)).mono ?_
  rintro e w' ⟨v, rfl, hown, hb⟩
  obtain ⟨a, c', rfl⟩ := own_shapeM hown
  exact ⟨a, c', rfl, hb⟩

set_option maxHeartbeats 2000000 in
set_option maxRecDepth 100000 in
/-- Chapter 23's example. -/
theorem mfirstF (w : World) : Calls Tryd.prog 63 #[] w (TruePost w) := by
  have K1 := Lib.hid (ord_pairF w.heap.size (w.alloc (.cells #[.int .i64 1, .int .i64 2, .int .i64 2, .int .i64 1] 108)) (mrow_two 1 2 2 1 (heap_alloc_new _ _)))
  go_enter Tryd.func63, Tryd.ntmps63
  go_wp2_with fail
  refine K1.out.mono ?_
  rintro e w1 ⟨a1, c1, rfl, hB1⟩
  have B1 : Hid (Below w.heap.size w w1) := Lib.hid (((Below.refl _ _).alloc (Nat.le_refl _) _).trans (hB1.mono (by simp)))
  have K2 := Lib.hid (ord_selfF w1.heap.size (w1.alloc (.cells #[.int .i64 1, .int .i64 1] 108)) (mrow_pair 1 1 (heap_alloc_new _ _)))
  clear hB1 K1
  go_wp2_with fail
  refine K2.out.mono ?_
  rintro e w2 ⟨a2, c2, rfl, hB2⟩
  have B2 : Hid (Below w.heap.size w w2) := Lib.hid ((B1.out.alloc B1.out.size _).trans (hB2.mono (by have := B1.out.size; simp; omega)))
  have K3 := Lib.hid (cyc_pair w2.heap.size (w2.alloc (.cells #[.int .i64 1, .int .i64 2, .int .i64 2, .int .i64 1] 108)) (mrow_two 1 2 2 1 (heap_alloc_new _ _)))
  clear hB2 K2
  go_wp2_with fail
  refine K3.out.mono ?_
  rintro e w3 ⟨rfl, hB3⟩
  have B3 : Hid (Below w.heap.size w w3) := Lib.hid ((B2.out.alloc B2.out.size _).trans (hB3.mono (by have := B2.out.size; simp; omega)))
  clear hB3 K3
  go_wp2_with fail
  go_ret
  exact ⟨rfl, B3.out⟩

/-- What the law makes of a number. -/
def treeF (zs : List Int) (i : Nat) : Int := (((zs.getD i 0).tmod ((i : Int) + 1)) + i + 1).tmod ((i : Int) + 1)

theorem tmod_between (x m : Int) (hm : 0 < m) : -m < x.tmod m ∧ x.tmod m < m := by
  have h1 := Int.tmod_lt_of_pos x hm
  refine ⟨?_, h1⟩
  by_cases h : 0 ≤ x
  · have := Int.tmod_nonneg m h; omega
  · have e : (-x).tmod m = -(x.tmod m) := Int.neg_tmod x m
    have h3 := Int.tmod_lt_of_pos (-x) hm
    omega

theorem treeF_in (zs : List Int) (i : Nat) : 0 ≤ treeF zs i ∧ treeF zs i ≤ i := by
  unfold treeF
  have h1 := tmod_between (zs.getD i 0) ((i : Int) + 1) (by omega)
  have h2 := tmod_between ((zs.getD i 0).tmod ((i : Int) + 1) + i + 1) ((i : Int) + 1) (by omega)
  have h3 := Int.tmod_nonneg ((i : Int) + 1) (show 0 ≤ (zs.getD i 0).tmod ((i : Int) + 1) + i + 1 by omega)
  omega

end Go.Proofs.YtflbjfcmnopfaaaDoor

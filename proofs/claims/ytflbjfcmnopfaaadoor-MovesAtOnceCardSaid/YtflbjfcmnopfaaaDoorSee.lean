/-
  The statements' own look at an error that is one of the listed ones, with nothing around it.
-/
import Derived.Test.YtflbjfcmnopfaaaDoorErr
import Derived.LaidEql
import Derived.Deep.DeepCutAuto
namespace Go.Proofs.YtflbjfcmnopfaaaDoor
open Go.RowKit

theorem compT : (Tryd.prog.info? 271).map (·.comparable) = some true := by kernel_rfl
theorem sizeT : (Tryd.prog.info? 287).map (·.size) = some 1 := by kernel_rfl

theorem alike_yes (x : Addr) (w : World) :
    Calls Tryd.prog 178 #[.iface 271 (.pointer (some x)), .iface 271 (.pointer (some x))] w fun e w' => e = .returned (.bool true) ∧ w = w' := by
  obtain ⟨i, hi, hcmp⟩ := Option.map_eq_some_iff.1 compT
  obtain ⟨j, hj, hjs⟩ := Option.map_eq_some_iff.1 sizeT
  have e := run_eql_iface_ptr_same w x Tryd.underlying58 Tryd.underlying271 hi hcmp hj
  have E := Lib.hid e
  clear e hi hcmp hj hjs i j
  go_enter Tryd.func178, Tryd.ntmps178
  go_wp2_with (rw [E.out])
  go_ret
  exact ⟨rfl, rfl⟩

theorem alike_no (x y : Addr) (w : World) (h : x ≠ y) (hx : ∃ c t, w.heap[x.block]? = some (.cells c t (0, 0))) (hy : ∃ c t, w.heap[y.block]? = some (.cells c t (0, 0))) :
    Calls Tryd.prog 178 #[.iface 271 (.pointer (some x)), .iface 271 (.pointer (some y))] w fun e w' => e = .returned (.bool false) ∧ w = w' := by
  obtain ⟨i, hi, hcmp⟩ := Option.map_eq_some_iff.1 compT
  obtain ⟨j, hj, hjs⟩ := Option.map_eq_some_iff.1 sizeT
  obtain ⟨cx, tx, hx⟩ := hx
  obtain ⟨cy, ty, hy⟩ := hy
  have e := run_eql_iface_ptr_other w Tryd.underlying58 Tryd.underlying271 hi hcmp hj (by rw [hjs]; decide) h hx hy
  have E := Lib.hid e
  clear e hi hcmp hj hjs i j hx hy
  go_enter Tryd.func178, Tryd.ntmps178
  go_wp2_with (rw [E.out])
  go_ret
  exact ⟨rfl, rfl⟩

theorem ret_int {k : IntKind} {a b : Int} (h : a = b) : Ending.returned (.int k a) = .returned (.int k b) := by rw [h]

def SentsPost (a : Nat → Addr) (w : World) (e : Ending) (w' : World) : Prop :=
  ∃ g, e = .returned (.slice (some ⟨g, 0, none⟩) 14 14) ∧ (∀ k, k < 14 → w'.cell? ⟨g, k, none⟩ = some (.iface 271 (.pointer (some (a k))))) ∧ Below w.heap.size w w'

theorem sentinels_any (a : Nat → Addr) (w : World) (h : Sents a w) :
    Calls Tryd.prog 177 #[] w (SentsPost a w) := by
  obtain ⟨_, _, c0, c1, c2, c3, c4, c5, c6, c7, c8, c9, c10, c11, c12, c13⟩ := h
  go_enter Tryd.func177, Tryd.ntmps177
  go_wp2
  go_ret
  refine ⟨_, rfl, ?_, (Below.refl _ _).alloc (Nat.le_refl _) _⟩
  intro k hk
  rw [cell_of_row (w.alloc _) w.heap.size k _ 58 (0, 0) (heap_alloc_new w _)]
  match k, hk with
  | 0, _ => rfl
  | 1, _ => rfl
  | 2, _ => rfl
  | 3, _ => rfl
  | 4, _ => rfl
  | 5, _ => rfl
  | 6, _ => rfl
  | 7, _ => rfl
  | 8, _ => rfl
  | 9, _ => rfl
  | 10, _ => rfl
  | 11, _ => rfl
  | 12, _ => rfl
  | 13, _ => rfl

def SentPost (m : Nat) (w : World) (e : Ending) (w' : World) : Prop := e = .returned (.int .i64 ((101 + m : Nat) : Int)) ∧ Below w.heap.size w w'

set_option maxRecDepth 100000 in
theorem sentinel_any (a : Nat → Addr) (m : Nat) (w : World) (h : Sents a w) (hm : m < 14) :
    Calls Tryd.prog 135 #[.iface 271 (.pointer (some (a m)))] w (SentPost m w) := by
  have H := Lib.hid h
  clear h
  go_enter Tryd.func135, Tryd.ntmps135
  go_wp2_with fail
  refine (sentinels_any a _ H.out).mono ?_
  rintro e w1 ⟨g, rfl, hc, hb⟩
  have HS : Hid (Sents a w1) := Lib.hid (H.out.below hb)
  have HB := Lib.hid hb
  have HC := Lib.hid hc
  clear hb hc
  go_wp2_with fail
  go_loop [4] (fun si => ∃ i : Nat, i ≤ m ∧ si = .int .i64 i) (fun si => 14 - (intOf si).toNat)
  case atStart => exact ⟨0, Nat.zero_le _, rfl⟩
  case round =>
    obtain ⟨i, hi, rfl⟩ := hrel
    have t1 : decide ((i : Int) < 14) = true := by simp; omega
    have hcell := HC.out i (by omega)
    by_cases hlt : i = m
    · subst hlt
      obtain ⟨x, hx⟩ : ∃ x, a i = x := ⟨_, rfl⟩
      rw [hx] at hcell
      have HX := Lib.hid hx
      rw [hx]
      clear hx
      go_wp2_with fail
      refine (alike_yes x _).mono ?_
      rintro e w' ⟨rfl, rfl⟩
      go_wp2_with fail
      go_ret
      exact ⟨ret_int (by omega), HB.out⟩
    · obtain ⟨x, hx⟩ : ∃ x, a i = x := ⟨_, rfl⟩
      obtain ⟨y, hy⟩ : ∃ y, a m = y := ⟨_, rfl⟩
      have hne : y ≠ x := fun e => hlt (HS.out.inj i m (by omega) hm (by rw [hx, hy, e]))
      have hrx := HS.out.rows i (by omega)
      have hry := HS.out.rows m hm
      rw [hx] at hrx hcell
      rw [hy] at hry
      have HRX := Lib.hid hrx
      have HRY := Lib.hid hry
      have HNE := Lib.hid hne
      rw [hy]
      clear hx hy hrx hry hne
      go_wp2_with fail
      refine (alike_no y x _ HNE.out HRY.out HRX.out).mono ?_
      rintro e w' ⟨rfl, rfl⟩
      go_wp2_with fail
      go_round
      case rel => exact ⟨i + 1, by omega, by go_num⟩
      case measure => simp [intOf]; omega

def PlainPost (c : Int) (w : World) (e : Ending) (w' : World) : Prop := e = .returned (.agg #[.int .i64 c, .slice none 0 0]) ∧ Below w.heap.size w w'

theorem bare_any (c : Int) (w : World) : Calls Tryd.prog 93 #[.int .i64 c] w (PlainPost c w) := by
  go_enter Tryd.func93, Tryd.ntmps93
  go_wp2
  exact bodyPost_ret (v := .agg #[.int .i64 c, .slice none 0 0]) (by simp [results, Tryd.results93, go_sem]) rfl ⟨rfl, (Below.refl _ _).alloc (Nat.le_refl _) _⟩

/-- A fault's box, behind what turned nothing that was there. -/
theorem boxed {w2 : World} (w : World) (T : TypeId) (h : Below (w.alloc (Obj.cells #[Value.int IntKind.i64 0, Value.slice none 0 0] T)).heap.size (w.alloc (Obj.cells #[Value.int IntKind.i64 0, Value.slice none 0 0] T)) w2) :
    w2.cell? ⟨w.heap.size, 0, none⟩ = some (.int .i64 0) ∧ w2.cell? ⟨w.heap.size, 1, none⟩ = some (.slice none 0 0) ∧ w2.frozen? ⟨w.heap.size, 0, none⟩ = false ∧ w2.frozen? ⟨w.heap.size, 1, none⟩ = false ∧ w.heap.size < w2.heap.size := by
  have hlt : w.heap.size < (w.alloc (Obj.cells #[Value.int IntKind.i64 0, Value.slice none 0 0] T)).heap.size := by simp
  have hrow := heap_alloc_new w (Obj.cells #[Value.int IntKind.i64 0, Value.slice none 0 0] T)
  refine ⟨?_, ?_, ?_, ?_, Nat.lt_of_lt_of_le hlt h.size⟩
  · rw [h.cell (p := ⟨w.heap.size, 0, none⟩) hlt, cell_of_row _ w.heap.size 0 _ T (0, 0) hrow]; rfl
  · rw [h.cell (p := ⟨w.heap.size, 1, none⟩) hlt, cell_of_row _ w.heap.size 1 _ T (0, 0) hrow]; rfl
  · rw [h.frozen (p := ⟨w.heap.size, 0, none⟩) hlt, frozen_of_row _ w.heap.size 0 _ T hrow]
  · rw [h.frozen (p := ⟨w.heap.size, 1, none⟩) hlt, frozen_of_row _ w.heap.size 1 _ T hrow]

theorem zeroAt : (Tryd.prog.info? 202).map (·.zero) = some (some (.pointer none)) := by kernel_rfl
theorem zeroWhere : (Tryd.prog.info? 187).map (·.zero) = some (some (.pointer none)) := by kernel_rfl

theorem assertAt (x : Addr) (w : World) : (Instr.typeAssert (.iface 271 (.pointer (some x))) 58 202 true).run Tryd.prog w = .ok (.tuple #[.pointer none, .bool false]) w := by
  obtain ⟨i, hi, hz⟩ := Option.map_eq_some_iff.1 zeroAt
  simp [Instr.typeAssert, run_underlying Tryd.underlying202, typeInfo, zeroValue, hi, hz]

theorem assertWhere (x : Addr) (w : World) : (Instr.typeAssert (.iface 271 (.pointer (some x))) 58 187 true).run Tryd.prog w = .ok (.tuple #[.pointer none, .bool false]) w := by
  obtain ⟨i, hi, hz⟩ := Option.map_eq_some_iff.1 zeroWhere
  simp [Instr.typeAssert, run_underlying Tryd.underlying187, typeInfo, zeroValue, hi, hz]

theorem fault_any (a : Nat → Addr) (m : Nat) (w : World) (h : Sents a w) (hm : m < 14) :
    Calls Tryd.prog 92 #[.iface 271 (.pointer (some (a m))), .int .i64 9] w (PlainPost ((101 + m : Nat) : Int) w) := by
  have H := Lib.hid h
  have HM := Lib.hid hm
  clear h hm
  obtain ⟨x, hx⟩ : ∃ x, a m = x := ⟨_, rfl⟩
  have HX := Lib.hid hx
  rw [hx]
  clear hx
  go_enter Tryd.func92, Tryd.ntmps92
  have E1 := Lib.hid (assertAt x)
  have E2 := Lib.hid (assertWhere x)
  have hS : Hid (Sents a (w.alloc (Obj.cells #[Value.int IntKind.i64 0, Value.slice none 0 0] 67))) := Lib.hid (H.out.below ((Below.refl _ _).alloc (Nat.le_refl _) _))
  have hsen := sentinel_any a m _ hS.out HM.out
  rw [HX.out] at hsen
  have SEN := Lib.hid hsen
  clear hsen
  go_wp2_with (first | rw [E1.out] | rw [E2.out])
  refine SEN.out.mono ?_
  rintro e w1 ⟨rfl, hb⟩
  have HB := Lib.hid hb
  clear hb
  go_wp2_with fail
  refine (bare_any _ _).mono ?_
  rintro e w2 ⟨rfl, hb2⟩
  obtain ⟨f0, f1, g0, g1, hlt⟩ := boxed w 67 (HB.out.trans (hb2.mono HB.out.size))
  have HB2 : Hid (Below w.heap.size w w2) := Lib.hid ((((Below.refl _ _).alloc (Nat.le_refl _) _).trans (HB.out.mono (by simp))).trans (hb2.mono (by have := HB.out.size; simp at this; omega)))
  clear hb2
  go_wp2_with fail
  exact bodyPost_ret (v := .agg #[.int .i64 ((101 + m : Nat) : Int), .slice none 0 0]) (by simp [results, Tryd.results92, go_sem, f0, f1]) rfl ⟨rfl, (HB2.out.setCell (Nat.le_refl _) _).setCell (Nat.le_refl _) _⟩

end Go.Proofs.YtflbjfcmnopfaaaDoor

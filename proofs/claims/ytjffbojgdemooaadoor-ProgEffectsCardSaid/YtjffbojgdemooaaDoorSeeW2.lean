/-
  Same at a listed error with an *api.Where around it; There.
-/
import Derived.Test.YtjffbojgdemooaaDoorSeeW
namespace Go.Proofs.YtjffbojgdemooaaDoor
open Go.RowKit

theorem row_two {w : World} {g cp : Nat} {pos pc : Int} (hc : w.cell? ⟨g, 0, none⟩ = some (.int .i64 pos)) (hd : w.cell? ⟨g, 1, none⟩ = some (.int .i64 pc)) (h1 : 2 ≤ cp) (h2 : cp ≤ maxLen) (hw : (Lit.int .i64 pos).wf = true) (hv : (Lit.int .i64 pc).wf = true) : Row .i64 w (some ⟨g, 0, none⟩) 2 cp [pos, pc] := by
  refine ⟨rfl, h1, h2, fun h => (by cases h), fun ad had j hj => ?_, fun n hn => ?_⟩
  · cases had
    match j, hj with
    | 0, _ => simpa [Addr.add] using hc
    | 1, _ => simpa [Addr.add] using hd
  · simp at hn
    rcases hn with rfl | rfl
    · exact hw
    · exact hv

theorem sameFault_two (c pos pc : Int) (g h cg ch : Nat) (w : World) (h1 : Row .i64 w (some ⟨g, 0, none⟩) 2 cg [pos, pc]) (h2 : Row .i64 w (some ⟨h, 0, none⟩) 2 ch [pos, pc]) :
    Calls Tryd.prog 97 #[.agg #[.int .i64 c, .slice (some ⟨g, 0, none⟩) 2 cg], .agg #[.int .i64 c, .slice (some ⟨h, 0, none⟩) 2 ch]] w (TruePost w) := by
  have H1 := Lib.hid h1
  have H2 := Lib.hid h2
  have m1 := h1.max
  have m2 := h2.max
  clear h1 h2
  unfold maxLen at m1 m2
  go_enter Tryd.func97, Tryd.ntmps97
  go_wp2_with fail
  refine (same_ints (some ⟨g, 0, none⟩) (some ⟨h, 0, none⟩) 2 cg 2 ch [pos, pc] [pos, pc] _ (Row_alloc (Row_alloc H1.out _) _) (Row_alloc (Row_alloc H2.out _) _) (by omega)).mono ?_
  rintro e w' ⟨he, nq, rfl⟩
  obtain rfl : e = .returned (.bool true) := by rw [he]; simp
  clear he
  go_wp2_with fail
  go_ret
  exact ⟨rfl, below_drewN (((Below.refl _ _).alloc (Nat.le_refl _) _).alloc (by simp) _) nq⟩

theorem same_where (a : Nat → Addr) (b m : Nat) (pos pc : Int) (g cg : Nat) (w : World) (h : Sents a w) (hm : m < 14) (hb : WBox a b m pos pc w) (hr : Row .i64 w (some ⟨g, 0, none⟩) 2 cg [pos, pc]) :
    Calls Tryd.prog 35 #[.iface 135 (.pointer (some ⟨b, 0, none⟩)), .agg #[.int .i64 ((101 + m : Nat) : Int), .slice (some ⟨g, 0, none⟩) 2 cg]] w (TruePost w) := by
  obtain ⟨C, hC⟩ : ∃ C : Int, ((101 + m : Nat) : Int) = C := ⟨_, rfl⟩
  have hbl : Below w.heap.size w (w.alloc (Obj.cells #[Value.int IntKind.i64 C, Value.slice (some ⟨g, 0, none⟩) 2 cg] 53)) := (Below.refl _ _).alloc (Nat.le_refl _) _
  have F := Lib.hid (Fault_w a b m pos pc _ (h.below hbl) hm (hb.below hbl))
  have HR := Lib.hid (Row_alloc hr (Obj.cells #[Value.int IntKind.i64 C, Value.slice (some ⟨g, 0, none⟩) 2 cg] 53))
  rw [hC] at F ⊢
  have hgb : Hid (Below w.heap.size w (w.alloc (Obj.cells #[Value.int IntKind.i64 C, Value.slice (some ⟨g, 0, none⟩) 2 cg] 53))) := Lib.hid hbl
  have HW := Lib.hid (hr.wf pos (by simp))
  have HV := Lib.hid (hr.wf pc (by simp))
  clear h hb hbl hC hr
  go_enter Tryd.func35, Tryd.ntmps35
  go_wp2_with fail
  refine F.out.mono ?_
  rintro e w2 ⟨q, cp, rfl, hc, hd, h1, h2, hg, hb2⟩
  have hal := heap_alloc_new w (Obj.cells #[Value.int IntKind.i64 C, Value.slice (some ⟨g, 0, none⟩) 2 cg] 53)
  have hlt : w.heap.size < (w.alloc (Obj.cells #[Value.int IntKind.i64 C, Value.slice (some ⟨g, 0, none⟩) 2 cg] 53)).heap.size := by simp
  have f0 : w2.cell? ⟨w.heap.size, 0, none⟩ = some (.int .i64 C) := (hb2.cell (p := ⟨w.heap.size, 0, none⟩) hlt).trans ((cell_of_row _ w.heap.size 0 _ 53 (0, 0) hal).trans rfl)
  have f1 : w2.cell? ⟨w.heap.size, 1, none⟩ = some (.slice (some ⟨g, 0, none⟩) 2 cg) := (hb2.cell (p := ⟨w.heap.size, 1, none⟩) hlt).trans ((cell_of_row _ w.heap.size 1 _ 53 (0, 0) hal).trans rfl)
  have R2 := Lib.hid (Row_cells HR.out hb2)
  have HB2 : Hid (Below w.heap.size w w2) := Lib.hid (hgb.out.trans (hb2.mono hgb.out.size))
  have hb3 : Below w2.heap.size w2 (w2.alloc (Obj.cells #[Value.int IntKind.i64 C, Value.slice (some ⟨q, 0, none⟩) 2 cp] 53)) := (Below.refl _ _).alloc (Nat.le_refl _) _
  have hsz : w.heap.size < w2.heap.size := Nat.lt_of_lt_of_le hlt hb2.size
  have k0 := (hb3.cell (p := ⟨w.heap.size, 0, none⟩) hsz).trans f0
  have k1 := (hb3.cell (p := ⟨w.heap.size, 1, none⟩) hsz).trans f1
  have R3 := Lib.hid (Row_cells R2.out hb3)
  have Q3 := Lib.hid (Row_cells (row_two hc hd h1 h2 HW.out HV.out) hb3)
  have HB3 : Hid (Below w.heap.size w (w2.alloc (Obj.cells #[Value.int IntKind.i64 C, Value.slice (some ⟨q, 0, none⟩) 2 cp] 53))) := Lib.hid (HB2.out.alloc HB2.out.size _)
  clear hb2 hb3 f0 f1 hc hd hal hlt
  go_wp2_with fail
  refine (sameFault_two C pos pc q g cp cg _ Q3.out R3.out).mono ?_
  rintro e w4 ⟨rfl, hb4⟩
  go_wp2_with fail
  go_ret
  exact ⟨rfl, HB3.out.trans (hb4.mono HB3.out.size)⟩

def TherePost (c x y : Int) (w : World) (e : Ending) (w' : World) : Prop := ∃ g, e = .returned (.agg #[.int .i64 c, .slice (some ⟨g, 0, none⟩) 2 2]) ∧ w'.cell? ⟨g, 0, none⟩ = some (.int .i64 x) ∧ w'.cell? ⟨g, 1, none⟩ = some (.int .i64 y) ∧ Below w.heap.size w w'

theorem there_any (c x y : Int) (w : World) :
    Calls Tryd.prog 96 #[.int .i64 c, .int .i64 x, .int .i64 y] w (TherePost c x y w) := by
  go_enter Tryd.func96, Tryd.ntmps96
  go_wp2_with fail
  have hX := heap_alloc_new w (Obj.cells #[Value.int IntKind.i64 c, Value.slice (some ⟨w.heap.size + 1, 0, none⟩) 2 2] 53)
  have hs : (w.alloc (Obj.cells #[Value.int IntKind.i64 c, Value.slice (some ⟨w.heap.size + 1, 0, none⟩) 2 2] 53)).heap.size = w.heap.size + 1 := by simp
  have hY := heap_alloc_new (w.alloc (Obj.cells #[Value.int IntKind.i64 c, Value.slice (some ⟨w.heap.size + 1, 0, none⟩) 2 2] 53)) (Obj.cells #[Value.int IntKind.i64 x, Value.int IntKind.i64 y] 3)
  rw [hs] at hY
  have hb : Below w.heap.size w ((w.alloc (Obj.cells #[Value.int IntKind.i64 c, Value.slice (some ⟨w.heap.size + 1, 0, none⟩) 2 2] 53)).alloc (Obj.cells #[Value.int IntKind.i64 x, Value.int IntKind.i64 y] 3)) := ((Below.refl _ _).alloc (Nat.le_refl _) _).alloc (by simp) _
  have hX2 : ((w.alloc (Obj.cells #[Value.int IntKind.i64 c, Value.slice (some ⟨w.heap.size + 1, 0, none⟩) 2 2] 53)).alloc (Obj.cells #[Value.int IntKind.i64 x, Value.int IntKind.i64 y] 3)).heap[w.heap.size]? = _ := (Below.heap_alloc _ _ _ (by simp)).trans hX
  have f0 := (cell_of_row _ w.heap.size 0 _ 53 (0, 0) hX2).trans rfl
  have f1 := (cell_of_row _ w.heap.size 1 _ 53 (0, 0) hX2).trans rfl
  exact bodyPost_ret (v := .agg #[.int .i64 c, .slice (some ⟨w.heap.size + 1, 0, none⟩) 2 2]) (by simp [results, Tryd.results96, go_sem, f0, f1]) rfl ⟨_, rfl, (cell_of_row _ (w.heap.size + 1) 0 _ 3 (0, 0) hY).trans rfl, (cell_of_row _ (w.heap.size + 1) 1 _ 3 (0, 0) hY).trans rfl, hb⟩

end Go.Proofs.YtjffbojgdemooaaDoor

/-
  The statements' own look at a listed error with an *api.Where around it; There.
-/
import Derived.Test.YtjffbojgdemooaaDoorSee3
namespace Go.Proofs.YtjffbojgdemooaaDoor
open Go.RowKit

/-- A block of two integers that was just made is the call's own. -/
theorem own_new2 (w : World) (x y : Int) (B : Nat) (hB : B ≤ w.heap.size) : (w.alloc (.cells #[.int .i64 x, .int .i64 y] 3)).ownsRow B 3 1 (.slice (some ⟨w.heap.size, 0, none⟩) 2 2) 2 [.int .i64 x, .int .i64 y] :=
  ⟨rfl, .inr ⟨w.heap.size, 2, #[.int .i64 x, .int .i64 y], rfl, hB, heap_alloc_new w _, Nat.le_refl _, by unfold maxLen; omega, rfl, rfl⟩⟩

theorem assertAtNo (x : Addr) (w : World) : (Instr.typeAssert (.iface 135 (.pointer (some x))) 50 219 true).run Tryd.prog w = .ok (.tuple #[.pointer none, .bool false]) w := by
  obtain ⟨i, hi, hz⟩ := Option.map_eq_some_iff.1 zeroAt
  simp [Instr.typeAssert, run_underlying Tryd.underlying219, typeInfo, zeroValue, hi, hz]

theorem assertWhereYes (x : Addr) (w : World) : (Instr.typeAssert (.iface 135 (.pointer (some x))) 50 135 true).run Tryd.prog w = .ok (.tuple #[.pointer (some x), .bool true]) w := by
  obtain ⟨i, hi, hz⟩ := Option.map_eq_some_iff.1 zeroWhere
  simp [Instr.typeAssert, run_underlying Tryd.underlying135, typeInfo, zeroValue]

/-- A Where around a listed error: its block. -/
def WBox (a : Nat → Addr) (b m : Nat) (x y : Int) (w : World) : Prop := w.heap[b]? = some (.cells #[.int .i64 x, .int .i64 y, .iface 272 (.pointer (some (a m)))] 137 (0, 0))

theorem WBox.cells {a : Nat → Addr} {b m : Nat} {x y : Int} {w : World} (h : WBox a b m x y w) : w.cell? ⟨b, 0, none⟩ = some (.int .i64 x) ∧ w.cell? ⟨b, 1, none⟩ = some (.int .i64 y) ∧ w.cell? ⟨b, 2, none⟩ = some (.iface 272 (.pointer (some (a m)))) := by
  refine ⟨?_, ?_, ?_⟩ <;> (rw [cell_of_row w b _ _ 137 (0, 0) h]; rfl)
theorem WBox.below {a : Nat → Addr} {b m : Nat} {x y : Int} {w w' : World} (h : WBox a b m x y w) (hb : Below w.heap.size w w') : WBox a b m x y w' := (hb.block b (Array.getElem?_eq_some_iff.1 h).1).trans h

/-- A fault with two numbers around it. -/
def WPost (c pos pc : Int) (w : World) (e : Ending) (w' : World) : Prop := ∃ g cp, e = .returned (.agg #[.int .i64 c, .slice (some ⟨g, 0, none⟩) 2 cp]) ∧ w'.cell? ⟨g, 0, none⟩ = some (.int .i64 pos) ∧ w'.cell? ⟨g, 1, none⟩ = some (.int .i64 pc) ∧ 2 ≤ cp ∧ cp ≤ maxLen ∧ w.heap.size ≤ g ∧ Below w.heap.size w w'

/-- What the walk's last steps make. -/
def WFin (w : World) (r q : Nat) (pos pc C : Int) (w3 : World) : Prop :=
  ((((w3.setCell ⟨r, 0, none⟩ (.int .i64 C)).setCell ⟨r, 1, none⟩ (.slice (some ⟨q + 1, 0, none⟩) 2 2)).alloc (.cells #[.int .i64 pos, .int .i64 pc] 3)).drew).cell? ⟨r, 0, none⟩ = some (.int .i64 C) ∧
  ((((w3.setCell ⟨r, 0, none⟩ (.int .i64 C)).setCell ⟨r, 1, none⟩ (.slice (some ⟨q + 1, 0, none⟩) 2 2)).alloc (.cells #[.int .i64 pos, .int .i64 pc] 3)).drew).cell? ⟨r, 1, none⟩ = some (.slice (some ⟨q + 1, 0, none⟩) 2 2) ∧
  ((((w3.setCell ⟨r, 0, none⟩ (.int .i64 C)).setCell ⟨r, 1, none⟩ (.slice (some ⟨q + 1, 0, none⟩) 2 2)).alloc (.cells #[.int .i64 pos, .int .i64 pc] 3)).drew).cell? ⟨q + 1, 0, none⟩ = some (.int .i64 pos) ∧
  ((((w3.setCell ⟨r, 0, none⟩ (.int .i64 C)).setCell ⟨r, 1, none⟩ (.slice (some ⟨q + 1, 0, none⟩) 2 2)).alloc (.cells #[.int .i64 pos, .int .i64 pc] 3)).drew).cell? ⟨q + 1, 1, none⟩ = some (.int .i64 pc) ∧ 2 ≤ 2 ∧ 2 ≤ maxLen ∧ w.heap.size ≤ q + 1 ∧
  Below w.heap.size w ((((w3.setCell ⟨r, 0, none⟩ (.int .i64 C)).setCell ⟨r, 1, none⟩ (.slice (some ⟨q + 1, 0, none⟩) 2 2)).alloc (.cells #[.int .i64 pos, .int .i64 pc] 3)).drew)

theorem w_fin {w w3 : World} {r q : Nat} {pos pc C v : Int} {u : Value} (hr : w.heap.size = r) (hB : Below r w w3) (z1 : w3.cell? ⟨r, 0, none⟩ = some (.int .i64 v)) (z2 : w3.cell? ⟨r, 1, none⟩ = some u) (hs : w3.heap.size = q + 1) (hlt : r < q) (hsz : r + 1 ≤ q) : WFin w r q pos pc C w3 := by
  subst hr
  have hX : ((w3.setCell ⟨w.heap.size, 0, none⟩ (.int .i64 C)).setCell ⟨w.heap.size, 1, none⟩ (.slice (some ⟨q + 1, 0, none⟩) 2 2)).heap.size = q + 1 := by simp [hs]
  have e0 : ((w3.setCell ⟨w.heap.size, 0, none⟩ (.int .i64 C)).setCell ⟨w.heap.size, 1, none⟩ (.slice (some ⟨q + 1, 0, none⟩) 2 2)).cell? ⟨w.heap.size, 0, none⟩ = some (.int .i64 C) := by
    rw [World.cell?_setCell_other _ ⟨w.heap.size, 1, none⟩ ⟨w.heap.size, 0, none⟩ _ (by simp)]
    exact World.cell?_setCell_same _ _ _ z1
  have e1 : ((w3.setCell ⟨w.heap.size, 0, none⟩ (.int .i64 C)).setCell ⟨w.heap.size, 1, none⟩ (.slice (some ⟨q + 1, 0, none⟩) 2 2)).cell? ⟨w.heap.size, 1, none⟩ = some (.slice (some ⟨q + 1, 0, none⟩) 2 2) :=
    World.cell?_setCell_same _ _ _ (u := u) (by rw [World.cell?_setCell_other _ ⟨w.heap.size, 0, none⟩ ⟨w.heap.size, 1, none⟩ _ (by simp)]; exact z2)
  have hB2 : Below w.heap.size w ((w3.setCell ⟨w.heap.size, 0, none⟩ (.int .i64 C)).setCell ⟨w.heap.size, 1, none⟩ (.slice (some ⟨q + 1, 0, none⟩) 2 2)) := (hB.setCell (Nat.le_refl _) _).setCell (Nat.le_refl _) _
  unfold WFin
  generalize ((w3.setCell ⟨w.heap.size, 0, none⟩ (.int .i64 C)).setCell ⟨w.heap.size, 1, none⟩ (.slice (some ⟨q + 1, 0, none⟩) 2 2)) = X at *
  have hal : Below X.heap.size X (X.alloc (.cells #[.int .i64 pos, .int .i64 pc] 3)) := (Below.refl _ _).alloc (Nat.le_refl _) _
  refine ⟨?_, ?_, ?_, ?_, Nat.le_refl _, by unfold maxLen; omega, by omega, ?_⟩
  · exact (hal.cell (p := ⟨w.heap.size, 0, none⟩) (by show w.heap.size < _; omega)).trans e0
  · exact (hal.cell (p := ⟨w.heap.size, 1, none⟩) (by show w.heap.size < _; omega)).trans e1
  · have := heap_alloc_new X (.cells #[.int .i64 pos, .int .i64 pc] 3)
    rw [hX] at this
    exact (cell_of_row _ (q + 1) 0 _ 3 (0, 0) this).trans rfl
  · have := heap_alloc_new X (.cells #[.int .i64 pos, .int .i64 pc] 3)
    rw [hX] at this
    exact (cell_of_row _ (q + 1) 1 _ 3 (0, 0) this).trans rfl
  · exact below_drew (hB2.alloc hB2.size _)

set_option maxHeartbeats 2000000 in
theorem fault_w (a : Nat → Addr) (b m : Nat) (pos pc : Int) (w : World) (h : Sents a w) (hm : m < 14) (hb : WBox a b m pos pc w) :
    Calls Tryd.prog 125 #[.iface 135 (.pointer (some ⟨b, 0, none⟩)), .int .i64 9] w (WPost ((101 + m : Nat) : Int) pos pc w) := by
  have H := Lib.hid h
  have HM := Lib.hid hm
  have HBX := Lib.hid hb
  obtain ⟨c0, cp1, c1⟩ := hb.cells
  have hblt : b < w.heap.size := (Array.getElem?_eq_some_iff.1 hb).1
  clear h hm hb
  have hS : Hid (Sents a (w.alloc (Obj.cells #[Value.int IntKind.i64 0, Value.slice none 0 0] 53))) := Lib.hid (H.out.below ((Below.refl _ _).alloc (Nat.le_refl _) _))
  have hf := fault_8 a m _ hS.out HM.out
  obtain ⟨x, hx⟩ : ∃ x, a m = x := ⟨_, rfl⟩
  rw [hx] at hf c1
  have F := Lib.hid hf
  clear hf hx
  have E1 := Lib.hid (assertAtNo ⟨b, 0, none⟩)
  have E2 := Lib.hid (assertWhereYes ⟨b, 0, none⟩)
  go_enter Tryd.func125, Tryd.ntmps125
  go_wp2_with (first | rw [E1.out] | rw [E2.out])
  refine F.out.mono ?_
  rintro e w2 ⟨rfl, hb2⟩
  obtain ⟨f0, f1, g0, g1, hlt⟩ := boxed w 53 hb2
  have hsz : (w.alloc (Obj.cells #[Value.int IntKind.i64 0, Value.slice none 0 0] 53)).heap.size = w.heap.size + 1 := by simp
  have c0' : w2.cell? ⟨b, 0, none⟩ = some (.int .i64 pos) := (hb2.cell (p := ⟨b, 0, none⟩) (by rw [hsz]; show b < _; omega)).trans ((Below.cell ((Below.refl w.heap.size w).alloc (Nat.le_refl _) _) (p := ⟨b, 0, none⟩) hblt).trans c0)
  have cp1' : w2.cell? ⟨b, 1, none⟩ = some (.int .i64 pc) := (hb2.cell (p := ⟨b, 1, none⟩) (by rw [hsz]; show b < _; omega)).trans ((Below.cell ((Below.refl w.heap.size w).alloc (Nat.le_refl _) _) (p := ⟨b, 1, none⟩) hblt).trans cp1)
  have HB2 : Hid (Below w.heap.size w w2) := Lib.hid (((Below.refl _ _).alloc (Nat.le_refl _) _).trans (hb2.mono (by simp)))
  have hsz2 : w.heap.size + 1 ≤ w2.heap.size := by have := hb2.size; rw [hsz] at this; exact this
  have hms : ((101 + m : Nat) : Int) = 101 + (m : Int) := by omega
  rw [hms]
  obtain ⟨C, hC⟩ : ∃ C : Int, 101 + (m : Int) = C := ⟨_, rfl⟩
  clear hb2 c0 c1 cp1
  go_wp2_with fail
  have hal := heap_alloc_new w2 (Obj.cells #[Value.int IntKind.i64 C, Value.slice none 0 0] 53)
  have q0 : (w2.alloc (Obj.cells #[Value.int IntKind.i64 C, Value.slice none 0 0] 53)).cell? ⟨w2.heap.size, 0, none⟩ = some (.int .i64 C) := by
    rw [cell_of_row _ w2.heap.size _ _ 53 (0, 0) hal]; rfl
  have q1 : (w2.alloc (Obj.cells #[Value.int IntKind.i64 C, Value.slice none 0 0] 53)).cell? ⟨w2.heap.size, 1, none⟩ = some (.slice none 0 0) := by
    rw [cell_of_row _ w2.heap.size _ _ 53 (0, 0) hal]; rfl
  have hb3 : Below w2.heap.size w2 (w2.alloc (Obj.cells #[Value.int IntKind.i64 C, Value.slice none 0 0] 53)) := (Below.refl _ _).alloc (Nat.le_refl _) _
  have z0 := (hb3.cell (p := ⟨b, 0, none⟩) (by show b < _; omega)).trans c0'
  have zp := (hb3.cell (p := ⟨b, 1, none⟩) (by show b < _; omega)).trans cp1'
  have z1 := (hb3.cell (p := ⟨w.heap.size, 0, none⟩) (by show w.heap.size < _; omega)).trans f0
  have z2 := (hb3.cell (p := ⟨w.heap.size, 1, none⟩) (by show w.heap.size < _; omega)).trans f1
  have z3 := (hb3.frozen (p := ⟨w.heap.size, 0, none⟩) (by show w.heap.size < _; omega)).trans g0
  have z4 := (hb3.frozen (p := ⟨w.heap.size, 1, none⟩) (by show w.heap.size < _; omega)).trans g1
  have HB3 : Hid (Below w.heap.size w (w2.alloc (Obj.cells #[Value.int IntKind.i64 C, Value.slice none 0 0] 53))) := Lib.hid (HB2.out.alloc HB2.out.size _)
  have hs3 : (w2.alloc (Obj.cells #[Value.int IntKind.i64 C, Value.slice none 0 0] 53)).heap.size = w2.heap.size + 1 := by simp
  clear hal hb3 f0 f1 g0 g1 c0' cp1'
  generalize (w2.alloc (Obj.cells #[Value.int IntKind.i64 C, Value.slice none 0 0] 53)) = w3 at *
  have HO := Lib.hid (own_new2 w3.drew pos pc 0 (Nat.zero_le _))
  obtain ⟨i0, hi, hz0, hz1, hz2⟩ := info_parts intinfo3
  have HI := Lib.hid hi
  clear hi hz0 hz1 hz2
  have n1 : w3.heap.size ≠ w.heap.size := by omega
  have n2 : w3.heap.size ≠ w2.heap.size := by omega
  have n3 : w3.heap.size ≠ b := by omega
  generalize hq : w2.heap.size = q at *
  generalize hr : w.heap.size = r at *
  have HR := Lib.hid hr
  clear hr hq
  have HFIN : Hid (WFin w r q pos pc C w3) := Lib.hid (w_fin HR.out HB3.out z1 z2 hs3 hlt hsz2)
  go_region_law (refine step_append_none rfl (.tmp 64) (.tmp 66) 26 rfl 0 3 i0 1 Tryd.underlying26 HI.out (.slice (some ⟨w3.heap.size, 0, none⟩) 2 2) 2 [.int .i64 pos, .int .i64 pc] (by simp [Act.eval]) HO.out (by simp [Act.eval]) ?_)
  all_goals go_wp2_with fail
  all_goals
    obtain ⟨F0, F1, hp⟩ := HFIN.out
    exact bodyPost_ret (v := .agg #[.int .i64 C, .slice (some ⟨q + 1, 0, none⟩) 2 2]) (by simp [results, Tryd.results125, go_sem, F0, F1]) rfl (by rw [show ((101 + m : Nat) : Int) = C by omega]; exact ⟨q + 1, 2, rfl, hp⟩)

theorem Fault_w (a : Nat → Addr) (b m : Nat) (pos pc : Int) (w : World) (h : Sents a w) (hm : m < 14) (hb : WBox a b m pos pc w) :
    Calls Tryd.prog 62 #[.iface 135 (.pointer (some ⟨b, 0, none⟩))] w (WPost ((101 + m : Nat) : Int) pos pc w) := by
  have hbl : Below w.heap.size w (w.alloc (Obj.cells #[Value.int IntKind.i64 0, Value.slice none 0 0] 53)) := (Below.refl _ _).alloc (Nat.le_refl _) _
  have hf := fault_w a b m pos pc _ (h.below hbl) hm (hb.below hbl)
  have F := Lib.hid hf
  clear hf hbl h hb
  obtain ⟨C, hC⟩ : ∃ C : Int, ((101 + m : Nat) : Int) = C := ⟨_, rfl⟩
  rw [hC] at F ⊢
  clear hC
  go_enter Tryd.func62, Tryd.ntmps62
  go_wp2_with fail
  refine F.out.mono ?_
  rintro e w2 ⟨g, cp, rfl, hc, hd, h1, h2, hg, hb2⟩
  obtain ⟨f0, f1, g0, g1, hlt⟩ := boxed w 53 hb2
  have HB2 : Hid (Below w.heap.size w w2) := Lib.hid (((Below.refl _ _).alloc (Nat.le_refl _) _).trans (hb2.mono (by simp)))
  have hgw : w.heap.size < g := by simp at hg; omega
  have HC := Lib.hid hc
  have HD := Lib.hid hd
  clear hb2 hc hd hg
  go_wp2_with fail
  refine bodyPost_ret (v := .agg #[.int .i64 C, .slice (some ⟨g, 0, none⟩) 2 cp]) (by simp [results, Tryd.results62, go_sem, f0, f1]) rfl ⟨g, cp, rfl, ?_, ?_, h1, h2, by omega, (HB2.out.setCell (Nat.le_refl _) _).setCell (Nat.le_refl _) _⟩
  all_goals
    have hne : ∀ i j, (⟨w.heap.size, j, none⟩ : Addr) ≠ ⟨g, i, none⟩ := fun i j e => by
      have := congrArg Addr.block e
      simp at this
      omega
    rw [World.cell?_setCell_other _ _ _ _ (hne _ 1), World.cell?_setCell_other _ _ _ _ (hne _ 0)]
    first | exact HC.out | exact HD.out

end Go.Proofs.YtjffbojgdemooaaDoor

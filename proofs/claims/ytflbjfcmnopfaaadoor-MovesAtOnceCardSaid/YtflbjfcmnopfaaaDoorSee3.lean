/-
  The statements' own look at a listed error with an *api.At around it.
-/
import Derived.Test.YtflbjfcmnopfaaaDoorSee2
import Derived.Test.YtflbjfcmnopfaaaDoorSameI
import Derived.Laws.AppendOwnNone
import Derived.Deep.RegionLaw
namespace Go.Proofs.YtflbjfcmnopfaaaDoor
open Go.RowKit

/-- 'append' of a nil slice as one step of a region that draws its order. -/
theorem step_append_none {P : Program} {ops : Array Oper} {o : Oper} {a : Act} {w : World} {K : Act → World → Prop} {Q : Exit → Act → World → Prop} {E : Prop} (hgd : o.guard = none) (s x : Operand) (t : TypeId)
    (ho : o.op = .call { callee := .builtin .append, args := #[s, x], argTypes := #[t, t] })
    (base : Nat) (e : TypeId) (i : TypeInfo) (size : Nat) (ht : P.underlying t = some (.slice e)) (hi : P.info? e = some i)
    (v : Value) (n : Nat) (xs : List Value) (hs : a.eval s = v) (hown : w.ownsRow base e size v n xs) (hx : a.eval x = .slice none 0 0)
    (h : K (a.put o.dst v) w) :
    if Region.wanted o (yielded ops a.tmps) = true then Oper.wp P o a w K Q else E := by
  have hw : Region.wanted o (yielded ops a.tmps) = true := by simp [Region.wanted, hgd]
  rw [if_pos hw]
  have hrun := run_append_owned_none (P := P) (w := w) base t o.type e i size ht hi v n xs hown
  unfold Oper.wp
  simp [execOp, ho, resolve, invoke, builtin, hs, hx, hrun, Result.andThen]
  exact h

theorem intinfo3 : (Tryd.prog.info? 3).map (fun i => (i.zero, i.size, i.bytes)) = some (some (.int .i64 0), 1, 8) := by kernel_rfl

/-- A block of one integer that was just made is the call's own. -/
theorem own_new (w : World) (x : Int) (B : Nat) (hB : B ≤ w.heap.size) : (w.alloc (.cells #[.int .i64 x] 3)).ownsRow B 3 1 (.slice (some ⟨w.heap.size, 0, none⟩) 1 1) 1 [.int .i64 x] :=
  ⟨rfl, .inr ⟨w.heap.size, 1, #[.int .i64 x], rfl, hB, heap_alloc_new w _, Nat.le_refl _, by unfold maxLen; omega, rfl, rfl⟩⟩

theorem fault_8 (a : Nat → Addr) (m : Nat) (w : World) (h : Sents a w) (hm : m < 14) :
    Calls Tryd.prog 92 #[.iface 271 (.pointer (some (a m))), .int .i64 8] w (PlainPost ((101 + m : Nat) : Int) w) := by
  have H := Lib.hid h
  have HM := Lib.hid hm
  clear h hm
  obtain ⟨x, hx⟩ : ∃ x, a m = x := ⟨_, rfl⟩
  have HX := Lib.hid hx
  rw [hx]
  clear hx
  go_enter Tryd.func92, Tryd.ntmps92
  have E1 := Lib.hid (assertAt x)
  have E2 := Lib.hid (assertWhere x)
  have hS : Hid (Sents a (w.alloc (Obj.cells #[Value.int IntKind.i64 0, Value.slice none 0 0] 67))) := Lib.hid (H.out.below ((Below.refl _ _).alloc (Nat.le_refl _) _))
  have hsen := sentinel_any a m _ hS.out HM.out
  rw [HX.out] at hsen
  have SEN := Lib.hid hsen
  clear hsen
  go_wp2_with (first | rw [E1.out] | rw [E2.out])
  refine SEN.out.mono ?_
  rintro e w1 ⟨rfl, hb⟩
  have HB := Lib.hid hb
  clear hb
  go_wp2_with fail
  refine (bare_any _ _).mono ?_
  rintro e w2 ⟨rfl, hb2⟩
  obtain ⟨f0, f1, g0, g1, hlt⟩ := boxed w 67 (HB.out.trans (hb2.mono HB.out.size))
  have HB2 : Hid (Below w.heap.size w w2) := Lib.hid ((((Below.refl _ _).alloc (Nat.le_refl _) _).trans (HB.out.mono (by simp))).trans (hb2.mono (by have := HB.out.size; simp at this; omega)))
  clear hb2
  go_wp2_with fail
  exact bodyPost_ret (v := .agg #[.int .i64 ((101 + m : Nat) : Int), .slice none 0 0]) (by simp [results, Tryd.results92, go_sem, f0, f1]) rfl ⟨rfl, (HB2.out.setCell (Nat.le_refl _) _).setCell (Nat.le_refl _) _⟩

theorem assertAtYes (x : Addr) (w : World) : (Instr.typeAssert (.iface 202 (.pointer (some x))) 58 202 true).run Tryd.prog w = .ok (.tuple #[.pointer (some x), .bool true]) w := by
  simp [Instr.typeAssert, run_underlying Tryd.underlying202, typeInfo, zeroValue]

/-- An At around a listed error: its block. -/
def AtBox (a : Nat → Addr) (b m : Nat) (pos : Int) (w : World) : Prop := w.heap[b]? = some (.cells #[.int .i64 pos, .iface 271 (.pointer (some (a m)))] 204 (0, 0))

theorem AtBox.cells {a : Nat → Addr} {b m : Nat} {pos : Int} {w : World} (h : AtBox a b m pos w) : w.cell? ⟨b, 0, none⟩ = some (.int .i64 pos) ∧ w.cell? ⟨b, 1, none⟩ = some (.iface 271 (.pointer (some (a m)))) := by
  refine ⟨?_, ?_⟩ <;> (rw [cell_of_row w b _ _ 204 (0, 0) h]; rfl)
theorem AtBox.below {a : Nat → Addr} {b m : Nat} {pos : Int} {w w' : World} (h : AtBox a b m pos w) (hb : Below w.heap.size w w') : AtBox a b m pos w' := (hb.block b (Array.getElem?_eq_some_iff.1 h).1).trans h

/-- A fault with one number of places around it. -/
def AtPost (c pos : Int) (w : World) (e : Ending) (w' : World) : Prop := ∃ g cp, e = .returned (.agg #[.int .i64 c, .slice (some ⟨g, 0, none⟩) 1 cp]) ∧ w'.cell? ⟨g, 0, none⟩ = some (.int .i64 pos) ∧ 1 ≤ cp ∧ cp ≤ maxLen ∧ w.heap.size ≤ g ∧ Below w.heap.size w w'

theorem below_drew {B : Nat} {a w : World} (h : Below B a w) : Below B a w.drew := ⟨h.os, h.tape, h.output, h.size, h.block⟩

/-- What the walk's last steps make. -/
def AtFin (w : World) (r q : Nat) (pos C : Int) (w3 : World) : Prop :=
  ((((w3.setCell ⟨r, 0, none⟩ (.int .i64 C)).setCell ⟨r, 1, none⟩ (.slice (some ⟨q + 1, 0, none⟩) 1 1)).alloc (.cells #[.int .i64 pos] 3)).drew).cell? ⟨r, 0, none⟩ = some (.int .i64 C) ∧
  ((((w3.setCell ⟨r, 0, none⟩ (.int .i64 C)).setCell ⟨r, 1, none⟩ (.slice (some ⟨q + 1, 0, none⟩) 1 1)).alloc (.cells #[.int .i64 pos] 3)).drew).cell? ⟨r, 1, none⟩ = some (.slice (some ⟨q + 1, 0, none⟩) 1 1) ∧
  ((((w3.setCell ⟨r, 0, none⟩ (.int .i64 C)).setCell ⟨r, 1, none⟩ (.slice (some ⟨q + 1, 0, none⟩) 1 1)).alloc (.cells #[.int .i64 pos] 3)).drew).cell? ⟨q + 1, 0, none⟩ = some (.int .i64 pos) ∧ 1 ≤ 1 ∧ 1 ≤ maxLen ∧ w.heap.size ≤ q + 1 ∧
  Below w.heap.size w ((((w3.setCell ⟨r, 0, none⟩ (.int .i64 C)).setCell ⟨r, 1, none⟩ (.slice (some ⟨q + 1, 0, none⟩) 1 1)).alloc (.cells #[.int .i64 pos] 3)).drew)

theorem at_fin {w w3 : World} {r q : Nat} {pos C v : Int} {u : Value} (hr : w.heap.size = r) (hB : Below r w w3) (z1 : w3.cell? ⟨r, 0, none⟩ = some (.int .i64 v)) (z2 : w3.cell? ⟨r, 1, none⟩ = some u) (hs : w3.heap.size = q + 1) (hlt : r < q) (hsz : r + 1 ≤ q) : AtFin w r q pos C w3 := by
  subst hr
  have hX : ((w3.setCell ⟨w.heap.size, 0, none⟩ (.int .i64 C)).setCell ⟨w.heap.size, 1, none⟩ (.slice (some ⟨q + 1, 0, none⟩) 1 1)).heap.size = q + 1 := by simp [hs]
  have e0 : ((w3.setCell ⟨w.heap.size, 0, none⟩ (.int .i64 C)).setCell ⟨w.heap.size, 1, none⟩ (.slice (some ⟨q + 1, 0, none⟩) 1 1)).cell? ⟨w.heap.size, 0, none⟩ = some (.int .i64 C) := by
    rw [World.cell?_setCell_other _ ⟨w.heap.size, 1, none⟩ ⟨w.heap.size, 0, none⟩ _ (by simp)]
    exact World.cell?_setCell_same _ _ _ z1
  have e1 : ((w3.setCell ⟨w.heap.size, 0, none⟩ (.int .i64 C)).setCell ⟨w.heap.size, 1, none⟩ (.slice (some ⟨q + 1, 0, none⟩) 1 1)).cell? ⟨w.heap.size, 1, none⟩ = some (.slice (some ⟨q + 1, 0, none⟩) 1 1) :=
    World.cell?_setCell_same _ _ _ (u := u) (by rw [World.cell?_setCell_other _ ⟨w.heap.size, 0, none⟩ ⟨w.heap.size, 1, none⟩ _ (by simp)]; exact z2)
  have hB2 : Below w.heap.size w ((w3.setCell ⟨w.heap.size, 0, none⟩ (.int .i64 C)).setCell ⟨w.heap.size, 1, none⟩ (.slice (some ⟨q + 1, 0, none⟩) 1 1)) := (hB.setCell (Nat.le_refl _) _).setCell (Nat.le_refl _) _
  unfold AtFin
  generalize ((w3.setCell ⟨w.heap.size, 0, none⟩ (.int .i64 C)).setCell ⟨w.heap.size, 1, none⟩ (.slice (some ⟨q + 1, 0, none⟩) 1 1)) = X at *
  have hal : Below X.heap.size X (X.alloc (.cells #[.int .i64 pos] 3)) := (Below.refl _ _).alloc (Nat.le_refl _) _
  refine ⟨?_, ?_, ?_, Nat.le_refl _, by unfold maxLen; omega, by omega, ?_⟩
  · exact (hal.cell (p := ⟨w.heap.size, 0, none⟩) (by show w.heap.size < _; omega)).trans e0
  · exact (hal.cell (p := ⟨w.heap.size, 1, none⟩) (by show w.heap.size < _; omega)).trans e1
  · have := heap_alloc_new X (.cells #[.int .i64 pos] 3)
    rw [hX] at this
    exact (cell_of_row _ (q + 1) 0 _ 3 (0, 0) this).trans rfl
  · exact below_drew (hB2.alloc hB2.size _)

set_option maxHeartbeats 2000000 in
theorem fault_at (a : Nat → Addr) (b m : Nat) (pos : Int) (w : World) (h : Sents a w) (hm : m < 14) (hb : AtBox a b m pos w) :
    Calls Tryd.prog 92 #[.iface 202 (.pointer (some ⟨b, 0, none⟩)), .int .i64 9] w (AtPost ((101 + m : Nat) : Int) pos w) := by
  have H := Lib.hid h
  have HM := Lib.hid hm
  have HBX := Lib.hid hb
  obtain ⟨c0, c1⟩ := hb.cells
  have hblt : b < w.heap.size := (Array.getElem?_eq_some_iff.1 hb).1
  clear h hm hb
  have hS : Hid (Sents a (w.alloc (Obj.cells #[Value.int IntKind.i64 0, Value.slice none 0 0] 67))) := Lib.hid (H.out.below ((Below.refl _ _).alloc (Nat.le_refl _) _))
  have hf := fault_8 a m _ hS.out HM.out
  obtain ⟨x, hx⟩ : ∃ x, a m = x := ⟨_, rfl⟩
  rw [hx] at hf c1
  have F := Lib.hid hf
  clear hf hx
  have E1 := Lib.hid (assertAtYes ⟨b, 0, none⟩)
  go_enter Tryd.func92, Tryd.ntmps92
  go_wp2_with (first | rw [E1.out])
  refine F.out.mono ?_
  rintro e w2 ⟨rfl, hb2⟩
  obtain ⟨f0, f1, g0, g1, hlt⟩ := boxed w 67 hb2
  have hsz : (w.alloc (Obj.cells #[Value.int IntKind.i64 0, Value.slice none 0 0] 67)).heap.size = w.heap.size + 1 := by simp
  have c0' : w2.cell? ⟨b, 0, none⟩ = some (.int .i64 pos) := (hb2.cell (p := ⟨b, 0, none⟩) (by rw [hsz]; show b < _; omega)).trans ((Below.cell ((Below.refl w.heap.size w).alloc (Nat.le_refl _) _) (p := ⟨b, 0, none⟩) hblt).trans c0)
  have HB2 : Hid (Below w.heap.size w w2) := Lib.hid (((Below.refl _ _).alloc (Nat.le_refl _) _).trans (hb2.mono (by simp)))
  have hsz2 : w.heap.size + 1 ≤ w2.heap.size := by have := hb2.size; rw [hsz] at this; exact this
  have hms : ((101 + m : Nat) : Int) = 101 + (m : Int) := by omega
  rw [hms]
  obtain ⟨C, hC⟩ : ∃ C : Int, 101 + (m : Int) = C := ⟨_, rfl⟩
  clear hb2 c0 c1
  go_wp2_with fail
  have hal := heap_alloc_new w2 (Obj.cells #[Value.int IntKind.i64 C, Value.slice none 0 0] 67)
  have q0 : (w2.alloc (Obj.cells #[Value.int IntKind.i64 C, Value.slice none 0 0] 67)).cell? ⟨w2.heap.size, 0, none⟩ = some (.int .i64 C) := by
    rw [cell_of_row _ w2.heap.size _ _ 67 (0, 0) hal]; rfl
  have q1 : (w2.alloc (Obj.cells #[Value.int IntKind.i64 C, Value.slice none 0 0] 67)).cell? ⟨w2.heap.size, 1, none⟩ = some (.slice none 0 0) := by
    rw [cell_of_row _ w2.heap.size _ _ 67 (0, 0) hal]; rfl
  have hb3 : Below w2.heap.size w2 (w2.alloc (Obj.cells #[Value.int IntKind.i64 C, Value.slice none 0 0] 67)) := (Below.refl _ _).alloc (Nat.le_refl _) _
  have z0 := (hb3.cell (p := ⟨b, 0, none⟩) (by show b < _; omega)).trans c0'
  have z1 := (hb3.cell (p := ⟨w.heap.size, 0, none⟩) (by show w.heap.size < _; omega)).trans f0
  have z2 := (hb3.cell (p := ⟨w.heap.size, 1, none⟩) (by show w.heap.size < _; omega)).trans f1
  have z3 := (hb3.frozen (p := ⟨w.heap.size, 0, none⟩) (by show w.heap.size < _; omega)).trans g0
  have z4 := (hb3.frozen (p := ⟨w.heap.size, 1, none⟩) (by show w.heap.size < _; omega)).trans g1
  have HB3 : Hid (Below w.heap.size w (w2.alloc (Obj.cells #[Value.int IntKind.i64 C, Value.slice none 0 0] 67))) := Lib.hid (HB2.out.alloc HB2.out.size _)
  have hs3 : (w2.alloc (Obj.cells #[Value.int IntKind.i64 C, Value.slice none 0 0] 67)).heap.size = w2.heap.size + 1 := by simp
  clear hal hb3 f0 f1 g0 g1 c0'
  generalize (w2.alloc (Obj.cells #[Value.int IntKind.i64 C, Value.slice none 0 0] 67)) = w3 at *
  have HO := Lib.hid (own_new w3.drew pos 0 (Nat.zero_le _))
  obtain ⟨i0, hi, hz0, hz1, hz2⟩ := info_parts intinfo3
  have HI := Lib.hid hi
  clear hi hz0 hz1 hz2
  have n1 : w3.heap.size ≠ w.heap.size := by omega
  have n2 : w3.heap.size ≠ w2.heap.size := by omega
  have n3 : w3.heap.size ≠ b := by omega
  generalize hq : w2.heap.size = q at *
  generalize hr : w.heap.size = r at *
  have HR := Lib.hid hr
  clear hr hq
  have HFIN : Hid (AtFin w r q pos C w3) := Lib.hid (at_fin HR.out HB3.out z1 z2 hs3 hlt hsz2)
  go_region_law (refine step_append_none rfl (.tmp 36) (.tmp 38) 26 rfl 0 3 i0 1 Tryd.underlying26 HI.out (.slice (some ⟨w3.heap.size, 0, none⟩) 1 1) 1 [.int .i64 pos] (by simp [Act.eval]) HO.out (by simp [Act.eval]) ?_)
  all_goals go_wp2_with fail
  all_goals
    obtain ⟨F0, F1, hp⟩ := HFIN.out
    exact bodyPost_ret (v := .agg #[.int .i64 C, .slice (some ⟨q + 1, 0, none⟩) 1 1]) (by simp [results, Tryd.results92, go_sem, F0, F1]) rfl (by rw [show ((101 + m : Nat) : Int) = C by omega]; exact ⟨q + 1, 1, rfl, hp⟩)

theorem Fault_at (a : Nat → Addr) (b m : Nat) (pos : Int) (w : World) (h : Sents a w) (hm : m < 14) (hb : AtBox a b m pos w) :
    Calls Tryd.prog 41 #[.iface 202 (.pointer (some ⟨b, 0, none⟩))] w (AtPost ((101 + m : Nat) : Int) pos w) := by
  have hbl : Below w.heap.size w (w.alloc (Obj.cells #[Value.int IntKind.i64 0, Value.slice none 0 0] 67)) := (Below.refl _ _).alloc (Nat.le_refl _) _
  have hf := fault_at a b m pos _ (h.below hbl) hm (hb.below hbl)
  have F := Lib.hid hf
  clear hf hbl h hb
  obtain ⟨C, hC⟩ : ∃ C : Int, ((101 + m : Nat) : Int) = C := ⟨_, rfl⟩
  rw [hC] at F ⊢
  clear hC
  go_enter Tryd.func41, Tryd.ntmps41
  go_wp2_with fail
  refine F.out.mono ?_
  rintro e w2 ⟨g, cp, rfl, hc, h1, h2, hg, hb2⟩
  obtain ⟨f0, f1, g0, g1, hlt⟩ := boxed w 67 hb2
  have HB2 : Hid (Below w.heap.size w w2) := Lib.hid (((Below.refl _ _).alloc (Nat.le_refl _) _).trans (hb2.mono (by simp)))
  have hgw : w.heap.size < g := by simp at hg; omega
  have HC := Lib.hid hc
  clear hb2 hc hg
  go_wp2_with fail
  refine bodyPost_ret (v := .agg #[.int .i64 C, .slice (some ⟨g, 0, none⟩) 1 cp]) (by simp [results, Tryd.results41, go_sem, f0, f1]) rfl ⟨g, cp, rfl, ?_, h1, h2, by omega, (HB2.out.setCell (Nat.le_refl _) _).setCell (Nat.le_refl _) _⟩
  have hne : ∀ j, (⟨w.heap.size, j, none⟩ : Addr) ≠ ⟨g, 0, none⟩ := fun j e => by
    have := congrArg Addr.block e
    simp at this
    omega
  rw [World.cell?_setCell_other _ _ _ _ (hne 1), World.cell?_setCell_other _ _ _ _ (hne 0)]
  exact HC.out

theorem row_one {w : World} {g cp : Nat} {pos : Int} (hc : w.cell? ⟨g, 0, none⟩ = some (.int .i64 pos)) (h1 : 1 ≤ cp) (h2 : cp ≤ maxLen) (hw : (Lit.int .i64 pos).wf = true) : Row .i64 w (some ⟨g, 0, none⟩) 1 cp [pos] := by
  refine ⟨rfl, h1, h2, fun h => (by cases h), fun ad had j hj => ?_, fun n hn => ?_⟩
  · cases had
    obtain rfl : j = 0 := by omega
    simpa [Addr.add] using hc
  · simp at hn
    subst hn
    exact hw

theorem sameFault_one (c pos : Int) (g h cg ch : Nat) (w : World) (h1 : Row .i64 w (some ⟨g, 0, none⟩) 1 cg [pos]) (h2 : Row .i64 w (some ⟨h, 0, none⟩) 1 ch [pos]) :
    Calls Tryd.prog 90 #[.agg #[.int .i64 c, .slice (some ⟨g, 0, none⟩) 1 cg], .agg #[.int .i64 c, .slice (some ⟨h, 0, none⟩) 1 ch]] w (TruePost w) := by
  have H1 := Lib.hid h1
  have H2 := Lib.hid h2
  have m1 := h1.max
  have m2 := h2.max
  clear h1 h2
  unfold maxLen at m1 m2
  go_enter Tryd.func90, Tryd.ntmps90
  go_wp2_with fail
  refine (same_ints (some ⟨g, 0, none⟩) (some ⟨h, 0, none⟩) 1 cg 1 ch [pos] [pos] _ (Row_alloc (Row_alloc H1.out _) _) (Row_alloc (Row_alloc H2.out _) _) (by omega)).mono ?_
  rintro e w' ⟨he, nq, rfl⟩
  obtain rfl : e = .returned (.bool true) := by rw [he]; simp
  clear he
  go_wp2_with fail
  go_ret
  exact ⟨rfl, below_drewN (((Below.refl _ _).alloc (Nat.le_refl _) _).alloc (by simp) _) nq⟩

theorem same_around (a : Nat → Addr) (b m : Nat) (pos : Int) (g cg : Nat) (w : World) (h : Sents a w) (hm : m < 14) (hb : AtBox a b m pos w) (hr : Row .i64 w (some ⟨g, 0, none⟩) 1 cg [pos]) :
    Calls Tryd.prog 39 #[.iface 202 (.pointer (some ⟨b, 0, none⟩)), .agg #[.int .i64 ((101 + m : Nat) : Int), .slice (some ⟨g, 0, none⟩) 1 cg]] w (TruePost w) := by
  obtain ⟨C, hC⟩ : ∃ C : Int, ((101 + m : Nat) : Int) = C := ⟨_, rfl⟩
  have hbl : Below w.heap.size w (w.alloc (Obj.cells #[Value.int IntKind.i64 C, Value.slice (some ⟨g, 0, none⟩) 1 cg] 67)) := (Below.refl _ _).alloc (Nat.le_refl _) _
  have F := Lib.hid (Fault_at a b m pos _ (h.below hbl) hm (hb.below hbl))
  have HR := Lib.hid (Row_alloc hr (Obj.cells #[Value.int IntKind.i64 C, Value.slice (some ⟨g, 0, none⟩) 1 cg] 67))
  rw [hC] at F ⊢
  have hgb : Hid (Below w.heap.size w (w.alloc (Obj.cells #[Value.int IntKind.i64 C, Value.slice (some ⟨g, 0, none⟩) 1 cg] 67))) := Lib.hid hbl
  have HW := Lib.hid (hr.wf pos (by simp))
  clear h hb hbl hC hr
  go_enter Tryd.func39, Tryd.ntmps39
  go_wp2_with fail
  refine F.out.mono ?_
  rintro e w2 ⟨q, cp, rfl, hc, h1, h2, hg, hb2⟩
  have hal := heap_alloc_new w (Obj.cells #[Value.int IntKind.i64 C, Value.slice (some ⟨g, 0, none⟩) 1 cg] 67)
  have hlt : w.heap.size < (w.alloc (Obj.cells #[Value.int IntKind.i64 C, Value.slice (some ⟨g, 0, none⟩) 1 cg] 67)).heap.size := by simp
  have f0 : w2.cell? ⟨w.heap.size, 0, none⟩ = some (.int .i64 C) := (hb2.cell (p := ⟨w.heap.size, 0, none⟩) hlt).trans ((cell_of_row _ w.heap.size 0 _ 67 (0, 0) hal).trans rfl)
  have f1 : w2.cell? ⟨w.heap.size, 1, none⟩ = some (.slice (some ⟨g, 0, none⟩) 1 cg) := (hb2.cell (p := ⟨w.heap.size, 1, none⟩) hlt).trans ((cell_of_row _ w.heap.size 1 _ 67 (0, 0) hal).trans rfl)
  have R2 := Lib.hid (Row_cells HR.out hb2)
  have HB2 : Hid (Below w.heap.size w w2) := Lib.hid (hgb.out.trans (hb2.mono hgb.out.size))
  have hb3 : Below w2.heap.size w2 (w2.alloc (Obj.cells #[Value.int IntKind.i64 C, Value.slice (some ⟨q, 0, none⟩) 1 cp] 67)) := (Below.refl _ _).alloc (Nat.le_refl _) _
  have hsz : w.heap.size < w2.heap.size := Nat.lt_of_lt_of_le hlt hb2.size
  have k0 := (hb3.cell (p := ⟨w.heap.size, 0, none⟩) hsz).trans f0
  have k1 := (hb3.cell (p := ⟨w.heap.size, 1, none⟩) hsz).trans f1
  have R3 := Lib.hid (Row_cells R2.out hb3)
  have Q3 := Lib.hid (Row_cells (row_one hc h1 h2 HW.out) hb3)
  have HB3 : Hid (Below w.heap.size w (w2.alloc (Obj.cells #[Value.int IntKind.i64 C, Value.slice (some ⟨q, 0, none⟩) 1 cp] 67))) := Lib.hid (HB2.out.alloc HB2.out.size _)
  clear hb2 hb3 f0 f1 hc hal hlt
  go_wp2_with fail
  refine (sameFault_one C pos q g cp cg _ Q3.out R3.out).mono ?_
  rintro e w4 ⟨rfl, hb4⟩
  go_wp2_with fail
  go_ret
  exact ⟨rfl, HB3.out.trans (hb4.mono HB3.out.size)⟩

end Go.Proofs.YtflbjfcmnopfaaaDoor

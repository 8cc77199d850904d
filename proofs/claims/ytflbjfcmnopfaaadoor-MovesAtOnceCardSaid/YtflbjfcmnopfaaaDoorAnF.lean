/-
  The arena by a function of places (a row without Copy).
-/
import Derived.Test.YtflbjfcmnopfaaaDoorArnN
import Derived.Deep.DeepCutAuto
import Derived.Lib.SliceRun
namespace Go.Proofs.YtflbjfcmnopfaaaDoor
open Go.RowKit

/-- An arena by what stands at each place. -/
def AnF (B b g n : Nat) (f : Nat → Int) (w : World) : Prop := ∃ zs, An B b g n zs w ∧ ∀ j, j < n → zs.getD j 0 = f j

theorem AnF.kept {B b g n : Nat} {f : Nat → Int} {w w' : World} (h : AnF B b g n f w) (hg : w'.heap[g]? = w.heap[g]?) (hb : w'.heap[b]? = w.heap[b]?) : AnF B b g n f w' := by
  obtain ⟨zs, hA, hf⟩ := h
  exact ⟨zs, hA.kept hg hb, hf⟩

theorem AnF.of {B b g n : Nat} {zs : List Int} {f : Nat → Int} {w : World} (h : An B b g n zs w) (hf : ∀ j, j < n → zs.getD j 0 = f j) : AnF B b g n f w := ⟨zs, h, hf⟩

theorem AnF.lo {B b g n : Nat} {f : Nat → Int} {w : World} (h : AnF B b g n f w) : B ≤ g := by
  obtain ⟨zs, hA, _⟩ := h
  exact hA.lo

theorem loadF {B b g n : Nat} {f : Nat → Int} (i : Nat) (w : World) (h : AnF B b g n f w) (h1 : i < n) :
    Calls Tryd.prog 113 #[.pointer (some ⟨b, 0, none⟩), .int .i64 i] w fun e w' => e = .returned (.tuple #[.int .i64 (f i), .bool true]) ∧ w = w' := by
  obtain ⟨zs, hA, hf⟩ := h
  rw [← hf i h1]
  exact load_yes i w hA h1

def ArnPost (B b g n : Nat) (f : Nat → Int) (w : World) (e : Ending) (w' : World) : Prop := e = .returned (.bool true) ∧ AnF B b g n f w' ∧ w.grownBy w' (some g)

theorem storeF {B b g n : Nat} {f : Nat → Int} (i : Nat) (v : Int) (w : World) (h : AnF B b g n f w) (h1 : i < n) :
    Calls Tryd.prog 142 #[.pointer (some ⟨b, 0, none⟩), .int .i64 i, .int .i64 v] w (ArnPost B b g n (fun j => if j = i then v else f j) w) := by
  obtain ⟨zs, hA, hf⟩ := h
  refine (store_yes i v w hA h1).mono ?_
  rintro e w' ⟨rfl, hA', hg⟩
  refine ⟨rfl, ⟨_, hA', fun j hj => ?_⟩, hg⟩
  have hl := hA.len
  show _ = if j = i then v else f j
  by_cases e : j = i
  · subst e
    rw [if_pos rfl]
    simp [List.getD, show j < zs.length by omega]
  · rw [if_neg e, ← hf j hj]
    simp [List.getD, show ¬ i = j from fun q => e q.symm]

/-- 'clear' of a part of a row. -/
theorem wpList_clear_row {P : Program} {w : World} {ops : Array Oper} {rest : List Oper} {o : Oper} {a : Act} {Q : Exit → Act → World → Prop} (hgd : o.guard = none) (s : Operand) (t e : TypeId)
    (ho : o.op = .call { callee := .builtin .clear, args := #[s], argTypes := #[t] }) (z : Value) (ht : P.underlying t = some (.slice e)) (hv : ∀ w, (zeroValue e).run P w = .ok z w) (hz : z.cells = #[z]) (h1 : z.oneCell' = true)
    (b off n c : Nat) (hs : a.eval s = .slice (some ⟨b, off, none⟩) n c) (hn : 0 < n) (hc : ∀ j, j < n → (w.cell? ⟨b, off + j, none⟩).isSome = true) (hf : ∀ j, j < n → w.frozen? ⟨b, off + j, none⟩ = false)
    (hK : ∀ w', w' = w.setCells b off (List.replicate n z) → wpList P ops Q rest (a.put o.dst (.tuple #[])) w') : wpList P ops Q (o :: rest) a w := by
  refine wpList_plain hgd fun K hK' => ?_
  have hrun := Lib.run_clear_slice (P := P) w t e o.type z ht hv hz h1 b off n c hn hc hf
  unfold Oper.wp
  simp [execOp, ho, resolve, invoke, builtin, hs, hrun, Result.andThen]
  exact hK' _ _ (hK _ rfl)

theorem An.storedAll {B b g n : Nat} : ∀ (vs : List Int) (zs : List Int) (o : Nat) (w : World), An B b g n zs w → o + vs.length ≤ n →
    ∃ zs', An B b g n zs' (w.setCells g o (vs.map (Value.int .i64))) ∧ (∀ j, zs'.getD j 0 = if o ≤ j ∧ j < o + vs.length then vs.getD (j - o) 0 else zs.getD j 0) ∧ w.grownBy (w.setCells g o (vs.map (Value.int .i64))) (some g)
  | [], zs, o, w, h, _ => ⟨zs, h, fun j => by rw [if_neg]; simp, World.grownBy.refl _ _⟩
  | v :: r, zs, o, w, h, hl => by
    simp only [List.length_cons] at hl
    obtain ⟨zs', h', hg, hw⟩ := An.storedAll r (zs.set o v) (o + 1) _ (h.stored o v) (by omega)
    have hlen := h.len
    refine ⟨zs', h', fun j => ?_, ?_⟩
    · rw [hg j]
      by_cases h1 : o + 1 ≤ j ∧ j < o + 1 + r.length
      · rw [if_pos h1, if_pos ⟨by omega, by simp; omega⟩]
        obtain ⟨q, hq⟩ : ∃ q, j - o = q + 1 := ⟨j - (o + 1), by omega⟩
        rw [hq, show j - (o + 1) = q by omega]
        simp
      · rw [if_neg h1]
        by_cases h2 : j = o
        · subst h2
          rw [if_pos ⟨Nat.le_refl _, by simp⟩]
          simp [List.getD, show j < zs.length by omega]
        · rw [if_neg (by simp; omega)]
          simp [List.getD, show ¬ o = j from fun q => h2 q.symm]
    · have k := grown_store w g o (.int .i64 v)
      exact ⟨hw.os.trans k.os, hw.tape.trans k.tape, hw.output.trans k.output, Nat.le_trans k.size hw.size, fun i hi hne => (hw.block i (by have := k.size; omega) hne).trans (k.block i hi hne)⟩

theorem zero_i64 : ∀ w, (zeroValue 2).run Tryd.prog w = .ok (.int .i64 0) w := by
  intro w
  obtain ⟨i, hi, hz0, hz1, hz2⟩ := info_parts i64info
  simp [zeroValue, typeInfo, hi, hz0]


theorem AnF.congr {B b g n : Nat} {f f' : Nat → Int} {w : World} (h : AnF B b g n f w) (hf : ∀ j, j < n → f j = f' j) : AnF B b g n f' w := by
  obtain ⟨zs, hA, hz⟩ := h
  exact ⟨zs, hA, fun j hj => (hz j hj).trans (hf j hj)⟩

theorem AnF.blocks {B b g n : Nat} {f : Nat → Int} {w : World} (h : AnF B b g n f w) : b < w.heap.size ∧ g < w.heap.size := by
  obtain ⟨zs, hA, hz⟩ := h
  refine ⟨World.block_lt_of_cell? w ⟨b, 0, none⟩ hA.box, ?_⟩
  exact (Array.getElem?_eq_some_iff.1 hA.row).1

theorem AnF.below {B b g n M : Nat} {f : Nat → Int} {w w' : World} (h : AnF B b g n f w) (hb : Below M w w') (h1 : b < M) (h2 : g < M) : AnF B b g n f w' := h.kept (hb.block g h2) (hb.block b h1)

theorem loadI {B b g n : Nat} {f : Nat → Int} (I : Int) (i : Nat) (v : Int) (w : World) (h : AnF B b g n f w) (hI : I = i) (h1 : i < n) (hv : f i = v) :
    Calls Tryd.prog 113 #[.pointer (some ⟨b, 0, none⟩), .int .i64 I] w fun e w' => e = .returned (.tuple #[.int .i64 v, .bool true]) ∧ w = w' := by
  subst hI; subst hv
  exact loadF i w h h1

theorem storeI {B b g n : Nat} {f : Nat → Int} (I : Int) (i : Nat) (v : Int) (w : World) (h : AnF B b g n f w) (hI : I = i) (h1 : i < n) :
    Calls Tryd.prog 142 #[.pointer (some ⟨b, 0, none⟩), .int .i64 I, .int .i64 v] w (ArnPost B b g n (fun j => if j = i then v else f j) w) := by
  subst hI
  exact storeF i v w h h1


end Go.Proofs.YtflbjfcmnopfaaaDoor

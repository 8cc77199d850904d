/-
  The arena by a function of places; Clear; Copy that doesn't fit.
-/
import Derived.Test.YtpfpieakemnadaaDoorArnFirst
import Derived.Deep.DeepCutAuto
import Derived.Lib.SliceRun
namespace Go.Proofs.YtpfpieakemnadaaDoor
open Go.RowKit

/-- An arena by what stands at each place. -/
def AnF (B b g n : Nat) (f : Nat → Int) (w : World) : Prop := ∃ zs, An B b g n zs w ∧ ∀ j, j < n → zs.getD j 0 = f j

theorem AnF.kept {B b g n : Nat} {f : Nat → Int} {w w' : World} (h : AnF B b g n f w) (hg : w'.heap[g]? = w.heap[g]?) (hb : w'.heap[b]? = w.heap[b]?) : AnF B b g n f w' := by
  obtain ⟨zs, hA, hf⟩ := h
  exact ⟨zs, hA.kept hg hb, hf⟩

theorem AnF.of {B b g n : Nat} {zs : List Int} {f : Nat → Int} {w : World} (h : An B b g n zs w) (hf : ∀ j, j < n → zs.getD j 0 = f j) : AnF B b g n f w := ⟨zs, h, hf⟩

theorem AnF.lo {B b g n : Nat} {f : Nat → Int} {w : World} (h : AnF B b g n f w) : B ≤ g := by
  obtain ⟨zs, hA, _⟩ := h
  exact hA.lo

theorem loadF {B b g n : Nat} {f : Nat → Int} (i : Nat) (w : World) (h : AnF B b g n f w) (h1 : i < n) :
    Calls Tryd.prog 54 #[.pointer (some ⟨b, 0, none⟩), .int .i64 i] w fun e w' => e = .returned (.tuple #[.int .i64 (f i), .bool true]) ∧ w = w' := by
  obtain ⟨zs, hA, hf⟩ := h
  rw [← hf i h1]
  exact load_yes i w hA h1

def ArnPost (B b g n : Nat) (f : Nat → Int) (w : World) (e : Ending) (w' : World) : Prop := e = .returned (.bool true) ∧ AnF B b g n f w' ∧ w.grownBy w' (some g)

theorem storeF {B b g n : Nat} {f : Nat → Int} (i : Nat) (v : Int) (w : World) (h : AnF B b g n f w) (h1 : i < n) :
    Calls Tryd.prog 50 #[.pointer (some ⟨b, 0, none⟩), .int .i64 i, .int .i64 v] w (ArnPost B b g n (fun j => if j = i then v else f j) w) := by
  obtain ⟨zs, hA, hf⟩ := h
  refine (store_yes i v w hA h1).mono ?_
  rintro e w' ⟨rfl, hA', hg⟩
  refine ⟨rfl, ⟨_, hA', fun j hj => ?_⟩, hg⟩
  have hl := hA.len
  show _ = if j = i then v else f j
  by_cases e : j = i
  · subst e
    rw [if_pos rfl]
    simp [List.getD, List.getElem?_set, show j < zs.length by omega]
  · rw [if_neg e, ← hf j hj]
    simp [List.getD, List.getElem?_set, show ¬ i = j from fun q => e q.symm]

theorem splice_getD (zs cs : List Int) (tt j : Nat) (h : tt + cs.length ≤ zs.length) :
    (Go.splice zs tt cs).getD j 0 = if tt ≤ j ∧ j < tt + cs.length then cs.getD (j - tt) 0 else zs.getD j 0 := by
  unfold Go.splice
  simp only [List.getD_eq_getElem?_getD]
  by_cases h1 : j < tt
  · rw [if_neg (by omega), List.getElem?_append_left (by rw [List.length_take]; omega), List.getElem?_take, if_pos h1]
  · rw [List.getElem?_append_right (by rw [List.length_take]; omega)]
    have e : (zs.take tt).length = tt := by rw [List.length_take]; omega
    rw [e]
    by_cases h2 : j < tt + cs.length
    · rw [if_pos ⟨by omega, h2⟩, List.getElem?_append_left (by omega)]
    · rw [if_neg (by omega), List.getElem?_append_right (by omega), List.getElem?_drop]
      congr 2
      omega

theorem copyF {B b g n : Nat} {f : Nat → Int} (tt fr m : Nat) (w : World) (h : AnF B b g n f w) (h1 : tt + m ≤ n) (h2 : fr + m ≤ n) :
    Calls Tryd.prog 51 #[.pointer (some ⟨b, 0, none⟩), .int .i64 tt, .int .i64 fr, .int .i64 m] w (ArnPost B b g n (fun j => if tt ≤ j ∧ j < tt + m then f (fr + (j - tt)) else f j) w) := by
  obtain ⟨zs, hA, hf⟩ := h
  refine (copy_yes tt fr m w hA h1 h2).mono ?_
  rintro e w' ⟨rfl, hA', hg⟩
  refine ⟨rfl, ⟨_, hA', fun j hj => ?_⟩, hg⟩
  have hl := hA.len
  have hcl : ((zs.drop fr).take m).length = m := by rw [List.length_take, List.length_drop]; omega
  show _ = if tt ≤ j ∧ j < tt + m then f (fr + (j - tt)) else f j
  rw [splice_getD _ _ _ _ (by rw [hcl]; omega), hcl]
  split
  · rename_i hj2
    rw [← hf (fr + (j - tt)) (by omega)]
    simp [List.getD, List.getElem?_take, List.getElem?_drop, show j - tt < m by omega]
  · exact hf j hj

/-- 'clear' of a part of a row. -/
theorem wpList_clear_row {P : Program} {w : World} {ops : Array Oper} {rest : List Oper} {o : Oper} {a : Act} {Q : Exit → Act → World → Prop} (hgd : o.guard = none) (s : Operand) (t e : TypeId)
    (ho : o.op = .call { callee := .builtin .clear, args := #[s], argTypes := #[t] }) (z : Value) (ht : P.underlying t = some (.slice e)) (hv : ∀ w, (zeroValue e).run P w = .ok z w) (hz : z.cells = #[z]) (h1 : z.oneCell' = true)
    (b off n c : Nat) (hs : a.eval s = .slice (some ⟨b, off, none⟩) n c) (hn : 0 < n) (hc : ∀ j, j < n → (w.cell? ⟨b, off + j, none⟩).isSome = true) (hf : ∀ j, j < n → w.frozen? ⟨b, off + j, none⟩ = false)
    (hK : ∀ w', w' = w.setCells b off (List.replicate n z) → wpList P ops Q rest (a.put o.dst (.tuple #[])) w') : wpList P ops Q (o :: rest) a w := by
  refine wpList_plain hgd fun K hK' => ?_
  have hrun := Lib.run_clear_slice (P := P) w t e o.type z ht hv hz h1 b off n c hn hc hf
  unfold Oper.wp
  simp [execOp, ho, resolve, invoke, builtin, hs, hrun, Result.andThen]
  exact hK' _ _ (hK _ rfl)

theorem An.storedAll {B b g n : Nat} : ∀ (vs : List Int) (zs : List Int) (o : Nat) (w : World), An B b g n zs w → o + vs.length ≤ n →
    ∃ zs', An B b g n zs' (w.setCells g o (vs.map (Value.int .i64))) ∧ (∀ j, zs'.getD j 0 = if o ≤ j ∧ j < o + vs.length then vs.getD (j - o) 0 else zs.getD j 0) ∧ w.grownBy (w.setCells g o (vs.map (Value.int .i64))) (some g)
  | [], zs, o, w, h, _ => ⟨zs, h, fun j => by rw [if_neg]; simp, World.grownBy.refl _ _⟩
  | v :: r, zs, o, w, h, hl => by
    simp only [List.length_cons] at hl
    obtain ⟨zs', h', hg, hw⟩ := An.storedAll r (zs.set o v) (o + 1) _ (h.stored o v) (by omega)
    have hlen := h.len
    refine ⟨zs', h', fun j => ?_, ?_⟩
    · rw [hg j]
      by_cases h1 : o + 1 ≤ j ∧ j < o + 1 + r.length
      · rw [if_pos h1, if_pos ⟨by omega, by simp; omega⟩]
        obtain ⟨q, hq⟩ : ∃ q, j - o = q + 1 := ⟨j - (o + 1), by omega⟩
        rw [hq, show j - (o + 1) = q by omega]
        simp
      · rw [if_neg h1]
        by_cases h2 : j = o
        · subst h2
          rw [if_pos ⟨Nat.le_refl _, by simp⟩]
          simp [List.getD, List.getElem?_set, show j < zs.length by omega]
        · rw [if_neg (by simp; omega)]
          simp [List.getD, List.getElem?_set, show ¬ o = j from fun q => h2 q.symm]
    · have k := grown_store w g o (.int .i64 v)
      exact ⟨hw.os.trans k.os, hw.tape.trans k.tape, hw.output.trans k.output, Nat.le_trans k.size hw.size, fun i hi hne => (hw.block i (by have := k.size; omega) hne).trans (k.block i hi hne)⟩

theorem zero_i64 : ∀ w, (zeroValue 2).run Tryd.prog w = .ok (.int .i64 0) w := by
  intro w
  obtain ⟨i, hi, hz0, hz1, hz2⟩ := info_parts i64info
  simp [zeroValue, typeInfo, hi, hz0]

def ClearPost (B b g n : Nat) (w : World) (e : Ending) (w' : World) : Prop := e = .returned (.tuple #[]) ∧ AnF B b g n (fun _ => 0) w' ∧ w.grownBy w' (some g)

theorem clearF {B b g n : Nat} {f : Nat → Int} (w : World) (h : AnF B b g n f w) (hn : 0 < n) :
    Calls Tryd.prog 53 #[.pointer (some ⟨b, 0, none⟩), .int .i64 0, .int .i64 n] w (ClearPost B b g n w) := by
  obtain ⟨zs, hA, _⟩ := h
  have hb := hA.box
  have hs := hA.small
  have hc0 : ∀ n1 j, j < n → ((w.drewN n1).cell? ⟨g, 0 + j, none⟩).isSome = true := fun n1 j hj => by
    show (w.cell? ⟨g, 0 + j, none⟩).isSome = true
    rw [Nat.zero_add, hA.cell j hj]; rfl
  have hf0 : ∀ n1 j, j < n → (w.drewN n1).frozen? ⟨g, 0 + j, none⟩ = false := fun n1 j hj => hA.frozen _
  have HC := Lib.hid hc0
  have HF := Lib.hid hf0
  have HA := Lib.hid hA
  have HN := Lib.hid hn
  clear hA hc0 hf0
  have d1 : decide ((0 : Int) < (n : Int)) = true := by simp; omega
  go_enter Tryd.func53, Tryd.ntmps53
  go_wp2
  go_quiet (fail)
  all_goals go_wp2_with (with_reducible refine wpList_clear_row (o := ⟨none, _, _, _, _, _⟩) rfl (.tmp 24) 83 2 rfl (.int .i64 0) Tryd.underlying83 zero_i64 rfl rfl g 0 n n rfl HN.out (HC.out _) (HF.out _) ?_)
  all_goals
    have hA4 : An B b g n zs (w.drewN nq) := HA.out.kept rfl rfl
    obtain ⟨zs', hA5, hz, hg5⟩ := An.storedAll (List.replicate n 0) zs 0 _ hA4 (by simp)
    rw [List.map_replicate] at hA5 hg5
    have hpost : ClearPost B b g n w (.returned (.tuple #[])) ((w.drewN nq).setCells g 0 (List.replicate n (Value.int IntKind.i64 0))) := by
      refine ⟨rfl, ⟨zs', hA5, fun j hj => ?_⟩, ⟨hg5.os, hg5.tape, hg5.output, hg5.size, hg5.block⟩⟩
      rw [hz j, if_pos (by simp; omega)]
      simp [List.getD, hj]
    clear hA4 hA5 hz hg5
    exact bodyPost_end (v := .tuple #[]) (by simp [results, Tryd.results53, go_sem]) rfl hpost

end Go.Proofs.YtpfpieakemnadaaDoor

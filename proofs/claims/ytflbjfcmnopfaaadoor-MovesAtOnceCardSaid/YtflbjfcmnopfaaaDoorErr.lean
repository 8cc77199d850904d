/-
  The listed errors: what the premise on them gives.
-/
import Derived.Test.YtflbjfcmnopfaaaDoorProg
import Derived.Test.YtflbjfcmnopfaaaDoorMem
import Derived.Test.YtflbjfcmnopfaaaDoorRows
import Derived.Stop.LaidErr
import Derived.LaidSub
namespace Go.Proofs.YtflbjfcmnopfaaaDoor
open Go.RowKit Go.ChangeShapes

def mkSent {H : Type} (x : String × List UInt8) : String × DataW H := (x.1, .iface "*errors.errorString" (.ptr (.agg [.lit (.string x.2)])))

theorem sents_of_vars {P : Program} {W : World} {ti tp te ts : TypeId} {ms : Array (String × TypeId)} {f : Field}
    (hi : P.underlying ti = some (.interface ms)) (hrow : ∀ u, P.typeName? 3 u = some "*errors.errorString" → u = tp)
    (hp : P.underlying tp = some (.pointer te)) (he : P.underlying te = some (.struct #[f])) (hft : f.type = ts) (hfo : f.offset = 0) (hs : P.underlying ts = some .string) (hc : P.cellsOf te = 1) (hcs : P.cellsOf ts = 1) :
    ∀ (l : List (String × List UInt8)) (ps : List MemPlace), DataW.LaidVars P W (l.map mkSent) ps → ps.Nodup →
    (∀ b off, MemPlace.cell b off ∈ ps → (∃ c t, W.heap[b]? = some (.cells c t (0, 0))) ∧ ∀ u v, W.cell? ⟨b, off, none⟩ = some (.iface u v) → Value.okWide P W .any 0 u v) →
    (∀ x ∈ l, ∃ g, P.globalNamed x.1 = some g ∧ (P.globals[g]?).map (·.type) = some ti) →
    ∃ ads : List Addr, ads.length = l.length ∧ ads.Nodup ∧ (∀ a ∈ ads, MemPlace.cell a.block a.off ∈ ps) ∧
      ∀ (i : Nat) x, l[i]? = some x → ∃ a g, ads[i]? = some a ∧ P.globalNamed x.1 = some g ∧ W.cell? ⟨g, 0, none⟩ = some (.iface tp (.pointer (some a)))
  | [], ps, _, _, _, _ => ⟨[], rfl, List.nodup_nil, fun a h => by simp at h, fun i x h => by simp at h⟩
  | x :: r, ps, h, hnd, hrows, hg => by
    obtain ⟨g0, t0, cs0, f0, p0, q0, hg0, ht0, hv0, hd0, hq, e0⟩ := h
    obtain ⟨g1, hg1, ht1⟩ := hg x (by simp)
    obtain rfl := Option.some.inj (hg1.symm.trans hg0)
    obtain rfl := Option.some.inj (ht1.symm.trans ht0)
    subst e0
    obtain ⟨l0⟩ := cs0
    have ok0 : ∀ u v, l0 = [.iface u v] → Value.okWide P W .any 0 u v := fun u v e => by
      subst e
      exact (hrows g1 0 (by simp [MemPlace.row])).2 u v (by simpa using World.var?_cell hg0 hv0 0)
    obtain ⟨a0, s0, rfl, hc0, hs0, hz0, rfl⟩ := errorString_of_trod hi hrow hp he hft hfo hs hc hcs hd0 ok0
    obtain ⟨ads, hl, hn, hin, hat⟩ := sents_of_vars hi hrow hp he hft hfo hs hc hcs r q0 hq (List.Nodup.sublist (List.sublist_append_right _ _) hnd) (fun b off hm => hrows b off (List.mem_append_right _ hm)) (fun y hy => hg y (by simp [hy]))
    have ha0 : MemPlace.cell a0.block a0.off ∈ MemPlace.row a0 1 := by simp [MemPlace.row]
    refine ⟨a0 :: ads, by simp [hl], List.nodup_cons.2 ⟨fun hm => ?_, hn⟩, ?_, ?_⟩
    · have hq1 := hin a0 hm
      have := (List.nodup_append.1 hnd).2.2 _ (List.mem_append_right _ ha0) _ hq1
      exact this rfl
    · intro a ha
      rcases List.mem_cons.1 ha with rfl | ha
      · exact List.mem_append_left _ (List.mem_append_right _ ha0)
      · exact List.mem_append_right _ (hin a ha)
    · intro i y hy
      cases i with
      | zero =>
        simp at hy
        subst hy
        exact ⟨a0, g1, rfl, hg0, by simpa using World.var?_cell hg0 hv0 0⟩
      | succ i => exact hat i y (by simpa using hy)

/-- The listed errors, in their order: each its own address. -/
structure Sents (a : Nat → Addr) (w : World) : Prop where
  rows : ∀ i, i < 14 → ∃ c t, w.heap[(a i).block]? = some (.cells c t (0, 0))
  inj : ∀ i j, i < 14 → j < 14 → a i = a j → i = j
  c0 : w.cell? ⟨0, 0, none⟩ = some (.iface 271 (.pointer (some (a 0))))
  c1 : w.cell? ⟨6, 0, none⟩ = some (.iface 271 (.pointer (some (a 1))))
  c2 : w.cell? ⟨1, 0, none⟩ = some (.iface 271 (.pointer (some (a 2))))
  c3 : w.cell? ⟨8, 0, none⟩ = some (.iface 271 (.pointer (some (a 3))))
  c4 : w.cell? ⟨2, 0, none⟩ = some (.iface 271 (.pointer (some (a 4))))
  c5 : w.cell? ⟨7, 0, none⟩ = some (.iface 271 (.pointer (some (a 5))))
  c6 : w.cell? ⟨4, 0, none⟩ = some (.iface 271 (.pointer (some (a 6))))
  c7 : w.cell? ⟨9, 0, none⟩ = some (.iface 271 (.pointer (some (a 7))))
  c8 : w.cell? ⟨10, 0, none⟩ = some (.iface 271 (.pointer (some (a 8))))
  c9 : w.cell? ⟨11, 0, none⟩ = some (.iface 271 (.pointer (some (a 9))))
  c10 : w.cell? ⟨5, 0, none⟩ = some (.iface 271 (.pointer (some (a 10))))
  c11 : w.cell? ⟨12, 0, none⟩ = some (.iface 271 (.pointer (some (a 11))))
  c12 : w.cell? ⟨13, 0, none⟩ = some (.iface 271 (.pointer (some (a 12))))
  c13 : w.cell? ⟨14, 0, none⟩ = some (.iface 271 (.pointer (some (a 13))))

theorem Sents.below {a : Nat → Addr} {w w' : World} (h : Sents a w) (hb : Below w.heap.size w w') : Sents a w' := by
  have k : ∀ (p : Addr) v, w.cell? p = some v → w'.cell? p = some v := fun p v hv => (hb.cell (World.block_lt_of_cell? w p hv)).trans hv
  have r : ∀ i, i < 14 → ∃ c t, w'.heap[(a i).block]? = some (.cells c t (0, 0)) := fun i hi => by
    obtain ⟨c, t, hc⟩ := h.rows i hi
    exact ⟨c, t, (hb.block _ (Array.getElem?_eq_some_iff.1 hc).1).trans hc⟩
  exact ⟨r, h.inj, k _ _ h.c0, k _ _ h.c1, k _ _ h.c2, k _ _ h.c3, k _ _ h.c4, k _ _ h.c5, k _ _ h.c6, k _ _ h.c7, k _ _ h.c8, k _ _ h.c9, k _ _ h.c10, k _ _ h.c11, k _ _ h.c12, k _ _ h.c13⟩

def sentTexts : List (String × List UInt8) :=
  [("overdrive/api.ErrMany", [116, 111, 111, 32, 109, 97, 110, 121]),
   ("overdrive/api.ErrKind", [110, 111, 32, 115, 117, 99, 104, 32, 107, 105, 110, 100]),
   ("overdrive/api.ErrIndex", [110, 111, 32, 115, 117, 99, 104, 32, 116, 104, 105, 110, 103]),
   ("overdrive/api.ErrTarget", [110, 111, 32, 112, 108, 97, 99, 101, 32, 116, 111, 32, 106, 117, 109, 112, 32, 116, 111]),
   ("overdrive/api.ErrShape", [110, 111, 116, 32, 116, 104, 101, 32, 115, 104, 97, 112, 101, 32, 116, 104, 97, 116, 32, 105, 116, 32, 104, 97, 115, 32, 116, 111, 32, 104, 97, 118, 101]),
   ("overdrive/api.ErrEnd", [105, 116, 32, 101, 110, 100, 115, 32, 116, 111, 111, 32, 101, 97, 114, 108, 121]),
   ("overdrive/api.ErrByte", [97, 32, 98, 121, 116, 101, 32, 116, 104, 97, 116, 32, 100, 111, 101, 115, 32, 110, 111, 116, 32, 102, 105, 116]),
   ("overdrive/api.ErrStack", [116, 111, 111, 32, 108, 105, 116, 116, 108, 101, 32, 111, 114, 32, 116, 111, 111, 32, 109, 117, 99, 104, 32, 111, 110, 32, 116, 104, 101, 32, 115, 116, 97, 99, 107]),
   ("overdrive/api.ErrMerge", [116, 119, 111, 32, 119, 97, 121, 115, 32, 116, 104, 97, 116, 32, 100, 111, 32, 110, 111, 116, 32, 97, 103, 114, 101, 101]),
   ("overdrive/api.ErrFall", [105, 116, 32, 102, 97, 108, 108, 115, 32, 111, 102, 102, 32, 116, 104, 101, 32, 101, 110, 100]),
   ("overdrive/api.ErrLimit", [110, 111, 32, 115, 117, 99, 104, 32, 108, 105, 109, 105, 116]),
   ("overdrive/api.ErrNode", [97, 32, 110, 111, 100, 101, 32, 116, 104, 97, 116, 32, 109, 97, 121, 32, 110, 111, 116, 32, 98, 101]),
   ("overdrive/api.ErrState", [97, 32, 115, 116, 97, 116, 101, 32, 116, 104, 97, 116, 32, 109, 97, 121, 32, 110, 111, 116, 32, 98, 101]),
   ("overdrive/api.ErrRoom", [110, 111, 32, 114, 111, 111, 109])]

theorem typeT : ∀ u, Tryd.prog.typeName? 3 u = some "*errors.errorString" → u = 271 := by
  intro u h
  have star : "*" ++ "errors.errorString" = "*errors.errorString" := by decide
  exact typeName_ptr_named (nm := "errors.errorString") (by rw [star]; kernel_rfl) (by kernel_rfl) (by decide) u (by rw [star]; exact h)

theorem sents_of_laid {laid : List (String × DataW Unit)} {w : World} (e : sentTexts.map mkSent = laid) (hh : (laid.filter fun x => x.2.handleName?.isSome) = []) (h : laidMetH Tryd.prog laid w) : ∃ a, Sents a w := by
  unfold laidMetH at h
  rw [hh] at h
  subst e
  obtain ⟨ps, hv, hnd, hrows⟩ := h
  obtain ⟨ads, hl, hn, hin, hat⟩ := sents_of_vars (ti := 58) (tp := 271) (te := 287) Tryd.underlying58 typeT Tryd.underlying271 Tryd.underlying287 rfl rfl Tryd.underlying9 (by kernel_rfl) (by kernel_rfl) sentTexts ps hv hnd hrows (by
    have hall : (sentTexts.all fun x => match Tryd.prog.globalNamed x.1 with | some g => decide ((Tryd.prog.globals[g]?).map (·.type) = some 58) | none => false) = true := by kernel_rfl
    intro x hx
    have := List.all_eq_true.1 hall x hx
    cases hg : Tryd.prog.globalNamed x.1 with
    | none => rw [hg] at this; cases this
    | some g => rw [hg] at this; exact ⟨g, rfl, by simpa using this⟩)
  have hlen : ads.length = 14 := hl
  have key : ∀ (i : Nat) (n : String) (t : List UInt8) (g : Nat), sentTexts[i]? = some (n, t) → Tryd.prog.globalNamed n = some g → w.cell? ⟨g, 0, none⟩ = some (.iface 271 (.pointer (some (ads.getD i ⟨0, 0, none⟩)))) := by
    intro i n t g hi hg
    obtain ⟨a, g', ha, hg', hc⟩ := hat i (n, t) hi
    obtain rfl := Option.some.inj (hg.symm.trans hg')
    rw [hc, List.getD_eq_getElem?_getD, ha]
    rfl
  have hrow : ∀ i, i < 14 → ∃ c t, w.heap[(ads.getD i ⟨0, 0, none⟩).block]? = some (.cells c t (0, 0)) := fun i hi => by
    have hm : ads.getD i ⟨0, 0, none⟩ ∈ ads := by
      rw [List.getD_eq_getElem?_getD, List.getElem?_eq_getElem (show i < ads.length by omega)]
      exact List.getElem_mem _
    exact (hrows _ _ (hin _ hm)).1
  refine ⟨fun i => ads.getD i ⟨0, 0, none⟩, hrow, ?_, key 0 _ _ _ rfl (by kernel_rfl), key 1 _ _ _ rfl (by kernel_rfl), key 2 _ _ _ rfl (by kernel_rfl), key 3 _ _ _ rfl (by kernel_rfl), key 4 _ _ _ rfl (by kernel_rfl), key 5 _ _ _ rfl (by kernel_rfl), key 6 _ _ _ rfl (by kernel_rfl), key 7 _ _ _ rfl (by kernel_rfl), key 8 _ _ _ rfl (by kernel_rfl), key 9 _ _ _ rfl (by kernel_rfl), key 10 _ _ _ rfl (by kernel_rfl), key 11 _ _ _ rfl (by kernel_rfl), key 12 _ _ _ rfl (by kernel_rfl), key 13 _ _ _ rfl (by kernel_rfl)⟩
  intro i j hi hj e
  simp only [List.getD_eq_getElem?_getD, List.getElem?_eq_getElem (show i < ads.length by omega), List.getElem?_eq_getElem (show j < ads.length by omega), Option.getD_some] at e
  exact (List.getElem_inj hn).1 e

end Go.Proofs.YtflbjfcmnopfaaaDoor

/-
  Six of the listed errors alone: those that package script and the reader of its bytes name.
-/
import Derived.Test.YtjcklfbpdjfibaaDoorS4
namespace Go.Proofs.YtjcklfbpdjfibaaDoor
open Go.RowKit Go.ChangeShapes

structure Sents6 (a : Nat → Addr) (w : World) : Prop where
  c0 : w.cell? ⟨0, 0, none⟩ = some (.iface 211 (.pointer (some (a 0))))
  c1 : w.cell? ⟨4, 0, none⟩ = some (.iface 211 (.pointer (some (a 1))))
  c2 : w.cell? ⟨1, 0, none⟩ = some (.iface 211 (.pointer (some (a 2))))
  c4 : w.cell? ⟨2, 0, none⟩ = some (.iface 211 (.pointer (some (a 4))))
  c5 : w.cell? ⟨7, 0, none⟩ = some (.iface 211 (.pointer (some (a 5))))
  c6 : w.cell? ⟨5, 0, none⟩ = some (.iface 211 (.pointer (some (a 6))))

theorem Sents6.below {a : Nat → Addr} {w w' : World} (h : Sents6 a w) (hb : Below w.heap.size w w') : Sents6 a w' := by
  have k : ∀ (p : Addr) v, w.cell? p = some v → w'.cell? p = some v := fun p v hv => (hb.cell (World.block_lt_of_cell? w p hv)).trans hv
  exact ⟨k _ _ h.c0, k _ _ h.c1, k _ _ h.c2, k _ _ h.c4, k _ _ h.c5, k _ _ h.c6⟩

def texts6 : List (String × List UInt8) :=
  [("overdrive/api.ErrMany", [116, 111, 111, 32, 109, 97, 110, 121]),
   ("overdrive/api.ErrKind", [110, 111, 32, 115, 117, 99, 104, 32, 107, 105, 110, 100]),
   ("overdrive/api.ErrIndex", [110, 111, 32, 115, 117, 99, 104, 32, 116, 104, 105, 110, 103]),
   ("overdrive/api.ErrShape", [110, 111, 116, 32, 116, 104, 101, 32, 115, 104, 97, 112, 101, 32, 116, 104, 97, 116, 32, 105, 116, 32, 104, 97, 115, 32, 116, 111, 32, 104, 97, 118, 101]),
   ("overdrive/api.ErrEnd", [105, 116, 32, 101, 110, 100, 115, 32, 116, 111, 111, 32, 101, 97, 114, 108, 121]),
   ("overdrive/api.ErrByte", [97, 32, 98, 121, 116, 101, 32, 116, 104, 97, 116, 32, 100, 111, 101, 115, 32, 110, 111, 116, 32, 102, 105, 116])]

theorem sents6_of_laid {laid : List (String × DataW Unit)} {w : World} (e : texts6.map mkSent = laid) (hh : (laid.filter fun x => x.2.handleName?.isSome) = []) (h : laidMetH Tryd.prog laid w) : ∃ a, Sents6 a w := by
  unfold laidMetH at h
  rw [hh] at h
  subst e
  obtain ⟨ps, hv, hnd, hrows⟩ := h
  obtain ⟨ads, _, _, _, hat⟩ := sents_of_vars (ti := 50) (tp := 211) (te := 228) Tryd.underlying50 typeT Tryd.underlying211 Tryd.underlying228 rfl rfl Tryd.underlying9 (by kernel_rfl) (by kernel_rfl) texts6 ps hv hnd hrows (by
    have hall : (texts6.all fun x => match Tryd.prog.globalNamed x.1 with | some g => decide ((Tryd.prog.globals[g]?).map (·.type) = some 50) | none => false) = true := by kernel_rfl
    intro x hx
    have := List.all_eq_true.1 hall x hx
    cases hg : Tryd.prog.globalNamed x.1 with
    | none => rw [hg] at this; cases this
    | some g => rw [hg] at this; exact ⟨g, rfl, by simpa using this⟩)
  have key : ∀ (i : Nat) (n : String) (t : List UInt8) (g : Nat), texts6[i]? = some (n, t) → Tryd.prog.globalNamed n = some g → w.cell? ⟨g, 0, none⟩ = some (.iface 211 (.pointer (some (ads.getD i ⟨0, 0, none⟩)))) := by
    intro i n t g hi hg
    obtain ⟨a, g', ha, hg', hc⟩ := hat i (n, t) hi
    obtain rfl := Option.some.inj (hg.symm.trans hg')
    rw [hc, List.getD_eq_getElem?_getD, ha]
    rfl
  exact ⟨fun i => ads.getD (if i = 4 then 3 else if i = 5 then 4 else if i = 6 then 5 else i) ⟨0, 0, none⟩, key 0 _ _ _ rfl (by kernel_rfl), key 1 _ _ _ rfl (by kernel_rfl), key 2 _ _ _ rfl (by kernel_rfl), key 3 _ _ _ rfl (by kernel_rfl), key 4 _ _ _ rfl (by kernel_rfl), key 5 _ _ _ rfl (by kernel_rfl)⟩

theorem Sents6.four {a : Nat → Addr} {w : World} (h : Sents6 a w) : Sents4 a w := ⟨h.c0, h.c1, h.c2, h.c4⟩

end Go.Proofs.YtjcklfbpdjfibaaDoor

/-
  The document's walk in depth: how its boxes are made; the loops as a graph.
-/
import Derived.Test.YtchechdcebmoeaaDoorEntW
import Derived.Test.YtchechdcebmoeaaDoorClnW
import Derived.Test.YtchechdcebmoeaaDoorOrdP
namespace Go.Proofs.YtchechdcebmoeaaDoor
open Go.RowKit

theorem mk_boolW (n : Nat) (h : n ≤ 65536) (w : World) : (Instr.makeSlice 84 (.int .i64 n) (.int .i64 n)).run Tryd.prog w = .ok (.slice (some ⟨w.heap.size, 0, none⟩) n n) (w.alloc (.cells ((List.range n).map fun _ => Value.bool false).toArray 4)) := by
  obtain ⟨i0, hi, hz0, hz1, hz2⟩ := info_parts boolinfo
  have h1 := run_make (P := Tryd.prog) w 84 4 i0 _ Tryd.underlying84 hi hz0 .i64 .i64 (n : Int) (n : Int) (by omega) (Int.le_refl _) (by rw [hz2]; omega) (by omega)
  have e : madeCells (Value.bool false).cells n = ((List.range n).map fun _ => Value.bool false).toArray := by
    apply Array.ext'
    rw [show (Value.bool false).cells = #[.bool false] from rfl, toList_madeCells_one]
    rw [List.toList_toArray, List.map_const', List.length_range]
  rw [h1, hz1, Int.toNat_natCast, Nat.mul_one, e]

/-- What has been made so far: rows of bools qs, the clean graph. -/
structure Mk (w0 : World) (n : Nat) (G : List (List Int)) (qs : List Nat) (cs : Option (Option Addr × Nat)) (w : World) : Prop where
  below : Below w0.heap.size w0 w
  seen : ∀ q ∈ qs, SeenAt w0.heap.size q n (fun _ => false) w
  grf : ∀ a c, cs = some (a, c) → Grf w a n c G
  nodup : qs.Nodup

section
variable {w0 w : World} {n : Nat} {G : List (List Int)} {qs : List Nat} {cs : Option (Option Addr × Nat)}
theorem Mk.start (h : Below w0.heap.size w0 w) : Mk w0 n G [] none w := ⟨h, fun q hq => by simp at hq, fun a c h => by simp at h, List.nodup_nil⟩
theorem Mk.keep (h : Mk w0 n G qs cs w) {w' : World} (hb : Below w.heap.size w w') : Mk w0 n G qs cs w' :=
  ⟨h.below.trans (hb.mono h.below.size), fun q hq => (h.seen q hq).keep (hb.block q (h.seen q hq).lt), fun a c e => (h.grf a c e).below hb, h.nodup⟩
theorem Mk.make (h : Mk w0 n G qs cs w) : Mk w0 n G (w.heap.size :: qs) cs (w.alloc (.cells ((List.range n).map fun _ => Value.bool false).toArray 4)) := by
  have hk := h.keep (w' := w.alloc (.cells ((List.range n).map fun _ => Value.bool false).toArray 4)) ((Below.refl _ _).alloc (Nat.le_refl _) _)
  refine ⟨hk.below, fun q hq => ?_, hk.grf, List.nodup_cons.2 ⟨fun hm => ?_, h.nodup⟩⟩
  · rcases List.mem_cons.1 hq with e | e
    · subst e
      exact ⟨heap_alloc_new _ _, h.below.size⟩
    · exact hk.seen q e
  · exact Nat.lt_irrefl _ (h.seen _ hm).lt
theorem Mk.clean (h : Mk w0 n G qs none w) {w' : World} {a : Option Addr} {c : Nat} (hg : Grf w' a n c G) (hb : Below w.heap.size w w') : Mk w0 n G qs (some (a, c)) w' := by
  have hk := h.keep hb
  exact ⟨hk.below, hk.seen, fun a2 c2 e => by cases e; exact hg, hk.nodup⟩
end

/-- The boxes as they are made. -/
def Made (w0 : World) (n : Nat) (G : List (List Int)) (s : Value) (wx : World) : Prop :=
  ∃ p q u a c W0, s = .pointer (some ⟨p, 0, none⟩) ∧ w0.heap.size ≤ W0.heap.size ∧ Bo q u W0 ∧ Grf W0 a n c G ∧ WdS w0.heap.size W0.heap.size p q u n (.slice a n c) s0R [] (.slice none 0 0) (.slice none 0 0) wx ∧ Kp w0.heap.size q u W0 wx ∧ Below w0.heap.size w0 W0

theorem Mk.done {w0 w : World} {n : Nat} {G : List (List Int)} {q u : Nat} {a : Option Addr} {c : Nat} (h : Mk w0 n G [q, u] (some (a, c)) w) :
    Made w0 n G (.pointer (some ⟨w.heap.size, 0, none⟩)) (w.alloc (.cells #[.slice a n c, .slice (some ⟨q, 0, none⟩) n n, .slice (some ⟨u, 0, none⟩) n n, .slice none 0 0, .slice none 0 0] 160)) := by
  have hq := h.seen q (by simp)
  have hu := h.seen u (by simp)
  have hne : q ≠ u := by have := h.nodup; simp at this; exact this
  have hb1 : Below w.heap.size w (w.alloc (.cells #[.slice a n c, .slice (some ⟨q, 0, none⟩) n n, .slice (some ⟨u, 0, none⟩) n n, .slice none 0 0, .slice none 0 0] 160)) := (Below.refl _ _).alloc (Nat.le_refl _) _
  refine ⟨w.heap.size, q, u, a, c, w, rfl, h.below.size, fun ad e v hc => ?_, h.grf a c rfl, ⟨heap_alloc_new _ _, ?_, ?_, World.ownsRow_nil _ _ _ _, KV.nil _ _, hne, fun b hb => by simp at hb, Nat.le_refl _⟩, ⟨hb1.mono h.below.size, fun k hk _ _ => hb1.block k hk⟩, h.below⟩
  · rcases e with e | e
    · exact seen_bo hq ad e v hc
    · exact seen_bo hu ad e v hc
  · exact hq.keep (hb1.block q hq.lt)
  · exact hu.keep (hb1.block u hu.lt)

theorem Mk.swap {w0 w : World} {n : Nat} {G : List (List Int)} {q u : Nat} {cs : Option (Option Addr × Nat)} (h : Mk w0 n G [q, u] cs w) : Mk w0 n G [u, q] cs w :=
  ⟨h.below, fun x hx => h.seen x (by simp at hx ⊢; rcases hx with e | e <;> simp [e]), h.grf, by have := h.nodup; simp at this ⊢; exact fun e => this e.symm⟩

def pairL (lo : List (Nat × Nat)) : List (List Int) := lo.map fun e => [(e.1 : Int), (e.2 : Int)]
theorem pairL_len (lo : List (Nat × Nat)) : (pairL lo).length = lo.length := by simp [pairL]
theorem pairL_at (lo : List (Nat × Nat)) {j : Nat} (h : j < lo.length) : (pairL lo).getD j [] = [((lo.getD j (0, 0)).1 : Int), ((lo.getD j (0, 0)).2 : Int)] := by simp [pairL, List.getD, h]
theorem pairL_deg (lo : List (Nat × Nat)) (j : Nat) : degW (pairL lo) j ≤ 2 := by
  unfold degW
  by_cases h : j < lo.length
  · rw [pairL_at lo h]; simp
  · simp [pairL, List.getD, List.getElem?_eq_none (by simp; omega : (lo.map fun e => [(e.1 : Int), (e.2 : Int)]).length ≤ j)]

/-- The loops, as a graph that can be read. -/
theorem kv_grf {B : Nat} {bs : List Nat} {a : Option Addr} {m c : Nat} {lo : List (Nat × Nat)} {w : World} (h : KV B bs (.slice a m c) (pairsZ lo) w) (hs : ∀ e ∈ lo, e.1 ≤ 1000000 ∧ e.2 ≤ 1000000) : m = lo.length ∧ Grf w a m c (pairL lo) := by
  have hl := h.len_le
  have hpl : (pairsZ lo).length = lo.length := by simp [pairsZ]
  rw [hpl] at hl
  refine ⟨hl.1, by rw [pairL_len, hl.1], hl.2.1, hl.2.2, fun h0 => ?_⟩
  obtain ⟨gk, b, h1, _, _, _, _, cg, c0, c1⟩ := h.cells (i := 0) h0
  refine ⟨gk, 0, h1, World.block_lt_of_cell? w _ cg, fun j hj => ?_⟩
  obtain ⟨gk2, b2, g1, _, _, _, _, cg2, d0, d1⟩ := h.cells (i := j) hj
  have hjl : j < lo.length := by omega
  have hz : (pairsZ lo).getD j (0, 0) = (((lo.getD j (0, 0)).1 : Int), ((lo.getD j (0, 0)).2 : Int)) := by simp [pairsZ, List.getD, hjl]
  rw [hz] at d0 d1
  rw [h1] at g1
  obtain rfl : gk = gk2 := congrArg Addr.block (Option.some.inj g1)
  have hdg : degW (pairL lo) j = 2 := by unfold degW; rw [pairL_at lo hjl]; rfl
  have hm : lo.getD j (0, 0) ∈ lo := by simp [List.getD, hjl]
  have hsm := hs _ hm
  refine ⟨some ⟨b2, 0, none⟩, 2, by rw [Nat.zero_add, cg2, hdg], ?_⟩
  rw [hdg, pairL_at lo hjl]
  refine ⟨rfl, Nat.le_refl _, by decide, (fun e => by cases e), fun ad e i hi => ?_, fun z hz => ?_⟩
  · cases e
    rcases (show i = 0 ∨ i = 1 by omega) with rfl | rfl
    · exact d0
    · exact d1
  · simp only [List.mem_cons, List.not_mem_nil, or_false] at hz
    rcases hz with e | e
    · rw [e]; exact wf64 (by omega) (by omega)
    · rw [e]; exact wf64 (by omega) (by omega)

end Go.Proofs.YtchechdcebmoeaaDoor

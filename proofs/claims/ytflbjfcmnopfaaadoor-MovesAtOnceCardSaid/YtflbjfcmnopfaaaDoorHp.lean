/-
  A heap in memory: what lies where, and what keeps it.
-/
import Derived.Test.YtflbjfcmnopfaaaDoorHsp
import Derived.Test.YtflbjfcmnopfaaaDoorPackN
import Derived.Test.YtflbjfcmnopfaaaDoorPrg2
namespace Go.Proofs.YtflbjfcmnopfaaaDoor
open Go.RowKit

/-- All but three blocks stays. -/
structure Tri (a b c : Nat) (w w' : World) : Prop where
  os : w'.os = w.os
  tape : w'.tape = w.tape
  output : w'.output = w.output
  size : w.heap.size ≤ w'.heap.size
  block : ∀ k, k < w.heap.size → k ≠ a → k ≠ b → k ≠ c → w'.heap[k]? = w.heap[k]?

theorem Tri.refl (a b c : Nat) (w : World) : Tri a b c w w := ⟨rfl, rfl, rfl, Nat.le_refl _, fun _ _ _ _ _ => rfl⟩
theorem Tri.trans {a b c : Nat} {w w1 w2 : World} (h : Tri a b c w w1) (h2 : Tri a b c w1 w2) : Tri a b c w w2 :=
  ⟨h2.os.trans h.os, h2.tape.trans h.tape, h2.output.trans h.output, Nat.le_trans h.size h2.size, fun k hk h1 h3 h4 => (h2.block k (Nat.lt_of_lt_of_le hk h.size) h1 h3 h4).trans (h.block k hk h1 h3 h4)⟩
theorem Tri.of_below {a b c : Nat} {w w' : World} (h : Below w.heap.size w w') : Tri a b c w w' := ⟨h.os, h.tape, h.output, h.size, fun k hk _ _ _ => h.block k hk⟩
theorem Tri.of_grown {a b c g : Nat} {w w' : World} (h : w.grownBy w' (some g)) (hg : g = a ∨ g = b ∨ g = c) : Tri a b c w w' :=
  ⟨h.os, h.tape, h.output, h.size, fun k hk h1 h2 h3 => h.block k hk (fun e => by cases e; rcases hg with rfl | rfl | rfl <;> contradiction)⟩
theorem Tri.drew {a b c : Nat} {w w' : World} (h : Tri a b c w w') (n : Nat) : Tri a b c w (w'.drewN n) := ⟨h.os, h.tape, h.output, h.size, h.block⟩
theorem Tri.below {a b c B : Nat} {w0 w w' : World} (h : Tri a b c w w') (hb : Below B w0 w) (ha : B ≤ a) (hbb : B ≤ b) (hc : B ≤ c) (hB : B ≤ w.heap.size) : Below B w0 w' :=
  ⟨h.os.trans hb.os, h.tape.trans hb.tape, h.output.trans hb.output, Nat.le_trans hb.size h.size, fun k hk => (h.block k (by omega) (by omega) (by omega) (by omega)).trans (hb.block k hk)⟩

def hcells (cp : Option Addr) (cl cc ab bg n : Nat) (yt yp hp ht f1 t1 p1 : Int) (mk : Value) : Array Value :=
  #[.slice cp cl cc, .slice none 0 0, .pointer (some ⟨ab, 0, none⟩), .int .i64 0, .int .i64 yt, .int .i64 yp, .int .i64 yt, .int .i64 ht, .int .i64 hp, .int .i64 f1, .int .i64 t1, .int .i64 p1, .int .i64 0, .slice (some ⟨bg, 0, none⟩) n n, mk]

def boolRow (n : Nat) (f : Nat → Bool) : Array Value := ((List.range n).map fun j => Value.bool (f j)).toArray

theorem boolRow_get (n : Nat) (f : Nat → Bool) (j : Nat) (h : j < n) : (boolRow n f)[j]? = some (.bool (f j)) := by simp [boolRow, h]
theorem boolRow_set (n : Nat) (f : Nat → Bool) (j : Nat) : (boolRow n f).setIfInBounds j (.bool true) = boolRow n (fun i => if i = j then true else f i) := by
  apply Array.ext_getElem?
  intro i
  rw [Array.getElem?_setIfInBounds]
  by_cases hi : i < n
  · rw [boolRow_get n _ i hi]
    by_cases hj : j = i
    · subst hj
      simp [boolRow, hi]
    · rw [if_neg hj, boolRow_get n _ i hi, if_neg (fun e => hj e.symm)]
  · have h1 : ∀ g : Nat → Bool, (boolRow n g)[i]? = none := fun g => by simp [boolRow]; omega
    rw [h1, h1]
    simp [boolRow]
    omega

/-- A heap: its box hb, its arena's box ab and words gb, its row of beginnings bg. -/
structure Hp (B hb ab gb bg : Nat) (cp : Option Addr) (cl cc : Nat) (cf : Nat → ByteArray) (n : Nat) (yt yp hp ht f1 t1 p1 : Int) (wd : Nat → Int) (bd : Nat → Bool) (mk : Value) (w : World) : Prop where
  row : w.heap[hb]? = some (.cells (hcells cp cl cc ab bg n yt yp hp ht f1 t1 p1 mk) 174 (0, 0))
  ar : AnF B ab gb n wd w
  beg : w.heap[bg]? = some (.cells (boolRow n bd) 4 (0, 0))
  cls : Cls w cp cl cc cf
  cne : ∀ ad, cp = some ad → ad.block ≠ hb ∧ ad.block ≠ gb ∧ ad.block ≠ bg
  d1 : hb ≠ ab
  d2 : hb ≠ gb
  d3 : hb ≠ bg
  d4 : bg ≠ ab
  d5 : bg ≠ gb
  lo : B ≤ hb ∧ B ≤ ab ∧ B ≤ bg
  y0 : 0 ≤ yp
  y1 : yp ≤ yt
  y2 : yt ≤ hp
  y3 : hp ≤ ht
  y4 : ht ≤ n
  sm : n ≤ 65536
  f0 : ht = f1

section
variable {B hb ab gb bg : Nat} {cp : Option Addr} {cl cc : Nat} {cf : Nat → ByteArray} {n : Nat} {yt yp hp ht f1 t1 p1 : Int} {wd : Nat → Int} {bd : Nat → Bool} {mk : Value} {w : World}

theorem Hp.cell (h : Hp B hb ab gb bg cp cl cc cf n yt yp hp ht f1 t1 p1 wd bd mk w) (j : Nat) : w.cell? ⟨hb, j, none⟩ = (hcells cp cl cc ab bg n yt yp hp ht f1 t1 p1 mk)[j]? := cell_of_row w hb j _ _ (0, 0) h.row
theorem Hp.frozen (h : Hp B hb ab gb bg cp cl cc cf n yt yp hp ht f1 t1 p1 wd bd mk w) (j : Nat) : w.frozen? ⟨hb, j, none⟩ = false := frozen_of_row w hb j _ _ h.row
theorem Hp.bcell (h : Hp B hb ab gb bg cp cl cc cf n yt yp hp ht f1 t1 p1 wd bd mk w) (j : Nat) (hj : j < n) : w.cell? ⟨bg, j, none⟩ = some (.bool (bd j)) := by
  rw [cell_of_row w bg j _ _ (0, 0) h.beg, boolRow_get n bd j hj]
theorem Hp.bfrozen (h : Hp B hb ab gb bg cp cl cc cf n yt yp hp ht f1 t1 p1 wd bd mk w) (j : Nat) : w.frozen? ⟨bg, j, none⟩ = false := frozen_of_row w bg j _ _ h.beg
theorem Hp.lt (h : Hp B hb ab gb bg cp cl cc cf n yt yp hp ht f1 t1 p1 wd bd mk w) : hb < w.heap.size ∧ ab < w.heap.size ∧ gb < w.heap.size ∧ bg < w.heap.size :=
  ⟨(Array.getElem?_eq_some_iff.1 h.row).1, h.ar.blocks.1, h.ar.blocks.2, (Array.getElem?_eq_some_iff.1 h.beg).1⟩
theorem Hp.glo (h : Hp B hb ab gb bg cp cl cc cf n yt yp hp ht f1 t1 p1 wd bd mk w) : B ≤ gb := h.ar.lo

theorem Hp.below {w' : World} (h : Hp B hb ab gb bg cp cl cc cf n yt yp hp ht f1 t1 p1 wd bd mk w) (hb' : Below w.heap.size w w') : Hp B hb ab gb bg cp cl cc cf n yt yp hp ht f1 t1 p1 wd bd mk w' := by
  obtain ⟨l1, l2, l3, l4⟩ := h.lt
  exact ⟨(hb'.block _ l1).trans h.row, h.ar.below hb' l2 l3, (hb'.block _ l4).trans h.beg, h.cls.below hb', h.cne, h.d1, h.d2, h.d3, h.d4, h.d5, h.lo, h.y0, h.y1, h.y2, h.y3, h.y4, h.sm, h.f0⟩

theorem Hp.drewN (h : Hp B hb ab gb bg cp cl cc cf n yt yp hp ht f1 t1 p1 wd bd mk w) (k : Nat) : Hp B hb ab gb bg cp cl cc cf n yt yp hp ht f1 t1 p1 wd bd mk (w.drewN k) :=
  h.below ⟨rfl, rfl, rfl, Nat.le_refl _, fun _ _ => rfl⟩

theorem Cls.apart {w' : World} {a : Option Addr} {len cap : Nat} {f : Nat → ByteArray} (h : Cls w a len cap f) (hk : ∀ ad, a = some ad → ad.block < w.heap.size → w'.heap[ad.block]? = w.heap[ad.block]?) : Cls w' a len cap f :=
  ⟨h.le, h.max, h.nil, fun ad had i hi => by
    have e : (ad.add i).block = ad.block := by unfold Addr.add; split <;> rfl
    have hc := h.cells ad had i hi
    have hl := World.block_lt_of_cell? w _ hc
    rw [e] at hl
    rw [World.cell?_of_block (w := w) (by rw [e]; exact hk ad had hl)]
    exact hc⟩

/-- The words turn. -/
theorem Hp.words {w' : World} (h : Hp B hb ab gb bg cp cl cc cf n yt yp hp ht f1 t1 p1 wd bd mk w) (wd' : Nat → Int) (ha : AnF B ab gb n wd' w') (hg : w.grownBy w' (some gb)) : Hp B hb ab gb bg cp cl cc cf n yt yp hp ht f1 t1 p1 wd' bd mk w' := by
  obtain ⟨l1, l2, l3, l4⟩ := h.lt
  exact ⟨(hg.block _ l1 (by simp; exact h.d2)).trans h.row, ha, (hg.block _ l4 (by simp; exact h.d5)).trans h.beg, h.cls.apart (fun ad had hl => hg.block _ hl (by simp; exact (h.cne ad had).2.1)), h.cne, h.d1, h.d2, h.d3, h.d4, h.d5, h.lo, h.y0, h.y1, h.y2, h.y3, h.y4, h.sm, h.f0⟩

/-- An object begins. -/
theorem Hp.begun (h : Hp B hb ab gb bg cp cl cc cf n yt yp hp ht f1 t1 p1 wd bd mk w) (j : Nat) : Hp B hb ab gb bg cp cl cc cf n yt yp hp ht f1 t1 p1 wd (fun i => if i = j then true else bd i) mk (w.setCell ⟨bg, j, none⟩ (.bool true)) := by
  have hg := grown_store w bg j (.bool true)
  obtain ⟨l1, l2, l3, l4⟩ := h.lt
  refine ⟨(hg.block _ l1 (by simp; exact h.d3)).trans h.row, h.ar.kept (hg.block _ l3 (by simp; exact fun e => h.d5 e.symm)) (hg.block _ l2 (by simp; exact fun e => h.d4 e.symm)), ?_, h.cls.apart (fun ad had hl => hg.block _ hl (by simp; exact (h.cne ad had).2.2)), h.cne, h.d1, h.d2, h.d3, h.d4, h.d5, h.lo, h.y0, h.y1, h.y2, h.y3, h.y4, h.sm, h.f0⟩
  rw [heap_setCell_same w bg j _ 4 _ h.beg, boolRow_set]

/-- The nursery's top turns. -/
theorem Hp.young (h : Hp B hb ab gb bg cp cl cc cf n yt yp hp ht f1 t1 p1 wd bd mk w) (q : Int) (q0 : 0 ≤ q) (q1 : q ≤ yt) : Hp B hb ab gb bg cp cl cc cf n yt q hp ht f1 t1 p1 wd bd mk (w.setCell ⟨hb, 5, none⟩ (.int .i64 q)) := by
  have hg := grown_store w hb 5 (.int .i64 q)
  obtain ⟨l1, l2, l3, l4⟩ := h.lt
  refine ⟨?_, h.ar.kept (hg.block _ l3 (by simp; exact fun e => h.d2 e.symm)) (hg.block _ l2 (by simp; exact fun e => h.d1 e.symm)), (hg.block _ l4 (by simp; exact fun e => h.d3 e.symm)).trans h.beg, h.cls.apart (fun ad had hl => hg.block _ hl (by simp; exact (h.cne ad had).1)), h.cne, h.d1, h.d2, h.d3, h.d4, h.d5, h.lo, q0, q1, h.y2, h.y3, h.y4, h.sm, h.f0⟩
  rw [heap_setCell_same w hb 5 _ 174 _ h.row]
  rfl

/-- The old half's top turns. -/
theorem Hp.old (h : Hp B hb ab gb bg cp cl cc cf n yt yp hp ht f1 t1 p1 wd bd mk w) (q : Int) (q0 : yt ≤ q) (q1 : q ≤ ht) : Hp B hb ab gb bg cp cl cc cf n yt yp q ht f1 t1 p1 wd bd mk (w.setCell ⟨hb, 8, none⟩ (.int .i64 q)) := by
  have hg := grown_store w hb 8 (.int .i64 q)
  obtain ⟨l1, l2, l3, l4⟩ := h.lt
  refine ⟨?_, h.ar.kept (hg.block _ l3 (by simp; exact fun e => h.d2 e.symm)) (hg.block _ l2 (by simp; exact fun e => h.d1 e.symm)), (hg.block _ l4 (by simp; exact fun e => h.d3 e.symm)).trans h.beg, h.cls.apart (fun ad had hl => hg.block _ hl (by simp; exact (h.cne ad had).1)), h.cne, h.d1, h.d2, h.d3, h.d4, h.d5, h.lo, h.y0, h.y1, q0, q1, h.y4, h.sm, h.f0⟩
  rw [heap_setCell_same w hb 8 _ 174 _ h.row]
  rfl
end

end Go.Proofs.YtflbjfcmnopfaaaDoor

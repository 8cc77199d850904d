/-
  A heap stays; its base.
-/
import Derived.Test.YtjffbojgdemooaaDoorHpC
namespace Go.Proofs.YtjffbojgdemooaaDoor
open Go.RowKit

theorem Hp.kept4 {B hb ab gb bg N : Nat} {cp : Option Addr} {cl cc : Nat} {cf : Nat → ByteArray} {n : Nat} {yt yp hp ht f1 t1 p1 : Int} {wd : Nat → Int} {bd : Nat → Bool} {mk : Value} {w w' : World} (h : Hp B hb ab gb bg cp cl cc cf n yt yp hp ht f1 t1 p1 wd bd mk w)
    (hk : ∀ k, k < N → k < w.heap.size → w'.heap[k]? = w.heap[k]?) (h1 : hb < N) (h2 : gb < N) (h3 : bg < N) (h4 : ab < N ∧ ∀ ad, cp = some ad → ad.block < N) : Hp B hb ab gb bg cp cl cc cf n yt yp hp ht f1 t1 p1 wd bd mk w' := by
  obtain ⟨l1, l2, l3, l4⟩ := h.lt
  exact ⟨(hk _ h1 l1).trans h.row, h.ar.kept (hk _ h2 l3) (hk _ h4.1 l2), (hk _ h3 l4).trans h.beg, h.cls.apart (fun ad had hl => hk _ (h4.2 ad had) hl), h.cne, h.d1, h.d2, h.d3, h.d4, h.d5, h.lo, h.y0, h.y1, h.y2, h.y3, h.y4, h.sm, h.f0⟩

theorem Hp.base {B C hb ab gb bg : Nat} {cp : Option Addr} {cl cc : Nat} {cf : Nat → ByteArray} {n : Nat} {yt yp hp ht f1 t1 p1 : Int} {wd : Nat → Int} {bd : Nat → Bool} {mk : Value} {w : World} (h : Hp B hb ab gb bg cp cl cc cf n yt yp hp ht f1 t1 p1 wd bd mk w) (hC : C ≤ B) : Hp C hb ab gb bg cp cl cc cf n yt yp hp ht f1 t1 p1 wd bd mk w := by
  obtain ⟨zs, hA, hz⟩ := h.ar
  exact ⟨h.row, ⟨zs, hA.base hC, hz⟩, h.beg, h.cls, h.cne, h.d1, h.d2, h.d3, h.d4, h.d5, by have := h.lo; omega, h.y0, h.y1, h.y2, h.y3, h.y4, h.sm, h.f0⟩

end Go.Proofs.YtjffbojgdemooaaDoor

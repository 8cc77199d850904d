/-
  Package prog: what mayInstr and mayMethod answer at a program that lies in memory.
-/
import Derived.Test.YtjffbojgdemooaaDoorPrg6
import Derived.Test.YtjffbojgdemooaaDoorPrg4
import Derived.Test.YtjffbojgdemooaaDoorPrg3
import Derived.Test.YtjffbojgdemooaaDoorPrg2Y
import Derived.Test.YtjffbojgdemooaaDoorPrg2N
namespace Go.Proofs.YtjffbojgdemooaaDoor
open Go.RowKit

theorem named_any (ca : Option Addr) (nc cc : Nat) (ma : Option Addr) (nm mc : Nat) (f : Nat → ByteArray) (ps ls rt : ByteArray) (co : Option Addr) (cl cp : Nat) (op A B N : Int) (w : World) (h1 : ps.size ≤ 1000000) (h2 : ls.size ≤ 1000000) (hnc : nc ≤ 1000000) (hC : Cls w ca nc cc f) :
    NamedIs ca nc cc ma nm mc ps ls rt co cl cp op A B N w (namedB nc nm ((ps.size : Int) + ls.size) (fun i => (f i).size) op A B) := by
  intro w' hb
  by_cases h25 : op = 25 ∨ op = 26
  · have e : namedB nc nm ((ps.size : Int) + ls.size) (fun i => (f i).size) op A B = (inside A nc && inside B (f A.toNat).size) := by
      rw [namedB, if_neg (by omega), if_neg (by omega), if_pos h25]
    rw [e]
    by_cases hA : 0 ≤ A ∧ A < nc
    · have := named_yes ca nc cc ma nm mc f ps ls rt co cl cp op A B N w' (hC.below hb) hnc h25 hA
      have hin : inside A nc = true := by simp [inside, hA]
      rw [hin, Bool.true_and]
      first | exact this | (rw [hin, Bool.true_and] at this; exact this)
    · have := named_no ca nc cc ma nm mc f ps ls rt co cl cp op A B N w' (hC.below hb) hnc h25 hA
      first | exact this | (have hin : inside A nc = false := by simp only [inside]; simpa using hA
                            rw [hin, Bool.false_and]; exact this)
  · exact named_plain ca nc cc ma nm mc _ ps ls rt co cl cp op A B N w' h1 h2 (fun e => h25 (.inl e)) (fun e => h25 (.inr e))

/-- What keeps instruction i of a method from being one. -/
def icOf (nc nm lo : Nat) (f : Nat → ByteArray) (len : Nat) (gv : Nat → Nat → Int) (i : Nat) : Nat :=
  instrC (namedB nc nm lo (fun i => (f i).size) (gv i 0) (gv i 1) (gv i 2)) len (gv i 0) (gv i 1) (gv i 2) (gv i 3)

theorem meth_is (a : Nat → Addr) (ca : Option Addr) (nc cc : Nat) (f : Nat → ByteArray) (mb mo nm mc : Nat) (m : Nat) (ps ls rt : ByteArray) (co : Option Addr) (len cp : Nat) (gv : Nat → Nat → Int) (n : Nat) (w : World)
    (h : Sents a w) (hm : m < nm) (hnm : nm ≤ 1000000) (hnc : nc ≤ 1000000) (hl : len ≤ 1000000) (hC : Cls w ca nc cc f) (hP : Picks w co len cp gv)
    (x0 : w.cell? ⟨mb, mo + m * 4, none⟩ = some (.string ps)) (x1 : w.cell? ⟨mb, mo + m * 4 + 1, none⟩ = some (.string ls)) (x2 : w.cell? ⟨mb, mo + m * 4 + 2, none⟩ = some (.string rt)) (x3 : w.cell? ⟨mb, mo + m * 4 + 3, none⟩ = some (.slice co len cp))
    (h1 : ps.size ≤ 1000000) (h2 : ls.size ≤ 1000000) (f1 : Fair ps) (f2 : Fair ls) (hr : rt = ⟨#[]⟩ ∨ rt = ⟨#[73]⟩) (hf : m = 0 → ps = ⟨#[]⟩)
    (hn : n ≤ len) (hok : ∀ i, i < n → icOf nc nm (ps.size + ls.size) f len gv i = 0) (hbad : n < len → icOf nc nm (ps.size + ls.size) f len gv n ≠ 0) :
    Calls Tryd.prog 99 #[.agg #[.slice ca nc cc, .slice (some ⟨mb, mo, none⟩) nm mc], .int .i64 m] w (WherePost a (methW (headC ps.size ls.size len) m len n (icOf nc nm (ps.size + ls.size) f len gv)) w) := by
  refine mayMethod_any a ca nc cc mb mo nm mc m ps ls rt co len cp gv _ n _ w h hm hnm hl hP x0 x1 x2 x3 ?_ ?_ hn hok hbad
  · intro w' hb
    exact mayHead_any a ps ls rt co len cp _ w' (h.below hb) h1 h2 hl f1 f2 hr (fun e => hf (by simpa using e))
  · intro i hi w' hb
    exact mayInstr_any a ca nc cc (some ⟨mb, mo, none⟩) nm mc ps ls rt co len cp _ _ _ _ w' _ (h.below hb) (named_any ca nc cc (some ⟨mb, mo, none⟩) nm mc f ps ls rt co len cp _ _ _ _ w' h1 h2 hnc (hC.below hb))

end Go.Proofs.YtjffbojgdemooaaDoor

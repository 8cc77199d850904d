/-
  Package scan: Number, and the closure that package script reads by.
-/
import Derived.Test.YtjcklfbpdjfibaaDoorRdr2
namespace Go.Proofs.YtjcklfbpdjfibaaDoor
open Go.RowKit

theorem number_ok (r : Nat) (ba : Option Addr) (bl bc p u k : Nat) (bs : List Nat) (w : World) (h : RBx r ba bl bc p .nilIface w) (hr : Row .u8 w ba bl bc (intsR bs)) (hl : bl ≤ 1000000) (hT : takeAt bs (p : Int) = some (u, k)) (hu : u ≤ 1048576) :
    Calls Tryd.prog 106 #[.pointer (some ⟨r, 0, none⟩), .int .i64 0, .int .i64 1048576] w (WideOk r ba bl bc p u k w (.int .i64 u)) := by
  have KW := Lib.hid (wide_ok r ba bl bc p u k bs w h hr hl hT)
  obtain ⟨c0, c1, c2, f1, f2⟩ := h.cells
  clear h hr hT
  go_enter Tryd.func106, Tryd.ntmps106
  go_wp2_with fail
  refine KW.out.mono ?_
  rintro e w2 ⟨rfl, hb, hg⟩
  have HB := Lib.hid hb
  have HG := Lib.hid hg
  obtain ⟨d0, d1, d2, g1, g2⟩ := hb.cells
  have t1 : decide ((u : Int) < 0) = false := by simp
  have t2 : decide ((1048576 : Int) < (u : Int)) = false := by simp; omega
  have a1 : IntKind.i64.wrap (u : Int) = (u : Int) := IntWalk.i64_in _ (by omega)
  clear c0 c1 c2 f1 f2 hb hg
  go_wp2_with fail
  go_ret
  exact ⟨rfl, HB.out, HG.out⟩

theorem number_cut (a : Nat → Addr) (r b off bl bc p : Nat) (bs : List Nat) (w : World) (hS : Sents a w) (h : RBx r (some ⟨b, off, none⟩) bl bc p .nilIface w) (hr : Row .u8 w (some ⟨b, off, none⟩) bl bc (intsR bs)) (hm : bc ≤ maxLen) (hbl : bl ≤ 1000000) (hp : p ≤ bl) (hpos : 0 < bl) (hC : CutAt bs p) :
    Calls Tryd.prog 106 #[.pointer (some ⟨r, 0, none⟩), .int .i64 0, .int .i64 1048576] w (WideCut a r (some ⟨b, off, none⟩) bl bc p w (.int .i64 0)) := by
  have KW := Lib.hid (wide_cut a r b off bl bc p bs w hS h hr hm hbl hp hpos hC)
  obtain ⟨c0, c1, c2, f1, f2⟩ := h.cells
  clear h hr hC hS
  go_enter Tryd.func106, Tryd.ntmps106
  go_wp2_with fail
  refine KW.out.mono ?_
  rintro e w2 ⟨rfl, q, h1, h2, h3, h4⟩
  have FIN : Hid (WideCut a r (some ⟨b, off, none⟩) bl bc p w (.int .i64 0) (.returned (.int .i64 0)) w2) := Lib.hid ⟨rfl, q, h1, h2, h3, h4⟩
  obtain ⟨d0, d1, d2, g1, g2⟩ := h1.cells
  unfold atErr at d2
  clear c0 c1 c2 f1 f2 h1 h2 h3 h4
  go_wp2_with fail
  go_ret
  exact FIN.out

theorem number_err (r : Nat) (ba : Option Addr) (bl bc p b : Nat) (w : World) (h : RBx r ba bl bc p (atErr b) w) :
    Calls Tryd.prog 106 #[.pointer (some ⟨r, 0, none⟩), .int .i64 0, .int .i64 1048576] w fun e w' => e = .returned (.int .i64 0) ∧ w = w' := by
  have KW := Lib.hid (wide_err r ba bl bc p b w h)
  obtain ⟨c0, c1, c2, f1, f2⟩ := h.cells
  unfold atErr at c2
  clear h
  go_enter Tryd.func106, Tryd.ntmps106
  go_wp2_with fail
  refine KW.out.mono ?_
  rintro e w2 ⟨rfl, rfl⟩
  go_wp2_with fail
  go_ret
  exact ⟨rfl, rfl⟩

theorem num_of {q0 r : Nat} {w : World} {P : Ending → World → Prop} (hq : w.cell? ⟨q0, 0, none⟩ = some (.pointer (some ⟨r, 0, none⟩)))
    (h : Calls Tryd.prog 106 #[.pointer (some ⟨r, 0, none⟩), .int .i64 0, .int .i64 1048576] w fun e w' => (∃ n, e = .returned (.int .i64 n)) ∧ P e w') :
    Calls Tryd.prog 116 #[.pointer (some ⟨q0, 0, none⟩)] w P := by
  have H := Lib.hid h
  clear h
  go_enter Tryd.func116, Tryd.ntmps116
  go_wp2_with fail
  refine H.out.mono ?_
  rintro e w2 ⟨⟨n, rfl⟩, hp⟩
  have HP := Lib.hid hp
  clear hp
  go_wp2_with fail
  exact HP.out

theorem new_reader (ba : Option Addr) (bl bc : Nat) (w : World) : Calls Tryd.prog 104 #[.slice ba bl bc] w fun e w' => e = .returned (.pointer (some ⟨w.heap.size, 0, none⟩)) ∧ RBx w.heap.size ba bl bc 0 .nilIface w' ∧ Below w.heap.size w w' := by
  have hb : RBx w.heap.size ba bl bc 0 .nilIface (w.alloc (.cells #[.slice ba bl bc, .int .i64 0, .nilIface] 184)) := heap_alloc_new w _
  have HB := Lib.hid hb
  clear hb
  go_enter Tryd.func104, Tryd.ntmps104
  go_wp2_with fail
  go_ret
  exact ⟨rfl, HB.out, (Below.refl _ _).alloc (Nat.le_refl _) _⟩

end Go.Proofs.YtjcklfbpdjfibaaDoor

/-
  Chapter 11's example (the law's own 'first'): the walk.
-/
import Derived.Test.YtjffbojgdemooaaDoorHFirst
import Derived.Outline
namespace Go.Proofs.YtjffbojgdemooaaDoor
open Go.RowKit

theorem kind1 : Kind 1 irF 0 0 2 := .inl ⟨0, rfl, by decide, rfl⟩

theorem young_lit {B hb ab gb bg : Nat} {cp : Option Addr} {cx : Nat} (w : World) (h : Hp B hb ab gb bg cp 1 cx irF 100 20 ((0 : Nat) : Int) 20 60 60 100 60 (fun _ => 0) (fun _ => false) (.slice none 0 0) w) :
    Calls Tryd.prog 70 #[.pointer (some ⟨hb, 0, none⟩), .int .i64 0, .int .i64 0] w (MakePost B hb ab gb bg cp 1 cx irF 100 20 4 20 60 60 100 60 wd1 bd1 (.slice none 0 0) 1 w) :=
  young_yes 0 0 2 0 w h kind1 (by decide) (by decide) (by decide)

theorem room_lit {B hb ab gb bg : Nat} {cp : Option Addr} {cx : Nat} (w : World) (h : Hp B hb ab gb bg cp 1 cx irF 100 20 4 20 60 60 100 60 wd1 bd1 (.slice none 0 0) w) :
    Calls Tryd.prog 81 #[.pointer (some ⟨hb, 0, none⟩)] w (PairPost 16 40 w) := room_any w h

theorem put_lit {B hb ab gb bg : Nat} {cp : Option Addr} {cx : Nat} (w : World) (h : Hp B hb ab gb bg cp 1 cx irF 100 20 4 20 60 60 100 60 wd1 bd1 (.slice none 0 0) w) :
    Calls Tryd.prog 75 #[.pointer (some ⟨hb, 0, none⟩), .int .i64 1, .int .i64 1, .int .i64 1] w (PutPost B hb ab gb bg cp 1 cx irF 100 20 4 20 60 60 100 60 wd2 bd1 (.slice none 0 0) w) :=
  put_ref 0 0 2 1 0 0 2 w h (obj_of wd1 wd1_0) (by decide) rfl (obj_of wd1 wd1_0) (.inr (by decide))

theorem cls_lit (w : World) : Cls (((w.alloc (.cells #[.string ⟨#[73, 82]⟩] 90)).alloc (.cells #[.int .i64 33, .int .i64 0, .int .i64 0, .int .i64 0] 67)).alloc (.cells #[.string ⟨#[]⟩, .string ⟨#[]⟩, .string ⟨#[]⟩, .slice (some ⟨w.heap.size + 1, 0, none⟩) 1 1] 62)) (some ⟨w.heap.size, 0, none⟩) 1 1 irF := by
  refine ⟨Nat.le_refl _, by unfold maxLen; omega, fun h => (by cases h), fun ad had i hi => ?_⟩
  cases had
  obtain rfl : i = 0 := by omega
  rw [add_zeroC, cell_of_row _ w.heap.size 0 #[.string ⟨#[73, 82]⟩] 90 (0, 0) (by rw [Below.heap_alloc _ _ _ (by simp; omega), Below.heap_alloc _ _ _ (by simp)]; exact heap_alloc_new _ _)]
  rfl

theorem below_lit (w : World) (c0 : Array Value) (T0 : TypeId) (c1 : Array Value) (T1 : TypeId) (c2 : Array Value) (T2 : TypeId) : Below w.heap.size w (((w.alloc (.cells c0 T0)).alloc (.cells c1 T1)).alloc (.cells c2 T2)) :=
  (((Below.refl _ _).alloc (Nat.le_refl _) _).alloc (by simp) _).alloc (by simp; omega) _

theorem row_pair (w : World) (x y : Int) (T : TypeId) (hx : (Lit.int .i64 x).wf = true) (hy : (Lit.int .i64 y).wf = true) : Row .i64 (w.alloc (.cells #[.int .i64 x, .int .i64 y] T)) (some ⟨w.heap.size, 0, none⟩) 2 2 [x, y] := by
  refine ⟨rfl, Nat.le_refl _, by unfold maxLen; omega, fun e => (by cases e), fun ad had j hj => ?_, fun n hn => by simp at hn; rcases hn with rfl | rfl <;> assumption⟩
  cases had
  rw [add_zeroC, cell_of_row _ w.heap.size j _ T (0, 0) (heap_alloc_new w _)]
  rcases (show j = 0 ∨ j = 1 by omega) with rfl | rfl <;> rfl

set_option maxHeartbeats 2000000 in
set_option maxRecDepth 100000 in
theorem hfirst (w : World) : Calls Tryd.prog 68 #[] w (TruePost w) := by
  go_enter Tryd.func68, Tryd.ntmps68
  go_wp2_with fail
  refine (new_lit _ _ _ (cls_lit w)).mono ?_
  rintro e w1 ⟨hb, ab, gb, bg, cp, cx, rfl, h1, hb1⟩
  have H1 := Lib.hid h1
  have hB0 := below_lit w #[.string ⟨#[73, 82]⟩] 90 #[.int .i64 33, .int .i64 0, .int .i64 0, .int .i64 0] 67 #[.string ⟨#[]⟩, .string ⟨#[]⟩, .string ⟨#[]⟩, .slice (some ⟨w.heap.size + 1, 0, none⟩) 1 1] 62
  have B1 : Hid (Below w.heap.size w w1) := Lib.hid (hB0.trans (hb1.mono hB0.size))
  have LO : Hid (w.heap.size ≤ hb ∧ w.heap.size ≤ gb ∧ w.heap.size ≤ bg) := Lib.hid (by have := h1.lo; have := h1.glo; have := hB0.size; omega)
  clear h1 hb1 hB0
  go_wp2_with fail
  refine (young_lit _ H1.out).mono ?_
  rintro e w2 ⟨rfl, h2, t2⟩
  have H2 := Lib.hid h2
  have B2 : Hid (Below w.heap.size w w2) := Lib.hid (t2.below B1.out LO.out.1 LO.out.2.1 LO.out.2.2 B1.out.size)
  clear h2 t2 H1 B1
  go_wp2_with fail
  refine (room_lit _ H2.out).mono ?_
  rintro e w3 ⟨rfl, q, rfl⟩
  have H3 := Lib.hid (H2.out.drewN q)
  have B3 : Hid (Below w.heap.size w (w2.drewN q)) := Lib.hid (below_drewN B2.out q)
  clear H2 B2
  generalize w2.drewN q = w3 at *
  go_wp2_with fail
  refine (put_lit _ H3.out).mono ?_
  rintro e w4 ⟨rfl, h4, t4⟩
  have H4 := Lib.hid h4
  have B4 : Hid (Below w.heap.size w w4) := Lib.hid (t4.below B3.out LO.out.1 LO.out.2.1 LO.out.2.2 B3.out.size)
  clear h4 t4 H3 B3
  have KS := Lib.hid (shape_first (H4.out.below ((Below.refl _ _).alloc (Nat.le_refl _) (.cells #[.int .i64 1, .int .i64 0] 3))) (row_pair w4 1 0 3 (by decide) (by decide)))
  go_wp2_with fail
  refine KS.out.mono ?_
  rintro e w5 ⟨g, b, c, r, rc, rfl, hg, hr1, hr2, hc, hb5⟩
  have hgl : g < w5.heap.size := World.block_lt_of_cell? w5 _ hg
  have B5 : Hid (Below w.heap.size w w5) := Lib.hid ((B4.out.alloc B4.out.size _).trans (hb5.mono (by have := B4.out.size; simp; omega)))
  have R1 := Lib.hid hr1
  have R2 := Lib.hid hr2
  clear hb5 hr1 hr2 KS H4 B4
  have KL := Lib.hid (same_longs (some ⟨b, 0, none⟩) (some ⟨w5.heap.size, 0, none⟩) 2 2 2 2 [0, 0] [0, 0] _ (Row_alloc R1.out (.cells #[.int .i64 0, .int .i64 0] 2)) (row_pair w5 0 0 2 (by decide) (by decide)) (by decide))
  go_wp2_with fail
  refine KL.out.mono ?_
  rintro e w6 ⟨he, q6, rfl⟩
  obtain rfl : e = .returned (.bool true) := by rw [he]; simp
  clear he KL
  have KI := Lib.hid (same_ints r (some ⟨(World.drewN (w5.alloc (.cells #[.int .i64 0, .int .i64 0] 2)) q6).heap.size, 0, none⟩) 2 rc 2 2 [0, -1] [0, -1] _ (Row_alloc (Row_drewN (Row_alloc R2.out (.cells #[.int .i64 0, .int .i64 0] 2)) q6) (.cells #[.int .i64 0, .int .i64 (-1)] 3)) (row_pair (World.drewN (w5.alloc (.cells #[.int .i64 0, .int .i64 0] 2)) q6) 0 (-1) 3 (by decide) (by decide)) (by decide))
  have B6 : Hid (Below w.heap.size w (World.drewN (w5.alloc (.cells #[.int .i64 0, .int .i64 0] 2)) q6)) := Lib.hid (below_drewN (B5.out.alloc B5.out.size _) q6)
  clear R1 R2
  generalize World.drewN (w5.alloc (.cells #[.int .i64 0, .int .i64 0] 2)) q6 = w6 at *
  go_wp2_with fail
  refine KI.out.mono ?_
  rintro e w7 ⟨he, q7, rfl⟩
  obtain rfl : e = .returned (.bool true) := by rw [he]; simp
  clear he KI
  go_wp2_with fail
  go_ret
  exact ⟨rfl, below_drewN (B6.out.alloc B6.out.size _) q7⟩

end Go.Proofs.YtjffbojgdemooaaDoor

/-
  Package prog: Effect at the chapter's example.
-/
import Derived.Test.YtjffbojgdemooaaDoorPrg7
import Derived.Deep.RegionWith
import Derived.Deep.DeepCutAuto
namespace Go.Proofs.YtjffbojgdemooaaDoor
open Go.RowKit

def EffPost (s : ByteArray) (w : World) (e : Ending) (w' : World) : Prop := e = .returned (.tuple #[.string (⟨#[82]⟩ ++ s.extract 1 2), .string ⟨#[]⟩, .bool true]) ∧ Below w.heap.size w w'

set_option maxHeartbeats 4000000 in
set_option maxRecDepth 100000 in
theorem effect_put (cb mb : Nat) (s ps ls rt : ByteArray) (co : Option Addr) (len cp : Nat) (w : World) (hs : s.size = 2) (h1 : ps.size ≤ 1000000) (h2 : ls.size ≤ 1000000)
    (hC : Cls w (some ⟨cb, 0, none⟩) 1 1 (fun _ => s))
    (x0 : w.cell? ⟨mb, 0, none⟩ = some (.string ps)) (x1 : w.cell? ⟨mb, 1, none⟩ = some (.string ls)) (x2 : w.cell? ⟨mb, 2, none⟩ = some (.string rt)) (x3 : w.cell? ⟨mb, 3, none⟩ = some (.slice co len cp)) :
    Calls Tryd.prog 50 #[.agg #[.slice (some ⟨cb, 0, none⟩) 1 1, .slice (some ⟨mb, 0, none⟩) 1 1], .int .i64 0, .agg #[.int .i64 26, .int .i64 0, .int .i64 1, .int .i64 0]] w (EffPost s w) := by
  have hb : Below w.heap.size w ((w.alloc (.cells #[.slice (some ⟨cb, 0, none⟩) 1 1, .slice (some ⟨mb, 0, none⟩) 1 1] 46)).alloc (.cells #[.int .i64 26, .int .i64 0, .int .i64 1, .int .i64 0] 67)) := ((Below.refl _ _).alloc (Nat.le_refl _) _).alloc (by simp) _
  have hcw := Cls_at hC (by omega)
  obtain ⟨b, off, hbe, hblt, hc⟩ := hcw
  obtain ⟨rfl, rfl⟩ : cb = b ∧ 0 = off := by simpa using hbe
  have hc0 := hc 0 (by omega)
  have KN : Hid (∀ w', Below w.heap.size w w' → Calls Tryd.prog 110 #[.agg #[.slice (some ⟨cb, 0, none⟩) 1 1, .slice (some ⟨mb, 0, none⟩) 1 1], .agg #[.string ps, .string ls, .string rt, .slice co len cp], .agg #[.int .i64 26, .int .i64 0, .int .i64 1, .int .i64 0]] w' (BoolPost true w')) := Lib.hid fun w' hw' => by
    have := named_any (some ⟨cb, 0, none⟩) 1 1 (some ⟨mb, 0, none⟩) 1 1 (fun _ => s) ps ls rt co len cp 26 0 1 0 w h1 h2 (by omega) hC w' hw'
    have e : namedB 1 1 ((ps.size : Int) + ls.size) (fun _ => s.size) 26 0 1 = true := by simp [namedB, inside, hs]
    rw [e] at this
    exact this
  have KW : Hid (∀ w', Calls Tryd.prog 109 #[.int .i64 0, .int .i64 1] w' fun e w'' => e = .returned (.bool true) ∧ w' = w'') := Lib.hid fun w' => by
    have := within_any 0 1 w'
    exact this
  have hlt : ∀ j v, w.cell? ⟨mb, j, none⟩ = some v → mb < w.heap.size := fun j v h => World.block_lt_of_cell? w _ h
  have hmb := hlt _ _ x0
  have KEEP : Hid (∀ w', Below w.heap.size w w' → w'.cell? ⟨cb, 0, none⟩ = some (.string s) ∧ w'.cell? ⟨mb, 0, none⟩ = some (.string ps) ∧ w'.cell? ⟨mb, 1, none⟩ = some (.string ls) ∧ w'.cell? ⟨mb, 2, none⟩ = some (.string rt) ∧ w'.cell? ⟨mb, 3, none⟩ = some (.slice co len cp)) := Lib.hid fun w' hw' =>
    ⟨(hw'.cell (p := ⟨cb, 0, none⟩) hblt).trans hc0, (hw'.cell (p := ⟨mb, 0, none⟩) hmb).trans x0, (hw'.cell (p := ⟨mb, 1, none⟩) hmb).trans x1, (hw'.cell (p := ⟨mb, 2, none⟩) hmb).trans x2, (hw'.cell (p := ⟨mb, 3, none⟩) hmb).trans x3⟩
  obtain ⟨W, hW⟩ : ∃ W, ((w.alloc (.cells #[.slice (some ⟨cb, 0, none⟩) 1 1, .slice (some ⟨mb, 0, none⟩) 1 1] 46)).alloc (.cells #[.int .i64 26, .int .i64 0, .int .i64 1, .int .i64 0] 67)) = W := ⟨_, rfl⟩
  have q0 : W.heap[w.heap.size]? = some (.cells #[.slice (some ⟨cb, 0, none⟩) 1 1, .slice (some ⟨mb, 0, none⟩) 1 1] 46 (0, 0)) := by
    rw [← hW, Below.heap_alloc _ _ _ (by simp)]
    exact heap_alloc_new w _
  have q1 : W.heap[w.heap.size + 1]? = some (.cells #[.int .i64 26, .int .i64 0, .int .i64 1, .int .i64 0] 67 (0, 0)) := by
    rw [← hW]
    have := heap_alloc_new (w.alloc (.cells #[.slice (some ⟨cb, 0, none⟩) 1 1, .slice (some ⟨mb, 0, none⟩) 1 1] 46)) (.cells #[.int .i64 26, .int .i64 0, .int .i64 1, .int .i64 0] 67)
    simpa using this
  rw [hW] at hb
  have hl1 : w.heap.size + 1 < W.heap.size := (Array.getElem?_eq_some_iff.1 q1).1
  have BOX : Hid (∀ w', Below W.heap.size W w' → w'.cell? ⟨w.heap.size, 0, none⟩ = some (.slice (some ⟨cb, 0, none⟩) 1 1) ∧ w'.cell? ⟨w.heap.size, 1, none⟩ = some (.slice (some ⟨mb, 0, none⟩) 1 1) ∧ w'.cell? ⟨w.heap.size + 1, 0, none⟩ = some (.int .i64 26) ∧ w'.cell? ⟨w.heap.size + 1, 1, none⟩ = some (.int .i64 0) ∧ w'.cell? ⟨w.heap.size + 1, 2, none⟩ = some (.int .i64 1) ∧ w'.cell? ⟨w.heap.size + 1, 3, none⟩ = some (.int .i64 0)) := Lib.hid fun w' hw' => by
    have r0 := (hw'.block w.heap.size (by omega)).trans q0
    have r1 := (hw'.block (w.heap.size + 1) hl1).trans q1
    exact ⟨(cell_of_row _ _ 0 _ 46 (0, 0) r0).trans rfl, (cell_of_row _ _ 1 _ 46 (0, 0) r0).trans rfl, (cell_of_row _ _ 0 _ 67 (0, 0) r1).trans rfl, (cell_of_row _ _ 1 _ 67 (0, 0) r1).trans rfl, (cell_of_row _ _ 2 _ 67 (0, 0) r1).trans rfl, (cell_of_row _ _ 3 _ 67 (0, 0) r1).trans rfl⟩
  have HB := Lib.hid hb
  clear x0 x1 x2 x3 hc hc0 hC hlt hmb hblt q0 q1 hl1
  obtain ⟨y0, x0, x1, x2, x3⟩ := KEEP.out W hb
  obtain ⟨p0, p1, i0, i1, i2, i3⟩ := BOX.out W (Below.refl _ _)
  have he : (s.extract 1 2).size = 1 := by simp [hs]
  clear hb hbe
  go_enter Tryd.func50, Tryd.ntmps50
  go_wp2_with fail
  clear hW
  go_cut [26] from 10 to 26 (fun s wx => s = .bool false ∧ Below W.heap.size W wx)
  case first =>
    go_region_with (first | (go_at_call 109; refine (KW.out _).mono ?_; rintro e w' ⟨rfl, rfl⟩) | (go_at_call 110; refine (KN.out _ (by first | exact HB.out | exact below_drew HB.out)).mono ?_; rintro e w3 ⟨rfl, hb3⟩))
    all_goals
      have hb5 : Below W.heap.size W w3 := (below_drew (Below.refl W.heap.size W)).trans hb3
      go_wp2_with fail
      go_meet
      exact ⟨rfl, hb5⟩
  case rest =>
    obtain ⟨rfl, hb5⟩ := hcut
    obtain ⟨w3, hw3⟩ : ∃ w3, wc = w3 := ⟨_, rfl⟩
    rw [hw3] at hb5 ⊢
    clear hw3
    have hb4 : Below w.heap.size w w3 := HB.out.trans (hb5.mono HB.out.size)
    clear y0 x0 x1 x2 x3 p0 p1 i0 i1 i2 i3
    have hb6 : Below W.heap.size W (w3.alloc (.cells #[.string ps, .string ls, .string rt, .slice co len cp] 62)) := hb5.alloc hb5.size _
    have hb7 : Below w.heap.size w (w3.alloc (.cells #[.string ps, .string ls, .string rt, .slice co len cp] 62)) := hb4.alloc hb4.size _
    obtain ⟨z0, x0, x1, x2, x3⟩ := KEEP.out w3 hb4
    obtain ⟨z1, p1, z2, z3, z4, z5⟩ := BOX.out w3 hb5
    obtain ⟨y0, _, _, _, _⟩ := KEEP.out _ hb7
    obtain ⟨p0, _, i0, i1, i2, i3⟩ := BOX.out _ hb6
    have HBM := Lib.hid hb7
    clear hb4 hb5 hb6 hb7 KN KW KEEP BOX z0 z1 z2 z3 z4 z5
    have hz : (⟨#[82]⟩ : ByteArray).size = 1 := rfl
    go_wp2_with fail
    generalize (w3.alloc (.cells #[.string ps, .string ls, .string rt, .slice co len cp] 62)) = w4 at *
    go_quiet (fail)
    go_wp2_with fail
    exact bodyPost_ret (v := .tuple #[.string (⟨#[82]⟩ ++ s.extract 1 2), .string ⟨#[]⟩, .bool true]) (by simp [results, Tryd.results50, go_sem]) rfl ⟨rfl, below_drewN HBM.out _⟩

end Go.Proofs.YtjffbojgdemooaaDoor

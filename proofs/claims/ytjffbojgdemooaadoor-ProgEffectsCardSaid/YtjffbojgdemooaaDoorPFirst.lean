/-
  The chapter's examples on programs (the law's own 'first'): true.
-/
import Derived.Test.YtjffbojgdemooaaDoorPFirst0
import Derived.Test.YtjffbojgdemooaaDoorPrgE
namespace Go.Proofs.YtjffbojgdemooaaDoor
open Go.RowKit

def pBlocks (s : Nat) : List Obj := [
  .cells #[.int .i64 1, .int .i64 0, .int .i64 0, .int .i64 1, .int .i64 33, .int .i64 0, .int .i64 0, .int .i64 0] 67,
  .cells #[.string ⟨#[]⟩, .string ⟨#[]⟩, .string ⟨#[73]⟩, .slice (some ⟨s, 0, none⟩) 2 2] 62,
  .cells #[.slice none 0 0, .slice (some ⟨s + 1, 0, none⟩) 1 1] 46,
  .cells #[.int .i64 3, .int .i64 0, .int .i64 0, .int .i64 0, .int .i64 33, .int .i64 0, .int .i64 0, .int .i64 0] 67,
  .cells #[.string ⟨#[]⟩, .string ⟨#[]⟩, .string ⟨#[73]⟩, .slice (some ⟨s + 3, 0, none⟩) 2 2] 62,
  .cells #[.slice none 0 0, .slice (some ⟨s + 4, 0, none⟩) 1 1] 46,
  .cells #[.string ⟨#[73, 82]⟩] 90,
  .cells #[.slice (some ⟨s + 6, 0, none⟩) 1 1, .slice (some ⟨s + 1, 0, none⟩) 1 1] 46]

theorem extract_ir : (⟨#[82]⟩ ++ (⟨#[73, 82]⟩ : ByteArray).extract 1 2 : ByteArray) = ⟨#[82, 82]⟩ := by decide

set_option maxHeartbeats 4000000 in
set_option maxRecDepth 100000 in
theorem pfirst (a : Nat → Addr) (w : World) (h : Sents a w) : Calls Tryd.prog 33 #[] w (TruePost w) := by
  obtain ⟨W, hW⟩ : ∃ W, allocs (pBlocks w.heap.size) w = W := ⟨_, rfl⟩
  have hat : ∀ i o, (pBlocks w.heap.size)[i]? = some o → W.heap[w.heap.size + i]? = some o := fun i o hi => by rw [← hW]; exact allocs_at _ w i o hi
  have hB : Below w.heap.size w W := by rw [← hW]; exact allocs_below _ w
  have a0 := hat 0 _ rfl
  have a1 := hat 1 _ rfl
  have a2 := hat 2 _ rfl
  have a3 := hat 3 _ rfl
  have a4 := hat 4 _ rfl
  have a5 := hat 5 _ rfl
  have a6 := hat 6 _ rfl
  have a7 := hat 7 _ rfl
  rw [Nat.add_zero] at a0
  have lt : ∀ i o, W.heap[i]? = some o → i < W.heap.size := fun i o hi => (Array.getElem?_eq_some_iff.1 hi).1
  have EFF := Lib.hid (effect_put (w.heap.size + 6) (w.heap.size + 1) ⟨#[73, 82]⟩ ⟨#[]⟩ ⟨#[]⟩ ⟨#[73]⟩ (some ⟨w.heap.size, 0, none⟩) 2 2 W rfl (Nat.zero_le _) (Nat.zero_le _) (cls_of (len := 1) a6 (by omega) (fun i hi => by (obtain rfl : i = 0 := by omega); rfl))
    ((cell_of_row W _ 0 _ _ (0, 0) a1).trans rfl) ((cell_of_row W _ 1 _ _ (0, 0) a1).trans rfl) ((cell_of_row W _ 2 _ _ (0, 0) a1).trans rfl) ((cell_of_row W _ 3 _ _ (0, 0) a1).trans rfl))
  have MP : Hid (∀ w', Below W.heap.size W w' → Calls Tryd.prog 36 #[.agg #[.slice none 0 0, .slice (some ⟨w.heap.size + 1, 0, none⟩) 1 1]] w' (WherePost a none w')) := Lib.hid fun w' hb =>
    may_one a w.heap.size (w.heap.size + 1) [(1, 0, 0, 1), (33, 0, 0, 0)] _ _ 2 w' ((h.below hB).below hb) (by decide) (List.cons_ne_nil _ _) ((hb.block _ (lt _ _ a0)).trans a0) ((hb.block _ (lt _ _ a1)).trans a1) (Nat.le_refl _)
      (fun i hi => by
        have : i = 0 ∨ i = 1 := by omega
        rcases this with rfl | rfl <;> decide) (fun hlt => absurd hlt (Nat.lt_irrefl _))
  have MQ : Hid (∀ w', Below W.heap.size W w' → Calls Tryd.prog 36 #[.agg #[.slice none 0 0, .slice (some ⟨w.heap.size + 4, 0, none⟩) 1 1]] w' (WherePost a (some (2, 0, 0)) w')) := Lib.hid fun w' hb =>
    may_one a (w.heap.size + 3) (w.heap.size + 4) [(3, 0, 0, 0), (33, 0, 0, 0)] _ _ 0 w' ((h.below hB).below hb) (by decide) (List.cons_ne_nil _ _) ((hb.block _ (lt _ _ a3)).trans a3) ((hb.block _ (lt _ _ a4)).trans a4) (Nat.zero_le _)
      (fun i hi => absurd hi (Nat.not_lt_zero _)) (fun _ => by decide)
  have BOX : Hid (∀ w', Below W.heap.size W w' → w'.cell? ⟨w.heap.size + 1 + 1, 0, none⟩ = some (.slice none 0 0) ∧ w'.cell? ⟨w.heap.size + 1 + 1, 1, none⟩ = some (.slice (some ⟨w.heap.size + 1, 0, none⟩) 1 1) ∧ w'.cell? ⟨w.heap.size + 1 + 1 + 1 + 1 + 1, 0, none⟩ = some (.slice none 0 0) ∧ w'.cell? ⟨w.heap.size + 1 + 1 + 1 + 1 + 1, 1, none⟩ = some (.slice (some ⟨w.heap.size + 4, 0, none⟩) 1 1)) := Lib.hid fun w' hb => by
    have r0 := (hb.block _ (lt _ _ a2)).trans a2
    have r1 := (hb.block _ (lt _ _ a5)).trans a5
    exact ⟨(cell_of_row _ _ 0 _ _ (0, 0) r0).trans rfl, (cell_of_row _ _ 1 _ _ (0, 0) r0).trans rfl, (cell_of_row _ _ 0 _ _ (0, 0) r1).trans rfl, (cell_of_row _ _ 1 _ _ (0, 0) r1).trans rfl⟩
  have HB := Lib.hid hB
  have HS := Lib.hid (h.below hB)
  simp only [allocs, pBlocks, List.foldl_cons, List.foldl_nil] at hW
  clear hat a0 a1 a2 a3 a4 a5 a6 a7 lt hB h
  subst hW
  go_enter Tryd.func33, Tryd.ntmps33
  go_wp2_with fail
  refine EFF.out.mono ?_
  rintro e w9 ⟨he, hb9⟩
  rw [extract_ir] at he
  subst he
  obtain ⟨p0, p1, _, _⟩ := BOX.out w9 hb9
  have MP9 := Lib.hid (MP.out _ hb9)
  have HB9 := Lib.hid hb9
  clear hb9 EFF MP
  go_wp2_with fail
  refine MP9.out.mono ?_
  rintro e w10 ⟨hb10, rfl⟩
  have hb := HB9.out.trans (hb10.mono HB9.out.size)
  obtain ⟨_, _, q0, q1⟩ := BOX.out w10 hb
  have MQ10 := Lib.hid (MQ.out _ hb)
  have HB10 := Lib.hid hb
  clear hb10 hb MP9 MQ HB9 p0 p1 BOX
  go_wp2_with fail
  refine MQ10.out.mono ?_
  rintro e w11 ⟨hb11, b, rfl, hbb, hbox⟩
  have hb := HB10.out.trans (hb11.mono HB10.out.size)
  have HB11 := Lib.hid hb
  have HBOX := Lib.hid hbox
  clear hb11 hb MQ10 HB10 q0 q1 hbb hbox
  go_wp2_with fail
  refine (there_any 103 0 0 _).mono ?_
  rintro e w12 ⟨g, rfl, g0, g1, hb12⟩
  have hb := HB11.out.trans (hb12.mono HB11.out.size)
  have SW := Lib.hid (same_where a b 2 0 0 g 2 w12 (HS.out.below hb) (by omega) (HBOX.out.below hb12) (row_two g0 g1 (Nat.le_refl _) (by unfold maxLen; omega) rfl rfl))
  have HB12 := Lib.hid (HB.out.trans (hb.mono HB.out.size))
  clear hb12 hb HB11 HBOX HS g0 g1 HB
  go_wp2_with fail
  refine SW.out.mono ?_
  rintro e w13 ⟨rfl, hb13⟩
  have HB13 := Lib.hid (HB12.out.trans (hb13.mono HB12.out.size))
  clear hb13 SW HB12
  go_wp2_with fail
  go_ret
  exact ⟨rfl, HB13.out⟩

end Go.Proofs.YtjffbojgdemooaaDoor

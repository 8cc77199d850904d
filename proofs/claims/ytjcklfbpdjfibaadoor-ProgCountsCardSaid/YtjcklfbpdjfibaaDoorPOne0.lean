/-
  The law's own 'one': a program of one instruction behind others; what May answers of it.
-/
import Derived.Test.YtjcklfbpdjfibaaDoorPFirst
namespace Go.Proofs.YtjcklfbpdjfibaaDoor
open Go.RowKit

def oneF (i : Nat) : ByteArray := if i = 0 then ⟨#[73, 82]⟩ else ⟨#[]⟩

/-- The blocks of that program. -/
structure OneAt (w : World) (cb mb c1 c2 : Nat) (op A B N : Int) : Prop where
  cls : w.heap[cb]? = some (.cells #[.string ⟨#[73, 82]⟩, .string ⟨#[]⟩] 75 (0, 0))
  mth : w.heap[mb]? = some (.cells #[.string ⟨#[]⟩, .string ⟨#[]⟩, .string ⟨#[]⟩, .slice (some ⟨c1, 0, none⟩) 1 1, .string ⟨#[73]⟩, .string ⟨#[82]⟩, .string ⟨#[]⟩, .slice (some ⟨c2, 0, none⟩) 2 2] 62 (0, 0))
  co1 : w.heap[c1]? = some (.cells #[.int .i64 33, .int .i64 0, .int .i64 0, .int .i64 0] 67 (0, 0))
  co2 : w.heap[c2]? = some (.cells #[.int .i64 33, .int .i64 0, .int .i64 0, .int .i64 0, .int .i64 op, .int .i64 A, .int .i64 B, .int .i64 N] 67 (0, 0))

theorem OneAt.below {w w' : World} {cb mb c1 c2 : Nat} {op A B N : Int} (h : OneAt w cb mb c1 c2 op A B N) (hb : Below w.heap.size w w') : OneAt w' cb mb c1 c2 op A B N :=
  ⟨(hb.block _ (Array.getElem?_eq_some_iff.1 h.cls).1).trans h.cls, (hb.block _ (Array.getElem?_eq_some_iff.1 h.mth).1).trans h.mth, (hb.block _ (Array.getElem?_eq_some_iff.1 h.co1).1).trans h.co1, (hb.block _ (Array.getElem?_eq_some_iff.1 h.co2).1).trans h.co2⟩

/-- What keeps the last instruction from being one. -/
def oneC (op A B N : Int) : Nat := instrC (namedB 2 2 2 (fun i => (oneF i).size) op A B) 2 op A B N

theorem fair_I : Fair ⟨#[73]⟩ := fun k h => by
  obtain rfl : k = 0 := by have : k < 1 := h; omega
  exact .inl rfl
theorem fair_R : Fair ⟨#[82]⟩ := fun k h => by
  obtain rfl : k = 0 := by have : k < 1 := h; omega
  exact .inr rfl
theorem fair_IR : Fair ⟨#[73, 82]⟩ := fun k h => by
  have : k < 2 := h
  have h2 : k = 0 ∨ k = 1 := by omega
  rcases h2 with rfl | rfl
  · exact .inl rfl
  · exact .inr rfl

theorem may_two (a : Nat → Addr) (cb mb c1 c2 : Nat) (op A B N : Int) (w : World) (h : Sents a w) (hO : OneAt w cb mb c1 c2 op A B N) :
    Calls Tryd.prog 35 #[.agg #[.slice (some ⟨cb, 0, none⟩) 2 2, .slice (some ⟨mb, 0, none⟩) 2 2]] w (WherePost a (if oneC op A B N = 0 then none else some (oneC op A B N - 1, 1, 1)) w) := by
  have hcl : ∀ w', Below w.heap.size w w' → Cls w' (some ⟨cb, 0, none⟩) 2 2 oneF := fun w' hb => cls_of (len := 2) (hO.below hb).cls (by omega) (fun i hi => by
    have : i = 0 ∨ i = 1 := by omega
    rcases this with rfl | rfl <;> rfl)
  have e0 : methW 0 0 1 1 (icOf 2 2 0 oneF 1 (gvL [(33, 0, 0, 0)])) = none := by rw [methW, if_neg (by simp), if_neg (by omega)]
  have key := May_any a (some ⟨cb, 0, none⟩) 2 2 (some ⟨mb, 0, none⟩) 2 2 oneF 2 (if oneC op A B N = 0 then 2 else 1) (fun _ => 0)
    (fun i => if i = 0 then none else if oneC op A B N = 0 then none else some (oneC op A B N - 1, 1, 1)) w (by omega) (by omega) (by omega) (hcl w (Below.refl _ _))
    (by
      intro i hi w' hb
      have : i = 0 ∨ i = 1 := by omega
      rcases this with rfl | rfl
      · exact mayClass_any a ⟨#[73, 82]⟩ w' (h.below hb) (by decide) fair_IR
      · exact mayClass_any a ⟨#[]⟩ w' (h.below hb) (by decide) fair_nil)
    (Nat.le_refl _) (fun _ _ => rfl) (fun h => absurd h (Nat.lt_irrefl _))
    (by
      intro i hi w' hb
      have hO' := hO.below hb
      have : i = 0 ∨ i = 1 := by omega
      rcases this with rfl | rfl
      · have r := meth_is a (some ⟨cb, 0, none⟩) 2 2 oneF mb 0 2 2 0 ⟨#[]⟩ ⟨#[]⟩ ⟨#[]⟩ (some ⟨c1, 0, none⟩) 1 1 (gvL [(33, 0, 0, 0)]) 1 w' (h.below hb) (by omega) (by omega) (by omega) (by omega) (hcl w' hb) (picks_of hO'.co1 (by omega) (fun i j hi hj => codeV_at [(33, 0, 0, 0)] i j hi hj))
          ((cell_of_row w' mb 0 _ _ (0, 0) hO'.mth).trans rfl) ((cell_of_row w' mb 1 _ _ (0, 0) hO'.mth).trans rfl) ((cell_of_row w' mb 2 _ _ (0, 0) hO'.mth).trans rfl) ((cell_of_row w' mb 3 _ _ (0, 0) hO'.mth).trans rfl)
          (Nat.zero_le _) (Nat.zero_le _) fair_nil fair_nil (.inl rfl) (fun _ => rfl) (Nat.le_refl _) (fun i hi => by
            obtain rfl : i = 0 := by omega
            decide) (fun h => absurd h (Nat.lt_irrefl _))
        have e1 : headC (⟨#[]⟩ : ByteArray).size (⟨#[]⟩ : ByteArray).size 1 = 0 := rfl
        rw [e1] at r
        simp only [if_true]
        rw [show (⟨#[]⟩ : ByteArray).size + (⟨#[]⟩ : ByteArray).size = 0 from rfl, e0] at r
        exact r
      · have r := meth_is a (some ⟨cb, 0, none⟩) 2 2 oneF mb 0 2 2 1 ⟨#[73]⟩ ⟨#[82]⟩ ⟨#[]⟩ (some ⟨c2, 0, none⟩) 2 2 (gvL [(33, 0, 0, 0), (op, A, B, N)]) (if oneC op A B N = 0 then 2 else 1) w' (h.below hb) (by omega) (by omega) (by omega) (by omega) (hcl w' hb) (picks_of hO'.co2 (by omega) (fun i j hi hj => codeV_at [(33, 0, 0, 0), (op, A, B, N)] i j hi hj))
          ((cell_of_row w' mb 4 _ _ (0, 0) hO'.mth).trans rfl) ((cell_of_row w' mb 5 _ _ (0, 0) hO'.mth).trans rfl) ((cell_of_row w' mb 6 _ _ (0, 0) hO'.mth).trans rfl) ((cell_of_row w' mb 7 _ _ (0, 0) hO'.mth).trans rfl)
          (by decide) (by decide) fair_I fair_R (.inl rfl) (fun h => absurd h (by omega)) (by split <;> omega) (fun i hi => by
            by_cases h0 : i = 0
            · subst h0; rfl
            · split at hi
              · rename_i hz
                obtain rfl : i = 1 := by omega
                exact hz
              · omega) (fun hlt => by
            split at hlt
            · omega
            · rename_i hz
              rw [if_neg hz]
              exact hz)
        have e1 : headC (⟨#[73]⟩ : ByteArray).size (⟨#[82]⟩ : ByteArray).size 2 = 0 := rfl
        rw [e1] at r
        have e2 : methW 0 1 2 (if oneC op A B N = 0 then 2 else 1) (icOf 2 2 ((⟨#[73]⟩ : ByteArray).size + (⟨#[82]⟩ : ByteArray).size) oneF 2 (gvL [(33, 0, 0, 0), (op, A, B, N)])) = (if oneC op A B N = 0 then none else some (oneC op A B N - 1, 1, 1)) := by
          by_cases hz : oneC op A B N = 0
          · rw [if_pos hz, if_pos hz, methW, if_neg (by simp), if_neg (by omega)]
          · rw [if_neg hz, if_neg hz, methW, if_neg (by simp), if_pos (by omega)]
            rfl
        rw [e2] at r
        exact r)
    (by split <;> omega)
    (by
      intro i hi
      by_cases h0 : i = 0
      · simp [h0]
      · split at hi
        · rename_i hz; simp [h0, hz]
        · omega)
    (by
      intro hlt
      split at hlt
      · omega
      · rename_i hz; simp [hz])
  have e : progW 2 2 2 (if oneC op A B N = 0 then 2 else 1) (fun _ => 0) (fun i => if i = 0 then none else if oneC op A B N = 0 then none else some (oneC op A B N - 1, 1, 1)) = (if oneC op A B N = 0 then none else some (oneC op A B N - 1, 1, 1)) := by
    unfold progW
    rw [if_neg (by omega)]
    by_cases hz : oneC op A B N = 0
    · simp [hz]
    · simp [hz]
  rw [e] at key
  exact key

def OnePost (op A B N : Int) (w : World) (e : Ending) (w' : World) : Prop := ∃ cb mb c1 c2, e = .returned (.agg #[.slice (some ⟨cb, 0, none⟩) 2 2, .slice (some ⟨mb, 0, none⟩) 2 2]) ∧ OneAt w' cb mb c1 c2 op A B N ∧ Below w.heap.size w w'

def oBlocks (op A B N : Int) (s : Nat) : List Obj := [
  .cells #[.int .i64 op, .int .i64 A, .int .i64 B, .int .i64 N] 67,
  .cells #[.slice (some ⟨s + 1 + 1, 0, none⟩) 2 2, .slice (some ⟨s + 1 + 1 + 1 + 1 + 1, 0, none⟩) 2 2] 46,
  .cells #[.string ⟨#[73, 82]⟩, .string ⟨#[]⟩] 75,
  .cells #[.int .i64 33, .int .i64 0, .int .i64 0, .int .i64 0] 67,
  .cells #[.int .i64 33, .int .i64 0, .int .i64 0, .int .i64 0, .int .i64 op, .int .i64 A, .int .i64 B, .int .i64 N] 67,
  .cells #[.string ⟨#[]⟩, .string ⟨#[]⟩, .string ⟨#[]⟩, .slice (some ⟨s + 1 + 1 + 1, 0, none⟩) 1 1, .string ⟨#[73]⟩, .string ⟨#[82]⟩, .string ⟨#[]⟩, .slice (some ⟨s + 1 + 1 + 1 + 1, 0, none⟩) 2 2] 62]

set_option maxHeartbeats 2000000 in
theorem one_prog (op A B N : Int) (w : World) : Calls Tryd.prog 55 #[.agg #[.int .i64 op, .int .i64 A, .int .i64 B, .int .i64 N]] w (OnePost op A B N w) := by
  obtain ⟨W, hW⟩ : ∃ W, allocs (oBlocks op A B N w.heap.size) w = W := ⟨_, rfl⟩
  have hat : ∀ i o, (oBlocks op A B N w.heap.size)[i]? = some o → W.heap[w.heap.size + i]? = some o := fun i o hi => by rw [← hW]; exact allocs_at _ w i o hi
  have hB : Below w.heap.size w W := by rw [← hW]; exact allocs_below _ w
  have a1 := hat 1 _ rfl
  have hO : OneAt W (w.heap.size + 1 + 1) (w.heap.size + 1 + 1 + 1 + 1 + 1) (w.heap.size + 1 + 1 + 1) (w.heap.size + 1 + 1 + 1 + 1) op A B N := ⟨hat 2 _ rfl, hat 5 _ rfl, hat 3 _ rfl, hat 4 _ rfl⟩
  have f0 := (cell_of_row _ _ 0 _ _ (0, 0) a1).trans rfl
  have f1 := (cell_of_row _ _ 1 _ _ (0, 0) a1).trans rfl
  have FIN : Hid (OnePost op A B N w (.returned (.agg #[.slice (some ⟨w.heap.size + 1 + 1, 0, none⟩) 2 2, .slice (some ⟨w.heap.size + 1 + 1 + 1 + 1 + 1, 0, none⟩) 2 2])) W) := Lib.hid ⟨_, _, _, _, rfl, hO, hB⟩
  have HF0 := Lib.hid f0
  have HF1 := Lib.hid f1
  simp only [allocs, oBlocks, List.foldl_cons, List.foldl_nil] at hW
  clear hat hB a1 hO f0 f1
  subst hW
  go_enter Tryd.func55, Tryd.ntmps55
  go_wp2_with fail
  have f0 := HF0.out
  have f1 := HF1.out
  exact bodyPost_ret (v := .agg #[.slice (some ⟨w.heap.size + 1 + 1, 0, none⟩) 2 2, .slice (some ⟨w.heap.size + 1 + 1 + 1 + 1 + 1, 0, none⟩) 2 2]) (by simp [results, Tryd.results55, go_sem, f0, f1]) rfl FIN.out

/-- What oneC is, in numbers. -/
def okOne (op A B N : Int) : Prop :=
  1 ≤ op ∧ op ≤ 35 ∧ (op = 3 ∨ op = 4 ∨ op = 24 ∨ op = 27 ∨ op = 22 ∨ op = 23 → 0 ≤ A ∧ A ≤ 1) ∧ (op = 25 ∨ op = 26 → A = 0 ∧ 0 ≤ B ∧ B ≤ 1) ∧ (op = 28 ∨ op = 29 ∨ op = 30 → A = 0 ∨ A = 1) ∧ (op = 32 → A = 1)
  ∧ (op ≠ 3 ∧ op ≠ 4 ∧ op ≠ 22 ∧ op ≠ 23 ∧ op ≠ 24 ∧ op ≠ 25 ∧ op ≠ 26 ∧ op ≠ 27 ∧ op ≠ 28 ∧ op ≠ 29 ∧ op ≠ 30 ∧ op ≠ 32 → A = 0) ∧ (op ≠ 25 ∧ op ≠ 26 → B = 0) ∧ (op ≠ 1 → N = 0)

end Go.Proofs.YtjcklfbpdjfibaaDoor

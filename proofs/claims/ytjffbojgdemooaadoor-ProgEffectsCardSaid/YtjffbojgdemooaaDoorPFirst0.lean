/-
  The chapter's examples on programs: what lies in memory, what May answers there.
-/
import Derived.Test.YtjffbojgdemooaaDoorAllocs
namespace Go.Proofs.YtjffbojgdemooaaDoor
open Go.RowKit

def codeV (l : List (Int × Int × Int × Int)) : Array Value := (l.flatMap fun x => [Value.int .i64 x.1, .int .i64 x.2.1, .int .i64 x.2.2.1, .int .i64 x.2.2.2]).toArray
def gvL (l : List (Int × Int × Int × Int)) (i j : Nat) : Int := match j with
  | 0 => (l.getD i (0, 0, 0, 0)).1
  | 1 => (l.getD i (0, 0, 0, 0)).2.1
  | 2 => (l.getD i (0, 0, 0, 0)).2.2.1
  | _ => (l.getD i (0, 0, 0, 0)).2.2.2

theorem codeV_at : ∀ (l : List (Int × Int × Int × Int)) (i j : Nat), i < l.length → j < 4 → (codeV l)[i * 4 + j]? = some (.int .i64 (gvL l i j))
  | x :: l, 0, j, _, hj => by
    match j, hj with
    | 0, _ => simp [codeV, gvL]
    | 1, _ => simp [codeV, gvL]
    | 2, _ => simp [codeV, gvL]
    | 3, _ => simp [codeV, gvL]
  | x :: l, i + 1, j, hi, hj => by
    have h := codeV_at l i j (by simpa using hi) hj
    have e : (i + 1) * 4 + j = (i * 4 + j) + 4 := by omega
    rw [e]
    have e2 : gvL (x :: l) (i + 1) j = gvL l i j := by
      unfold gvL
      split <;> simp
    rw [e2, ← h]
    simp [codeV]

/-- A program of one method without parameters or locals, and no class: what May answers. -/
theorem may_one (a : Nat → Addr) (cb mb : Nat) (l : List (Int × Int × Int × Int)) (T1 T2 : TypeId) (n : Nat) (w : World) (h : Sents a w) (hl : l.length ≤ 120) (hl0 : l ≠ [])
    (hc : w.heap[cb]? = some (.cells (codeV l) T1 (0, 0)))
    (hm : w.heap[mb]? = some (.cells #[.string ⟨#[]⟩, .string ⟨#[]⟩, .string ⟨#[73]⟩, .slice (some ⟨cb, 0, none⟩) l.length l.length] T2 (0, 0)))
    (hn : n ≤ l.length) (hok : ∀ i, i < n → icOf 0 1 0 (fun _ => ⟨#[]⟩) l.length (gvL l) i = 0) (hbad : n < l.length → icOf 0 1 0 (fun _ => ⟨#[]⟩) l.length (gvL l) n ≠ 0) :
    Calls Tryd.prog 36 #[.agg #[.slice none 0 0, .slice (some ⟨mb, 0, none⟩) 1 1]] w (WherePost a (if n < l.length then some (icOf 0 1 0 (fun _ => ⟨#[]⟩) l.length (gvL l) n - 1, 0, (n : Int)) else none) w) := by
  have hlen : 0 < l.length := List.length_pos_iff.2 hl0
  have hh : headC (0 : Nat) 0 l.length = 0 := by rw [headC, if_neg (by omega)]
  have key := May_any a none 0 0 (some ⟨mb, 0, none⟩) 1 1 (fun _ => ⟨#[]⟩) 0 (if n < l.length then 0 else 1) (fun _ => 0) (fun _ => methW 0 0 l.length n (icOf 0 1 0 (fun _ => ⟨#[]⟩) l.length (gvL l))) w (by omega) (by omega) (by omega) (cls_nil w _) (fun i hi => absurd hi (Nat.not_lt_zero _)) (Nat.le_refl _) (fun _ _ => rfl) (fun h => absurd h (Nat.lt_irrefl _))
    (by
      intro i hi w' hb
      obtain rfl : i = 0 := by omega
      have hm' := (hb.block mb (Array.getElem?_eq_some_iff.1 hm).1).trans hm
      have hc' := (hb.block cb (Array.getElem?_eq_some_iff.1 hc).1).trans hc
      have r := meth_is a none 0 0 (fun _ => ⟨#[]⟩) mb 0 1 1 0 ⟨#[]⟩ ⟨#[]⟩ ⟨#[73]⟩ (some ⟨cb, 0, none⟩) l.length l.length (gvL l) n w' (h.below hb) (by omega) (by omega) (by omega) (by omega) (cls_nil w' _) (picks_of hc' (by omega) (fun i j hi hj => codeV_at l i j hi hj))
        ((cell_of_row w' mb 0 _ T2 (0, 0) hm').trans rfl) ((cell_of_row w' mb 1 _ T2 (0, 0) hm').trans rfl) ((cell_of_row w' mb 2 _ T2 (0, 0) hm').trans rfl) ((cell_of_row w' mb 3 _ T2 (0, 0) hm').trans rfl)
        (Nat.zero_le _) (Nat.zero_le _) fair_nil fair_nil (.inr rfl) (fun _ => rfl) hn hok hbad
      have e0 : headC (⟨#[]⟩ : ByteArray).size (⟨#[]⟩ : ByteArray).size l.length = 0 := hh
      rw [e0] at r
      exact r)
    (by split <;> omega)
    (by
      intro i hi
      split at hi
      · omega
      · rw [methW, if_neg (by simp), if_neg (by assumption)])
    (by
      intro hi
      split at hi
      · rename_i hlt
        rw [methW, if_neg (by simp), if_pos hlt]
        simp
      · omega)
  have e : progW 0 0 1 (if n < l.length then 0 else 1) (fun _ => 0) (fun _ => methW 0 0 l.length n (icOf 0 1 0 (fun _ => ⟨#[]⟩) l.length (gvL l))) = (if n < l.length then some (icOf 0 1 0 (fun _ => ⟨#[]⟩) l.length (gvL l) n - 1, 0, (n : Int)) else none) := by
    unfold progW
    rw [if_neg (by omega)]
    by_cases hlt : n < l.length
    · rw [if_pos hlt, if_pos (by omega), methW, if_neg (by simp), if_pos hlt, if_pos hlt]
      rfl
    · rw [if_neg hlt, if_neg (by omega), if_neg hlt]
  rw [e] at key
  exact key

end Go.Proofs.YtjffbojgdemooaaDoor

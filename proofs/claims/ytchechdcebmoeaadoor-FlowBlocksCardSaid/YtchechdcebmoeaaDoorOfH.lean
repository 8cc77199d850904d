/-
  flow.heads, by a contract.
-/
import Derived.Test.YtchechdcebmoeaaDoorOfP
import Derived.Test.YtchechdcebmoeaaDoorNxt
namespace Go.Proofs.YtchechdcebmoeaaDoor
open Go.RowKit

def addB (n : Nat) (f : Nat → Bool) (i : Int) : Nat → Bool := fun j => f j || (inB i n && decide (j = i.toNat))
/-- Which heads the k-th instruction tells. -/
def hdS (n : Nat) (f : Nat → Bool) (T A : Int) (k : Nat) : Nat → Bool :=
  if T = 22 ∨ T = 23 then addB n (addB n f A) ((k : Int) + 1) else if T = 33 then addB n f ((k : Int) + 1) else f
def hdF (n : Nat) (gv : Nat → Nat → Int) : Nat → (Nat → Bool)
  | 0 => addB n (fun _ => false) 0
  | k + 1 => hdS n (hdF n gv k) (gv k 0) (gv k 1) k

def HeadsPost (n : Nat) (gv : Nat → Nat → Int) (w : World) (e : Ending) (w' : World) : Prop :=
  ∃ s r, e = .returned (.pointer (some ⟨s, 0, none⟩)) ∧ SetF w.heap.size s r n (hdF n gv n) w' ∧ Below w.heap.size w w'

def HdRel (n : Nat) (gv : Nat → Nat → Int) (s r : Nat) (W : World) (s15 : Value) (wr : World) : Prop :=
  ∃ k : Nat, k ≤ n ∧ s15 = .int .i64 k ∧ SetF W.heap.size s r n (hdF n gv k) wr ∧ Below W.heap.size W wr

set_option maxHeartbeats 4000000 in
set_option maxRecDepth 100000 in
theorem heads_any (ps ls rt : ByteArray) (co : Option Addr) (len cap : Nat) (gv : Nat → Nat → Int) (w : World) (h : Picks w co len cap gv) (hl : len ≤ 140) :
    Calls Tryd.prog 105 #[.agg #[.string ps, .string ls, .string rt, .slice co len cap]] w (HeadsPost len gv w) := by
  have hb1 : Below w.heap.size w (w.alloc (.cells #[.string ps, .string ls, .string rt, .slice co len cap] 46)) := (Below.refl _ _).alloc (Nat.le_refl _) _
  have hnew := heap_alloc_new w (.cells #[.string ps, .string ls, .string rt, .slice co len cap] 46)
  have HP := Lib.hid h
  have K := Lib.hid (newF len (w.alloc (.cells #[.string ps, .string ls, .string rt, .slice co len cap] 46)) (by omega))
  have HB1 := Lib.hid hb1
  have HNEW := Lib.hid hnew
  clear h hb1 hnew
  go_enter Tryd.func105, Tryd.ntmps105
  go_wp2_with fail
  refine K.out.mono ?_
  rintro e w1 ⟨s, r, rfl, hs, hb⟩
  have HB2 := Lib.hid (HB1.out.trans (hb.mono (by rw [World.size_alloc]; omega)))
  have HNW : Hid (∀ w' : World, (∀ k, k < w1.heap.size → k ≠ r → w'.heap[k]? = w1.heap[k]?) → w'.cell? ⟨w.heap.size, 3, none⟩ = some (.slice co len cap)) := Lib.hid fun w' hk => by
    have h1 := (hb.block w.heap.size (by rw [World.size_alloc]; omega)).trans HNEW.out
    have hlt := (Array.getElem?_eq_some_iff.1 h1).1
    have := hs.lo.2
    rw [World.size_alloc] at this
    rw [cell_of_row w' w.heap.size 3 _ 46 (0, 0) ((hk _ hlt (by omega)).trans h1)]
    rfl
  have HSB := Lib.hid (hs.base (C := w.heap.size) (by rw [World.size_alloc]; omega))
  have KA := Lib.hid (addF 0 _ HSB.out)
  clear hs hb K
  go_wp2_with fail
  refine KA.out.mono ?_
  rintro e w2 ⟨rfl, hs2, hg2⟩
  have c3 := HNW.out w2 (fun k hk hkr => hg2.block k hk (fun e => hkr (Option.some.inj e)))
  have R0 : Hid (HdRel len gv s r w (.int .i64 0) w2) := Lib.hid ⟨0, Nat.zero_le _, rfl, hs2, below_own HB2.out hg2 HSB.out.lo.2⟩
  clear hs2 hg2 KA
  go_wp2_with fail
  go_loopw [15] (fun s15 wr => HdRel len gv s r w s15 wr) (fun s15 _ => len - (intOf s15).toNat)
  case atStart => exact R0.out
  case round =>
    clear R0
    obtain ⟨k, hk, rfl, hS, hB⟩ := hrel
    by_cases hlt : k < len
    · have t1 : decide (k < len) = true := by simpa using hlt
      obtain ⟨lb, lo, rfl, hlb, hc⟩ := Picks_at HP.out (by omega)
      have c0 := (hB.cell (p := ⟨lb, lo + (k * 4 + 0), none⟩) hlb).trans (hc k 0 hlt (by omega))
      have c1 := (hB.cell (p := ⟨lb, lo + (k * 4 + 1), none⟩) hlb).trans (hc k 1 hlt (by omega))
      have c2 := (hB.cell (p := ⟨lb, lo + (k * 4 + 2), none⟩) hlb).trans (hc k 2 hlt (by omega))
      have c3' := (hB.cell (p := ⟨lb, lo + (k * 4 + 3), none⟩) hlb).trans (hc k 3 hlt (by omega))
      rw [Nat.add_zero] at c0
      rw [← Nat.add_assoc] at c1 c2 c3'
      have HN : Hid (hdF len gv (k + 1) = hdS len (hdF len gv k) (gv k 0) (gv k 1) k) := Lib.hid rfl
      generalize hdF len gv k = f at *
      generalize gv k 0 = T at *
      generalize gv k 1 = A at *
      generalize gv k 2 = B at *
      generalize gv k 3 = N at *
      have hS1 := hS.kept (w' := wr.alloc (.cells #[.int .i64 T, .int .i64 A, .int .i64 B, .int .i64 N] 52)) (Below.heap_alloc _ _ _ hS.lt.1) (Below.heap_alloc _ _ _ hS.lt.2)
      have hB1 := hB.alloc hB.size (.cells #[.int .i64 T, .int .i64 A, .int .i64 B, .int .i64 N] 52)
      have HS := Lib.hid hS1
      have HBB := Lib.hid hB1
      have HR := Lib.hid hS.lo.2
      clear hS hB hS1 hB1 hc hlb
      by_cases h1 : T = 22 ∨ T = 23
      · have HF : Hid (hdS len f T A k = addB len (addB len f A) ((k : Int) + 1)) := Lib.hid (by unfold hdS; rw [if_pos h1])
        have K1 := Lib.hid (addF A _ HS.out)
        have two : ∀ w5 : World, SetF w.heap.size s r len (fun j => f j || (inB A len && decide (j = A.toNat))) w5 → Calls Tryd.prog 19 #[.pointer (some ⟨s, 0, none⟩), .int .i64 ((k : Int) + 1)] w5 (AddFPost w.heap.size s r len (fun j => f j || (inB A len && decide (j = A.toNat))) ((k : Int) + 1) w5) := fun w5 h5 => addF ((k : Int) + 1) _ h5
        have TWO := Lib.hid two
        clear two
        rcases h1 with rfl | rfl
        all_goals
          go_wp2_with fail
          refine K1.out.mono ?_
          rintro e w5 ⟨rfl, hs5, hg5⟩
          have K2 := Lib.hid (TWO.out w5 hs5)
          have HG5 := Lib.hid hg5
          clear hs5 hg5
          go_wp2_with fail
          refine K2.out.mono ?_
          rintro e w6 ⟨rfl, hs6, hg6⟩
          have FIN := Lib.hid (show SetF w.heap.size s r len (hdF len gv (k + 1)) w6 ∧ Below w.heap.size w w6 from ⟨by rw [HN.out, HF.out]; exact hs6, below_own (below_own HBB.out HG5.out HR.out) hg6 HR.out⟩)
          clear hs6 hg6
          go_wp2_with fail
          go_roundw
          case rel => exact ⟨k + 1, by omega, by go_num, FIN.out⟩
          case measure => simp [intOf]; omega
      · have t2 : (T == 22) = false := by simp; omega
        have t3 : (T == 23) = false := by simp; omega
        by_cases h2 : T = 33
        · have HF : Hid (hdS len f T A k = addB len f ((k : Int) + 1)) := Lib.hid (by unfold hdS; rw [if_neg h1, if_pos h2])
          have K1 := Lib.hid (addF ((k : Int) + 1) _ HS.out)
          clear h1 t2 t3
          subst h2
          go_wp2_with fail
          refine K1.out.mono ?_
          rintro e w5 ⟨rfl, hs5, hg5⟩
          have FIN := Lib.hid (show SetF w.heap.size s r len (hdF len gv (k + 1)) w5 ∧ Below w.heap.size w w5 from ⟨by rw [HN.out, HF.out]; exact hs5, below_own HBB.out hg5 HR.out⟩)
          clear hs5 hg5
          go_wp2_with fail
          go_roundw
          case rel => exact ⟨k + 1, by omega, by go_num, FIN.out⟩
          case measure => simp [intOf]; omega
        · have t4 : (T == 33) = false := by simpa using h2
          have HF : Hid (hdS len f T A k = f) := Lib.hid (by unfold hdS; rw [if_neg h1, if_neg h2])
          have FIN := Lib.hid (show SetF w.heap.size s r len (hdF len gv (k + 1)) (wr.alloc (.cells #[.int .i64 T, .int .i64 A, .int .i64 B, .int .i64 N] 52)) ∧ Below w.heap.size w (wr.alloc (.cells #[.int .i64 T, .int .i64 A, .int .i64 B, .int .i64 N] 52)) from ⟨by rw [HN.out, HF.out]; exact HS.out, HBB.out⟩)
          clear h1 h2
          go_wp2_with fail
          go_roundw
          case rel => exact ⟨k + 1, by omega, by go_num, FIN.out⟩
          case measure => simp [intOf]; omega
    · obtain rfl : k = len := by omega
      have t1 : decide (k < k) = false := by simp
      have FIN := Lib.hid hS
      have HBB := Lib.hid hB
      clear hS hB
      go_wp2_with fail
      go_ret
      exact ⟨s, r, rfl, FIN.out, HBB.out⟩

end Go.Proofs.YtchechdcebmoeaaDoor

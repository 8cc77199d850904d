/-
  Package prog: mayInstr, behind what named answers.
-/
import Derived.Test.YtjffbojgdemooaaDoorPrg2
import Derived.Test.YtjffbojgdemooaaDoorMayK
namespace Go.Proofs.YtjffbojgdemooaaDoor
open Go.RowKit

/-- What keeps an instruction from being one: 0 nothing; else the listed error's number and 1. nb: what it names is there. -/
def instrC (nb : Bool) (cl : Nat) (op A B N : Int) : Nat :=
  if op < 1 ∨ 35 < op then 2
  else if nb = false then 3
  else if (op = 22 ∨ op = 23) ∧ inside A cl = false then 4
  else if (useA op = false ∧ A ≠ 0) ∨ (useB op = false ∧ B ≠ 0) ∨ (useN op = false ∧ N ≠ 0) then 3
  else 0

theorem boxes3_cells {ca : Option Addr} {nc cc : Nat} {ma : Option Addr} {nm mc : Nat} {ps ls rt : ByteArray} {co : Option Addr} {cl cp : Nat} {op A B N : Int} {w W : World} (hW : boxes3 ca nc cc ma nm mc ps ls rt co cl cp op A B N w = W) :
    W.heap[w.heap.size + 1]? = some (.cells #[.string ps, .string ls, .string rt, .slice co cl cp] 62 (0, 0)) ∧ W.heap[w.heap.size + 1 + 1]? = some (.cells #[.int .i64 op, .int .i64 A, .int .i64 B, .int .i64 N] 67 (0, 0)) := by
  subst hW
  unfold boxes3
  refine ⟨?_, ?_⟩
  · rw [Below.heap_alloc _ _ _ (by simp)]
    have := heap_alloc_new (w.alloc (.cells #[.slice ca nc cc, .slice ma nm mc] 46)) (.cells #[.string ps, .string ls, .string rt, .slice co cl cp] 62)
    simpa using this
  · have := heap_alloc_new ((w.alloc (.cells #[.slice ca nc cc, .slice ma nm mc] 46)).alloc (.cells #[.string ps, .string ls, .string rt, .slice co cl cp] 62)) (.cells #[.int .i64 op, .int .i64 A, .int .i64 B, .int .i64 N] 67)
    simpa using this

theorem uses_ways (op : Int) : (useA op = true ∧ useB op = false ∧ useN op = false) ∨ (useA op = true ∧ useB op = true ∧ useN op = false) ∨ (useA op = false ∧ useB op = false ∧ useN op = true) ∨ (useA op = false ∧ useB op = false ∧ useN op = false) := by
  by_cases h : op = 25 ∨ op = 26
  · rcases h with rfl | rfl <;> decide
  · by_cases h1 : op = 1
    · subst h1; decide
    · have t1 : (op == 25) = false := by simp; omega
      have t2 : (op == 26) = false := by simp; omega
      have t3 : (op == 1) = false := by simpa using h1
      have e1 : useB op = false := by simp [useB, t1, t2]
      have e2 : useN op = false := by simp [useN, t3]
      rw [e1, e2]
      cases useA op <;> simp

def NamedIs (ca : Option Addr) (nc cc : Nat) (ma : Option Addr) (nm mc : Nat) (ps ls rt : ByteArray) (co : Option Addr) (cl cp : Nat) (op A B N : Int) (w : World) (nb : Bool) : Prop :=
  ∀ w', Below w.heap.size w w' → Calls Tryd.prog 110 #[.agg #[.slice ca nc cc, .slice ma nm mc], .agg #[.string ps, .string ls, .string rt, .slice co cl cp], .agg #[.int .i64 op, .int .i64 A, .int .i64 B, .int .i64 N]] w' (BoolPost nb w')

set_option maxHeartbeats 4000000 in
set_option maxRecDepth 100000 in
theorem mayInstr_any (a : Nat → Addr) (ca : Option Addr) (nc cc : Nat) (ma : Option Addr) (nm mc : Nat) (ps ls rt : ByteArray) (co : Option Addr) (cl cp : Nat) (op A B N : Int) (w : World) (nb : Bool) (h : Sents a w) (hN : NamedIs ca nc cc ma nm mc ps ls rt co cl cp op A B N w nb) :
    Calls Tryd.prog 153 #[.agg #[.slice ca nc cc, .slice ma nm mc], .agg #[.string ps, .string ls, .string rt, .slice co cl cp], .agg #[.int .i64 op, .int .i64 A, .int .i64 B, .int .i64 N]] w (MayPost a (instrC nb cl op A B N) w) := by
  have hbl := boxes3_below ca nc cc ma nm mc ps ls rt co cl cp op A B N w
  obtain ⟨W, hW⟩ : ∃ W, boxes3 ca nc cc ma nm mc ps ls rt co cl cp op A B N w = W := ⟨_, rfl⟩
  obtain ⟨q1, q2⟩ := boxes3_cells hW
  rw [hW] at hbl
  have hS := h.below hbl
  have c1 := hS.c1
  have HB := Lib.hid hbl
  have HS := Lib.hid hS
  have HN := Lib.hid (hN W hbl)
  have hlt : w.heap.size + 1 + 1 < W.heap.size := (Array.getElem?_eq_some_iff.1 q2).1
  have KEEP : Hid (∀ w1, Below W.heap.size W w1 → w1.heap[w.heap.size + 1]? = some (.cells #[.string ps, .string ls, .string rt, .slice co cl cp] 62 (0, 0)) ∧ w1.heap[w.heap.size + 1 + 1]? = some (.cells #[.int .i64 op, .int .i64 A, .int .i64 B, .int .i64 N] 67 (0, 0))) := Lib.hid fun w1 hb1 => ⟨(hb1.block _ (by omega)).trans q1, (hb1.block _ hlt).trans q2⟩
  unfold boxes3 at hW
  clear h hbl hN hS q1 q2 hlt
  subst hW
  by_cases h1 : op < 1 ∨ 35 < op
  · have hc : instrC nb cl op A B N = 2 := by rw [instrC, if_pos h1]
    have he : errV a 2 = .iface 272 (.pointer (some (a 1))) := rfl
    unfold MayPost
    rw [hc, he]
    obtain ⟨x1, e1⟩ : ∃ x, a 1 = x := ⟨_, rfl⟩
    rw [e1] at c1 ⊢
    clear e1 hc he HS HN KEEP
    rcases h1 with h1 | h1
    · have t1 : decide (op < 1) = true := by simpa using h1
      go_enter Tryd.func153, Tryd.ntmps153
      go_wp2
      go_ret
      exact ⟨rfl, HB.out⟩
    · have t1 : decide (op < 1) = false := by simp; omega
      have t2 : decide (35 < op) = true := by simpa using h1
      go_enter Tryd.func153, Tryd.ntmps153
      go_wp2
      go_ret
      exact ⟨rfl, HB.out⟩
  · have t1 : decide (op < 1) = false := by simp; omega
    have t2 : decide (35 < op) = false := by simp; omega
    cases nb with
    | false =>
      have hc : instrC false cl op A B N = 3 := by rw [instrC, if_neg h1, if_pos rfl]
      have he : errV a 3 = .iface 272 (.pointer (some (a 2))) := rfl
      unfold MayPost
      rw [hc, he]
      obtain ⟨x2, e2⟩ : ∃ x, a 2 = x := ⟨_, rfl⟩
      rw [e2]
      have E2 := Lib.hid e2
      clear c1 h1 hc he KEEP e2
      go_enter Tryd.func153, Tryd.ntmps153
      go_wp2_with fail
      refine HN.out.mono ?_
      rintro e w1 ⟨rfl, hb1⟩
      have c2 := (HS.out.below hb1).c2
      have HB1 := Lib.hid (HB.out.trans (hb1.mono HB.out.size))
      rw [E2.out] at c2
      clear hb1
      go_wp2
      go_ret
      exact ⟨rfl, HB1.out⟩
    | true =>
      have H1 := Lib.hid h1
      clear c1 h1
      go_enter Tryd.func153, Tryd.ntmps153
      go_wp2_with fail
      refine HN.out.mono ?_
      rintro e w1 ⟨rfl, hb1⟩
      have c2 := (HS.out.below hb1).c2
      have c3 := (HS.out.below hb1).c3
      obtain ⟨k1, k2⟩ := KEEP.out w1 hb1
      have HB1 := Lib.hid (HB.out.trans (hb1.mono HB.out.size))
      obtain ⟨x2, e2⟩ : ∃ x, a 2 = x := ⟨_, rfl⟩
      obtain ⟨x3, e3⟩ : ∃ x, a 3 = x := ⟨_, rfl⟩
      have fin3 : Hid (instrC true cl op A B N = 3 → MayPost a (instrC true cl op A B N) w (.returned (.iface 272 (.pointer (some x2)))) w1) := Lib.hid fun h => ⟨by rw [h, ← e2]; rfl, HB1.out⟩
      have fin4 : Hid (instrC true cl op A B N = 4 → MayPost a (instrC true cl op A B N) w (.returned (.iface 272 (.pointer (some x3)))) w1) := Lib.hid fun h => ⟨by rw [h, ← e3]; rfl, HB1.out⟩
      have fin0 : Hid (instrC true cl op A B N = 0 → MayPost a (instrC true cl op A B N) w (.returned .nilIface) w1) := Lib.hid fun h => ⟨by rw [h]; rfl, HB1.out⟩
      have m3 : w1.cell? ⟨w.heap.size + 1, 3, none⟩ = some (.slice co cl cp) := (cell_of_row _ _ 3 _ 62 (0, 0) k1).trans rfl
      have i0 : w1.cell? ⟨w.heap.size + 1 + 1, 0, none⟩ = some (.int .i64 op) := (cell_of_row _ _ 0 _ 67 (0, 0) k2).trans rfl
      have i1 : w1.cell? ⟨w.heap.size + 1 + 1, 1, none⟩ = some (.int .i64 A) := (cell_of_row _ _ 1 _ 67 (0, 0) k2).trans rfl
      have i2 : w1.cell? ⟨w.heap.size + 1 + 1, 2, none⟩ = some (.int .i64 B) := (cell_of_row _ _ 2 _ 67 (0, 0) k2).trans rfl
      have i3 : w1.cell? ⟨w.heap.size + 1 + 1, 3, none⟩ = some (.int .i64 N) := (cell_of_row _ _ 3 _ 67 (0, 0) k2).trans rfl
      rw [e2] at c2
      rw [e3] at c3
      have USE : Hid (∀ x, Calls Tryd.prog 190 #[.int .i64 x] w1 fun e w' => e = .returned (.tuple #[.bool (useA x), .bool (useB x), .bool (useN x)]) ∧ w1 = w') := Lib.hid fun x => uses_any x w1
      clear hb1 HN HS KEEP HB e2 e3 k1 k2 HB1
      by_cases hj : op = 22 ∨ op = 23
      · obtain ⟨v, hv⟩ : ∃ v, inside A cl = v := ⟨_, rfl⟩
        have HV := Lib.hid hv
        have WI : Hid (Calls Tryd.prog 109 #[.int .i64 A, .int .i64 cl] w1 fun e w' => e = .returned (.bool v) ∧ w1 = w') := Lib.hid (by rw [← hv]; exact within_any A cl w1)
        clear hv
        rcases hj with rfl | rfl
        all_goals
          cases v
          · go_wp2_with (go_at_call 109; refine WI.out.mono ?_; rintro e w' ⟨rfl, rfl⟩)
            go_ret
            exact fin4.out (by rw [instrC, if_neg H1.out, if_neg (by simp), if_pos ⟨by simp, HV.out⟩])
          · go_wp2_with (first | (go_at_call 109; refine WI.out.mono ?_; rintro e w' ⟨rfl, rfl⟩) | (go_at_call 190; refine (USE.out _).mono ?_; rintro e w' ⟨rfl, rfl⟩))
            all_goals
              go_ret
              first
                | exact fin3.out (by rw [instrC, if_neg H1.out, if_neg (by simp), if_neg (by rw [HV.out]; simp), if_pos (by simp_all [useA, useB, useN])])
                | exact fin0.out (by rw [instrC, if_neg H1.out, if_neg (by simp), if_neg (by rw [HV.out]; simp), if_neg (by simp_all [useA, useB, useN])])
      · have t3 : (op == 22) = false := by simp; omega
        have t4 : (op == 23) = false := by simp; omega
        have HJ := Lib.hid hj
        have hu := uses_ways op
        have U := USE.out op
        obtain ⟨ua, ha⟩ : ∃ x, useA op = x := ⟨_, rfl⟩
        obtain ⟨ub, hb⟩ : ∃ x, useB op = x := ⟨_, rfl⟩
        obtain ⟨un, hn⟩ : ∃ x, useN op = x := ⟨_, rfl⟩
        rw [ha, hb, hn] at hu U
        have UU := Lib.hid U
        have HA := Lib.hid ha
        have HBB := Lib.hid hb
        have HNN := Lib.hid hn
        clear USE U ha hb hn hj
        rcases hu with ⟨rfl, rfl, rfl⟩ | ⟨rfl, rfl, rfl⟩ | ⟨rfl, rfl, rfl⟩ | ⟨rfl, rfl, rfl⟩
        all_goals
          go_wp2_with (go_at_call 190; refine UU.out.mono ?_; rintro e w' ⟨rfl, rfl⟩)
          all_goals
            go_ret
            first
              | exact fin3.out (by rw [instrC, if_neg H1.out, if_neg (by simp), if_neg (fun h => HJ.out h.1), if_pos (by rw [HA.out, HBB.out, HNN.out]; simp_all)])
              | exact fin0.out (by rw [instrC, if_neg H1.out, if_neg (by simp), if_neg (fun h => HJ.out h.1), if_neg (by rw [HA.out, HBB.out, HNN.out]; simp_all)])

end Go.Proofs.YtjffbojgdemooaaDoor

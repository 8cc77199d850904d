/-
  The document's instr: why an instruction may not be. (Written by genrf.py.)
-/
import Derived.Test.YtjffbojgdemooaaDoorRfA
import Derived.Test.YtjffbojgdemooaaDoorPrg3
import Derived.Outline
namespace Go.Proofs.YtjffbojgdemooaaDoor
open Go.RowKit

/-- A fault's number. -/
def icode (c : Nat) : Int := if c = 0 then 0 else ((100 + c : Nat) : Int)
def RInt (r : Int) (w : World) (e : Ending) (w' : World) : Prop := e = .returned (.int .i64 r) ∧ Below w.heap.size w w'

section
variable {nb : Bool} {cl : Nat} {op A B N : Int}
theorem ic_kind (h : op < 1 ∨ 35 < op) : icode (instrC nb cl op A B N) = 102 := by rw [instrC, if_pos h]; rfl
theorem ic_named (h : ¬ (op < 1 ∨ 35 < op)) (hn : nb = false) : icode (instrC nb cl op A B N) = 103 := by rw [instrC, if_neg h, if_pos hn]; rfl
theorem ic_target (h : ¬ (op < 1 ∨ 35 < op)) (hn : nb = true) (hj : op = 22 ∨ op = 23) (ha : inside A cl = false) : icode (instrC nb cl op A B N) = 104 := by
  rw [instrC, if_neg h, if_neg (by rw [hn]; decide), if_pos ⟨hj, ha⟩]; rfl
theorem ic_use (h : ¬ (op < 1 ∨ 35 < op)) (hn : nb = true) (hj : ¬ ((op = 22 ∨ op = 23) ∧ inside A cl = false)) (hu : (useA op = false ∧ A ≠ 0) ∨ (useB op = false ∧ B ≠ 0) ∨ (useN op = false ∧ N ≠ 0)) : icode (instrC nb cl op A B N) = 103 := by
  rw [instrC, if_neg h, if_neg (by rw [hn]; decide), if_neg hj, if_pos hu]; rfl
theorem ic_fine (h : ¬ (op < 1 ∨ 35 < op)) (hn : nb = true) (hj : ¬ ((op = 22 ∨ op = 23) ∧ inside A cl = false)) (hu : ¬ ((useA op = false ∧ A ≠ 0) ∨ (useB op = false ∧ B ≠ 0) ∨ (useN op = false ∧ N ≠ 0))) : icode (instrC nb cl op A B N) = 0 := by
  rw [instrC, if_neg h, if_neg (by rw [hn]; decide), if_neg hj, if_neg hu]; rfl
end

theorem in_yes {i n : Int} (h0 : 0 ≤ i) (h1 : i < n) : inside i n = true := by simp [inside, h0, h1]
theorem in_no {i n : Int} (h : i < 0 ∨ n ≤ i) : inside i n = false := by simp [inside]; omega

theorem icleaf {r R : Int} {nb : Bool} {cl : Nat} {op A B N : Int} (hR : Hid (icode (instrC nb cl op A B N) = R)) (h : icode (instrC nb cl op A B N) = r) : Ending.returned (.int .i64 r) = Ending.returned (.int .i64 R) := by rw [← h, hR.out]

/-- What lies in the three boxes. -/
theorem boxes3_all {ca : Option Addr} {nc cc : Nat} {ma : Option Addr} {nm mc : Nat} {ps ls rt : ByteArray} {co : Option Addr} {cl cp : Nat} {op A B N : Int} {w W : World} (hW : boxes3 ca nc cc ma nm mc ps ls rt co cl cp op A B N w = W) :
    (W.cell? ⟨w.heap.size, 0, none⟩ = some (.slice ca nc cc) ∧ W.cell? ⟨w.heap.size, 1, none⟩ = some (.slice ma nm mc)) ∧
    (W.cell? ⟨w.heap.size + 1, 0, none⟩ = some (.string ps) ∧ W.cell? ⟨w.heap.size + 1, 1, none⟩ = some (.string ls) ∧ W.cell? ⟨w.heap.size + 1, 3, none⟩ = some (.slice co cl cp)) ∧
    W.cell? ⟨w.heap.size + 1 + 1, 0, none⟩ = some (.int .i64 op) ∧ W.cell? ⟨w.heap.size + 1 + 1, 1, none⟩ = some (.int .i64 A) ∧ W.cell? ⟨w.heap.size + 1 + 1, 2, none⟩ = some (.int .i64 B) ∧ W.cell? ⟨w.heap.size + 1 + 1, 3, none⟩ = some (.int .i64 N) := by
  obtain ⟨q1, q2⟩ := boxes3_cells hW
  have q0 : W.heap[w.heap.size]? = some (.cells #[.slice ca nc cc, .slice ma nm mc] 46 (0, 0)) := by
    rw [← hW]; unfold boxes3
    rw [Below.heap_alloc _ _ _ (by simp; omega), Below.heap_alloc _ _ _ (by simp)]
    exact heap_alloc_new w _
  exact ⟨⟨(cell_of_row _ _ 0 _ 46 (0, 0) q0).trans rfl, (cell_of_row _ _ 1 _ 46 (0, 0) q0).trans rfl⟩,
    ⟨(cell_of_row _ _ 0 _ 62 (0, 0) q1).trans rfl, (cell_of_row _ _ 1 _ 62 (0, 0) q1).trans rfl, (cell_of_row _ _ 3 _ 62 (0, 0) q1).trans rfl⟩,
    (cell_of_row _ _ 0 _ 67 (0, 0) q2).trans rfl, (cell_of_row _ _ 1 _ 67 (0, 0) q2).trans rfl, (cell_of_row _ _ 2 _ 67 (0, 0) q2).trans rfl, (cell_of_row _ _ 3 _ 67 (0, 0) q2).trans rfl⟩

set_option maxHeartbeats 4000000 in
set_option maxRecDepth 100000 in
theorem rinstr_kind (ca : Option Addr) (nc cc : Nat) (ma : Option Addr) (nm mc : Nat) (f : Nat → ByteArray) (ps ls rt : ByteArray) (co : Option Addr) (cl cp : Nat) (op A B N : Int) (w : World) (h1 : ps.size ≤ 1000000) (h2 : ls.size ≤ 1000000) (_h3 : nc ≤ 1000000) (hC : Cls w ca nc cc f) (hop : op < 1 ∨ 35 < op) :
    Calls Tryd.prog 102 #[.agg #[.slice ca nc cc, .slice ma nm mc], .agg #[.string ps, .string ls, .string rt, .slice co cl cp], .agg #[.int .i64 op, .int .i64 A, .int .i64 B, .int .i64 N]] w (RInt (icode (instrC (namedB nc nm ((ps.size : Int) + ls.size) (fun i => (f i).size) op A B) cl op A B N)) w) := by
  have hb := boxes3_below ca nc cc ma nm mc ps ls rt co cl cp op A B N w
  obtain ⟨W, hW⟩ : ∃ W, boxes3 ca nc cc ma nm mc ps ls rt co cl cp op A B N w = W := ⟨_, rfl⟩
  obtain ⟨⟨p0, p1⟩, ⟨m0, m1, m3⟩, i0, i1, i2, i3⟩ := boxes3_all hW
  rw [hW] at hb
  have HC := Lib.hid (hC.below hb)
  have HB := Lib.hid hb
  unfold boxes3 at hW
  clear hb hC
  obtain ⟨R, hR⟩ : ∃ R, icode (instrC (namedB nc nm ((ps.size : Int) + ls.size) (fun i => (f i).size) op A B) cl op A B N) = R := ⟨_, rfl⟩
  have HR := Lib.hid hR
  rw [hR]
  clear hR
  rcases hop with h | h
  · have t1 : decide (op < 1) = true := by simpa using h
    go_enter Tryd.func102, Tryd.ntmps102
    go_wp2_with fail
    go_ret
    exact ⟨icleaf HR (ic_kind (.inl h)), HB.out⟩
  · have t1 : decide (op < 1) = false := by simp; omega
    have t2 : decide (35 < op) = true := by simpa using h
    go_enter Tryd.func102, Tryd.ntmps102
    go_wp2_with fail
    go_ret
    exact ⟨icleaf HR (ic_kind (.inr h)), HB.out⟩

set_option maxHeartbeats 4000000 in
set_option maxRecDepth 100000 in
theorem rinstr_ls (ca : Option Addr) (nc cc : Nat) (ma : Option Addr) (nm mc : Nat) (f : Nat → ByteArray) (ps ls rt : ByteArray) (co : Option Addr) (cl cp : Nat) (op A B N : Int) (w : World) (h1 : ps.size ≤ 1000000) (h2 : ls.size ≤ 1000000) (_h3 : nc ≤ 1000000) (hC : Cls w ca nc cc f) (hop : op = 3 ∨ op = 4) :
    Calls Tryd.prog 102 #[.agg #[.slice ca nc cc, .slice ma nm mc], .agg #[.string ps, .string ls, .string rt, .slice co cl cp], .agg #[.int .i64 op, .int .i64 A, .int .i64 B, .int .i64 N]] w (RInt (icode (instrC (namedB nc nm ((ps.size : Int) + ls.size) (fun i => (f i).size) op A B) cl op A B N)) w) := by
  have hb := boxes3_below ca nc cc ma nm mc ps ls rt co cl cp op A B N w
  obtain ⟨W, hW⟩ : ∃ W, boxes3 ca nc cc ma nm mc ps ls rt co cl cp op A B N w = W := ⟨_, rfl⟩
  obtain ⟨⟨p0, p1⟩, ⟨m0, m1, m3⟩, i0, i1, i2, i3⟩ := boxes3_all hW
  rw [hW] at hb
  have HC := Lib.hid (hC.below hb)
  have HB := Lib.hid hb
  unfold boxes3 at hW
  clear hb hC
  obtain ⟨R, hR⟩ : ∃ R, icode (instrC (namedB nc nm ((ps.size : Int) + ls.size) (fun i => (f i).size) op A B) cl op A B N) = R := ⟨_, rfl⟩
  have HR := Lib.hid hR
  rw [hR]
  clear hR
  rcases hop with rfl | rfl
  · have UA : Hid (∀ w, Calls Tryd.prog 155 #[.int .i64 3] w fun e w' => e = .returned (.bool true) ∧ w = w') := Lib.hid fun w => rusesA_any _ w
    have UB : Hid (∀ w, Calls Tryd.prog 154 #[.int .i64 3] w fun e w' => e = .returned (.bool false) ∧ w = w') := Lib.hid fun w => rusesB_any _ w
    go_enter Tryd.func102, Tryd.ntmps102
    go_wp2_with (first | (go_at_call 155; refine (UA.out _).mono ?_; rintro e w' ⟨rfl, rfl⟩) | (go_at_call 154; refine (UB.out _).mono ?_; rintro e w' ⟨rfl, rfl⟩))
    all_goals
      go_ret
      try simp only [bne_iff_ne, bne_eq_false_iff_eq, ne_eq] at *
      first
        | exact ⟨icleaf HR (ic_named (by omega) (in_no (by omega))), by first | exact HB.out | exact below_drewN HB.out _⟩
        | exact ⟨icleaf HR (ic_use (by omega) (in_yes (by omega) (by omega)) (by rintro ⟨h, _⟩; omega) (by simp [useA, useB, useN]; omega)), by first | exact HB.out | exact below_drewN HB.out _⟩
        | exact ⟨icleaf HR (ic_fine (by omega) (in_yes (by omega) (by omega)) (by rintro ⟨h, _⟩; omega) (by simp [useA, useB, useN]; omega)), by first | exact HB.out | exact below_drewN HB.out _⟩
  · have UA : Hid (∀ w, Calls Tryd.prog 155 #[.int .i64 4] w fun e w' => e = .returned (.bool true) ∧ w = w') := Lib.hid fun w => rusesA_any _ w
    have UB : Hid (∀ w, Calls Tryd.prog 154 #[.int .i64 4] w fun e w' => e = .returned (.bool false) ∧ w = w') := Lib.hid fun w => rusesB_any _ w
    go_enter Tryd.func102, Tryd.ntmps102
    go_wp2_with (first | (go_at_call 155; refine (UA.out _).mono ?_; rintro e w' ⟨rfl, rfl⟩) | (go_at_call 154; refine (UB.out _).mono ?_; rintro e w' ⟨rfl, rfl⟩))
    all_goals
      go_ret
      try simp only [bne_iff_ne, bne_eq_false_iff_eq, ne_eq] at *
      first
        | exact ⟨icleaf HR (ic_named (by omega) (in_no (by omega))), by first | exact HB.out | exact below_drewN HB.out _⟩
        | exact ⟨icleaf HR (ic_use (by omega) (in_yes (by omega) (by omega)) (by rintro ⟨h, _⟩; omega) (by simp [useA, useB, useN]; omega)), by first | exact HB.out | exact below_drewN HB.out _⟩
        | exact ⟨icleaf HR (ic_fine (by omega) (in_yes (by omega) (by omega)) (by rintro ⟨h, _⟩; omega) (by simp [useA, useB, useN]; omega)), by first | exact HB.out | exact below_drewN HB.out _⟩

set_option maxHeartbeats 4000000 in
set_option maxRecDepth 100000 in
theorem rinstr_arr (ca : Option Addr) (nc cc : Nat) (ma : Option Addr) (nm mc : Nat) (f : Nat → ByteArray) (ps ls rt : ByteArray) (co : Option Addr) (cl cp : Nat) (op A B N : Int) (w : World) (h1 : ps.size ≤ 1000000) (h2 : ls.size ≤ 1000000) (_h3 : nc ≤ 1000000) (hC : Cls w ca nc cc f) (hop : op = 28 ∨ op = 29 ∨ op = 30) :
    Calls Tryd.prog 102 #[.agg #[.slice ca nc cc, .slice ma nm mc], .agg #[.string ps, .string ls, .string rt, .slice co cl cp], .agg #[.int .i64 op, .int .i64 A, .int .i64 B, .int .i64 N]] w (RInt (icode (instrC (namedB nc nm ((ps.size : Int) + ls.size) (fun i => (f i).size) op A B) cl op A B N)) w) := by
  have hb := boxes3_below ca nc cc ma nm mc ps ls rt co cl cp op A B N w
  obtain ⟨W, hW⟩ : ∃ W, boxes3 ca nc cc ma nm mc ps ls rt co cl cp op A B N w = W := ⟨_, rfl⟩
  obtain ⟨⟨p0, p1⟩, ⟨m0, m1, m3⟩, i0, i1, i2, i3⟩ := boxes3_all hW
  rw [hW] at hb
  have HC := Lib.hid (hC.below hb)
  have HB := Lib.hid hb
  unfold boxes3 at hW
  clear hb hC
  obtain ⟨R, hR⟩ : ∃ R, icode (instrC (namedB nc nm ((ps.size : Int) + ls.size) (fun i => (f i).size) op A B) cl op A B N) = R := ⟨_, rfl⟩
  have HR := Lib.hid hR
  rw [hR]
  clear hR
  rcases hop with rfl | rfl | rfl
  · have UA : Hid (∀ w, Calls Tryd.prog 155 #[.int .i64 28] w fun e w' => e = .returned (.bool true) ∧ w = w') := Lib.hid fun w => rusesA_any _ w
    have UB : Hid (∀ w, Calls Tryd.prog 154 #[.int .i64 28] w fun e w' => e = .returned (.bool false) ∧ w = w') := Lib.hid fun w => rusesB_any _ w
    go_enter Tryd.func102, Tryd.ntmps102
    go_wp2_with (first | (go_at_call 155; refine (UA.out _).mono ?_; rintro e w' ⟨rfl, rfl⟩) | (go_at_call 154; refine (UB.out _).mono ?_; rintro e w' ⟨rfl, rfl⟩))
    all_goals
      go_ret
      try simp only [bne_iff_ne, bne_eq_false_iff_eq, ne_eq] at *
      first
        | exact ⟨icleaf HR (ic_named (by omega) (in_no (by omega))), by first | exact HB.out | exact below_drewN HB.out _⟩
        | exact ⟨icleaf HR (ic_use (by omega) (in_yes (by omega) (by omega)) (by rintro ⟨h, _⟩; omega) (by simp [useA, useB, useN]; omega)), by first | exact HB.out | exact below_drewN HB.out _⟩
        | exact ⟨icleaf HR (ic_fine (by omega) (in_yes (by omega) (by omega)) (by rintro ⟨h, _⟩; omega) (by simp [useA, useB, useN]; omega)), by first | exact HB.out | exact below_drewN HB.out _⟩
  · have UA : Hid (∀ w, Calls Tryd.prog 155 #[.int .i64 29] w fun e w' => e = .returned (.bool true) ∧ w = w') := Lib.hid fun w => rusesA_any _ w
    have UB : Hid (∀ w, Calls Tryd.prog 154 #[.int .i64 29] w fun e w' => e = .returned (.bool false) ∧ w = w') := Lib.hid fun w => rusesB_any _ w
    go_enter Tryd.func102, Tryd.ntmps102
    go_wp2_with (first | (go_at_call 155; refine (UA.out _).mono ?_; rintro e w' ⟨rfl, rfl⟩) | (go_at_call 154; refine (UB.out _).mono ?_; rintro e w' ⟨rfl, rfl⟩))
    all_goals
      go_ret
      try simp only [bne_iff_ne, bne_eq_false_iff_eq, ne_eq] at *
      first
        | exact ⟨icleaf HR (ic_named (by omega) (in_no (by omega))), by first | exact HB.out | exact below_drewN HB.out _⟩
        | exact ⟨icleaf HR (ic_use (by omega) (in_yes (by omega) (by omega)) (by rintro ⟨h, _⟩; omega) (by simp [useA, useB, useN]; omega)), by first | exact HB.out | exact below_drewN HB.out _⟩
        | exact ⟨icleaf HR (ic_fine (by omega) (in_yes (by omega) (by omega)) (by rintro ⟨h, _⟩; omega) (by simp [useA, useB, useN]; omega)), by first | exact HB.out | exact below_drewN HB.out _⟩
  · have UA : Hid (∀ w, Calls Tryd.prog 155 #[.int .i64 30] w fun e w' => e = .returned (.bool true) ∧ w = w') := Lib.hid fun w => rusesA_any _ w
    have UB : Hid (∀ w, Calls Tryd.prog 154 #[.int .i64 30] w fun e w' => e = .returned (.bool false) ∧ w = w') := Lib.hid fun w => rusesB_any _ w
    go_enter Tryd.func102, Tryd.ntmps102
    go_wp2_with (first | (go_at_call 155; refine (UA.out _).mono ?_; rintro e w' ⟨rfl, rfl⟩) | (go_at_call 154; refine (UB.out _).mono ?_; rintro e w' ⟨rfl, rfl⟩))
    all_goals
      go_ret
      try simp only [bne_iff_ne, bne_eq_false_iff_eq, ne_eq] at *
      first
        | exact ⟨icleaf HR (ic_named (by omega) (in_no (by omega))), by first | exact HB.out | exact below_drewN HB.out _⟩
        | exact ⟨icleaf HR (ic_use (by omega) (in_yes (by omega) (by omega)) (by rintro ⟨h, _⟩; omega) (by simp [useA, useB, useN]; omega)), by first | exact HB.out | exact below_drewN HB.out _⟩
        | exact ⟨icleaf HR (ic_fine (by omega) (in_yes (by omega) (by omega)) (by rintro ⟨h, _⟩; omega) (by simp [useA, useB, useN]; omega)), by first | exact HB.out | exact below_drewN HB.out _⟩

set_option maxHeartbeats 4000000 in
set_option maxRecDepth 100000 in
theorem rinstr_call (ca : Option Addr) (nc cc : Nat) (ma : Option Addr) (nm mc : Nat) (f : Nat → ByteArray) (ps ls rt : ByteArray) (co : Option Addr) (cl cp : Nat) (op A B N : Int) (w : World) (h1 : ps.size ≤ 1000000) (h2 : ls.size ≤ 1000000) (_h3 : nc ≤ 1000000) (hC : Cls w ca nc cc f) (hop : op = 32) :
    Calls Tryd.prog 102 #[.agg #[.slice ca nc cc, .slice ma nm mc], .agg #[.string ps, .string ls, .string rt, .slice co cl cp], .agg #[.int .i64 op, .int .i64 A, .int .i64 B, .int .i64 N]] w (RInt (icode (instrC (namedB nc nm ((ps.size : Int) + ls.size) (fun i => (f i).size) op A B) cl op A B N)) w) := by
  have hb := boxes3_below ca nc cc ma nm mc ps ls rt co cl cp op A B N w
  obtain ⟨W, hW⟩ : ∃ W, boxes3 ca nc cc ma nm mc ps ls rt co cl cp op A B N w = W := ⟨_, rfl⟩
  obtain ⟨⟨p0, p1⟩, ⟨m0, m1, m3⟩, i0, i1, i2, i3⟩ := boxes3_all hW
  rw [hW] at hb
  have HC := Lib.hid (hC.below hb)
  have HB := Lib.hid hb
  unfold boxes3 at hW
  clear hb hC
  obtain ⟨R, hR⟩ : ∃ R, icode (instrC (namedB nc nm ((ps.size : Int) + ls.size) (fun i => (f i).size) op A B) cl op A B N) = R := ⟨_, rfl⟩
  have HR := Lib.hid hR
  rw [hR]
  clear hR
  subst hop
  · have UA : Hid (∀ w, Calls Tryd.prog 155 #[.int .i64 32] w fun e w' => e = .returned (.bool true) ∧ w = w') := Lib.hid fun w => rusesA_any _ w
    have UB : Hid (∀ w, Calls Tryd.prog 154 #[.int .i64 32] w fun e w' => e = .returned (.bool false) ∧ w = w') := Lib.hid fun w => rusesB_any _ w
    go_enter Tryd.func102, Tryd.ntmps102
    go_wp2_with (first | (go_at_call 155; refine (UA.out _).mono ?_; rintro e w' ⟨rfl, rfl⟩) | (go_at_call 154; refine (UB.out _).mono ?_; rintro e w' ⟨rfl, rfl⟩))
    all_goals
      go_ret
      try simp only [bne_iff_ne, bne_eq_false_iff_eq, ne_eq] at *
      first
        | exact ⟨icleaf HR (ic_named (by omega) (by simp [namedB]; omega)), by first | exact HB.out | exact below_drewN HB.out _⟩
        | exact ⟨icleaf HR (ic_use (by omega) (by simp [namedB]; omega) (by rintro ⟨h, _⟩; omega) (by simp [useA, useB, useN]; omega)), by first | exact HB.out | exact below_drewN HB.out _⟩
        | exact ⟨icleaf HR (ic_fine (by omega) (by simp [namedB]; omega) (by rintro ⟨h, _⟩; omega) (by simp [useA, useB, useN]; omega)), by first | exact HB.out | exact below_drewN HB.out _⟩

set_option maxHeartbeats 4000000 in
set_option maxRecDepth 100000 in
theorem rinstr_jump (ca : Option Addr) (nc cc : Nat) (ma : Option Addr) (nm mc : Nat) (f : Nat → ByteArray) (ps ls rt : ByteArray) (co : Option Addr) (cl cp : Nat) (op A B N : Int) (w : World) (h1 : ps.size ≤ 1000000) (h2 : ls.size ≤ 1000000) (_h3 : nc ≤ 1000000) (hC : Cls w ca nc cc f) (hop : op = 22 ∨ op = 23) :
    Calls Tryd.prog 102 #[.agg #[.slice ca nc cc, .slice ma nm mc], .agg #[.string ps, .string ls, .string rt, .slice co cl cp], .agg #[.int .i64 op, .int .i64 A, .int .i64 B, .int .i64 N]] w (RInt (icode (instrC (namedB nc nm ((ps.size : Int) + ls.size) (fun i => (f i).size) op A B) cl op A B N)) w) := by
  have hb := boxes3_below ca nc cc ma nm mc ps ls rt co cl cp op A B N w
  obtain ⟨W, hW⟩ : ∃ W, boxes3 ca nc cc ma nm mc ps ls rt co cl cp op A B N w = W := ⟨_, rfl⟩
  obtain ⟨⟨p0, p1⟩, ⟨m0, m1, m3⟩, i0, i1, i2, i3⟩ := boxes3_all hW
  rw [hW] at hb
  have HC := Lib.hid (hC.below hb)
  have HB := Lib.hid hb
  unfold boxes3 at hW
  clear hb hC
  obtain ⟨R, hR⟩ : ∃ R, icode (instrC (namedB nc nm ((ps.size : Int) + ls.size) (fun i => (f i).size) op A B) cl op A B N) = R := ⟨_, rfl⟩
  have HR := Lib.hid hR
  rw [hR]
  clear hR
  rcases hop with rfl | rfl
  · have UA : Hid (∀ w, Calls Tryd.prog 155 #[.int .i64 22] w fun e w' => e = .returned (.bool true) ∧ w = w') := Lib.hid fun w => rusesA_any _ w
    have UB : Hid (∀ w, Calls Tryd.prog 154 #[.int .i64 22] w fun e w' => e = .returned (.bool false) ∧ w = w') := Lib.hid fun w => rusesB_any _ w
    go_enter Tryd.func102, Tryd.ntmps102
    go_wp2_with (first | (go_at_call 155; refine (UA.out _).mono ?_; rintro e w' ⟨rfl, rfl⟩) | (go_at_call 154; refine (UB.out _).mono ?_; rintro e w' ⟨rfl, rfl⟩))
    all_goals
      go_ret
      try simp only [bne_iff_ne, bne_eq_false_iff_eq, ne_eq] at *
      first
        | exact ⟨icleaf HR (ic_target (by omega) rfl (by omega) (in_no (by omega))), by first | exact HB.out | exact below_drewN HB.out _⟩
        | exact ⟨icleaf HR (ic_use (by omega) (rfl) (by rintro ⟨_, h⟩; rw [in_yes (by omega) (by omega)] at h; cases h) (by simp [useA, useB, useN]; omega)), by first | exact HB.out | exact below_drewN HB.out _⟩
        | exact ⟨icleaf HR (ic_fine (by omega) (rfl) (by rintro ⟨_, h⟩; rw [in_yes (by omega) (by omega)] at h; cases h) (by simp [useA, useB, useN]; omega)), by first | exact HB.out | exact below_drewN HB.out _⟩
  · have UA : Hid (∀ w, Calls Tryd.prog 155 #[.int .i64 23] w fun e w' => e = .returned (.bool true) ∧ w = w') := Lib.hid fun w => rusesA_any _ w
    have UB : Hid (∀ w, Calls Tryd.prog 154 #[.int .i64 23] w fun e w' => e = .returned (.bool false) ∧ w = w') := Lib.hid fun w => rusesB_any _ w
    go_enter Tryd.func102, Tryd.ntmps102
    go_wp2_with (first | (go_at_call 155; refine (UA.out _).mono ?_; rintro e w' ⟨rfl, rfl⟩) | (go_at_call 154; refine (UB.out _).mono ?_; rintro e w' ⟨rfl, rfl⟩))
    all_goals
      go_ret
      try simp only [bne_iff_ne, bne_eq_false_iff_eq, ne_eq] at *
      first
        | exact ⟨icleaf HR (ic_target (by omega) rfl (by omega) (in_no (by omega))), by first | exact HB.out | exact below_drewN HB.out _⟩
        | exact ⟨icleaf HR (ic_use (by omega) (rfl) (by rintro ⟨_, h⟩; rw [in_yes (by omega) (by omega)] at h; cases h) (by simp [useA, useB, useN]; omega)), by first | exact HB.out | exact below_drewN HB.out _⟩
        | exact ⟨icleaf HR (ic_fine (by omega) (rfl) (by rintro ⟨_, h⟩; rw [in_yes (by omega) (by omega)] at h; cases h) (by simp [useA, useB, useN]; omega)), by first | exact HB.out | exact below_drewN HB.out _⟩

set_option maxHeartbeats 4000000 in
set_option maxRecDepth 100000 in
theorem rinstr_cls (ca : Option Addr) (nc cc : Nat) (ma : Option Addr) (nm mc : Nat) (f : Nat → ByteArray) (ps ls rt : ByteArray) (co : Option Addr) (cl cp : Nat) (op A B N : Int) (w : World) (h1 : ps.size ≤ 1000000) (h2 : ls.size ≤ 1000000) (h3 : nc ≤ 1000000) (hC : Cls w ca nc cc f) (hop : op = 24 ∨ op = 27) :
    Calls Tryd.prog 102 #[.agg #[.slice ca nc cc, .slice ma nm mc], .agg #[.string ps, .string ls, .string rt, .slice co cl cp], .agg #[.int .i64 op, .int .i64 A, .int .i64 B, .int .i64 N]] w (RInt (icode (instrC (namedB nc nm ((ps.size : Int) + ls.size) (fun i => (f i).size) op A B) cl op A B N)) w) := by
  have hb := boxes3_below ca nc cc ma nm mc ps ls rt co cl cp op A B N w
  obtain ⟨W, hW⟩ : ∃ W, boxes3 ca nc cc ma nm mc ps ls rt co cl cp op A B N w = W := ⟨_, rfl⟩
  obtain ⟨⟨p0, p1⟩, ⟨m0, m1, m3⟩, i0, i1, i2, i3⟩ := boxes3_all hW
  rw [hW] at hb
  have HC := Lib.hid (hC.below hb)
  have HB := Lib.hid hb
  unfold boxes3 at hW
  clear hb hC
  obtain ⟨R, hR⟩ : ∃ R, icode (instrC (namedB nc nm ((ps.size : Int) + ls.size) (fun i => (f i).size) op A B) cl op A B N) = R := ⟨_, rfl⟩
  have HR := Lib.hid hR
  rw [hR]
  clear hR
  rcases hop with rfl | rfl
  · have UA : Hid (∀ w, Calls Tryd.prog 155 #[.int .i64 24] w fun e w' => e = .returned (.bool true) ∧ w = w') := Lib.hid fun w => rusesA_any _ w
    have UB : Hid (∀ w, Calls Tryd.prog 154 #[.int .i64 24] w fun e w' => e = .returned (.bool false) ∧ w = w') := Lib.hid fun w => rusesB_any _ w
    have K : ∀ nq, Hid (Calls Tryd.prog 154 #[.int .i64 24] (W.drewN nq) fun e w' => e = .returned (.bool false) ∧ w' = W.drewN nq) := fun nq => Lib.hid ((UB.out _).mono (by rintro e w' ⟨h, rfl⟩; exact ⟨h, rfl⟩))
    by_cases hA0 : A < 0
    · have t1 : decide (A < 0) = true := by simpa using hA0
      go_enter Tryd.func102, Tryd.ntmps102
      go_wp2_with fail
      go_quiet ((go_at_call 154; exact Calls.quiet_of_same (K _).out))
      go_wp2_with (first | (go_at_call 155; refine (UA.out _).mono ?_; rintro e w' ⟨rfl, rfl⟩) | (go_at_call 154; refine (UB.out _).mono ?_; rintro e w' ⟨rfl, rfl⟩))
      all_goals
        go_ret
        try simp only at *
        first
          | exact ⟨icleaf HR (ic_named (by omega) (in_no (by omega))), by first | exact HB.out | exact below_drewN HB.out _⟩
          | exact ⟨icleaf HR (ic_use (by omega) (in_yes (by omega) (by omega)) (by rintro ⟨h, _⟩; omega) (by simp [useA, useB, useN]; omega)), by first | exact HB.out | exact below_drewN HB.out _⟩
          | exact ⟨icleaf HR (ic_fine (by omega) (in_yes (by omega) (by omega)) (by rintro ⟨h, _⟩; omega) (by simp [useA, useB, useN]; omega)), by first | exact HB.out | exact below_drewN HB.out _⟩
    · have t1 : decide (A < 0) = false := by simp; omega
      obtain ⟨k, rfl⟩ : ∃ k : Nat, A = k := ⟨A.toNat, by omega⟩
      by_cases hA1 : k < nc
      · obtain ⟨b, off, rfl, hblt, hc⟩ := Cls_at HC.out (by omega)
        have hck := hc k hA1
        have t2 : decide (nc ≤ k) = false := by simp; omega
        have t2' : decide ((nc : Int) ≤ (k : Int)) = false := by simp; omega
        clear hc
        go_enter Tryd.func102, Tryd.ntmps102
        go_wp2_with fail
        go_quiet ((go_at_call 154; exact Calls.quiet_of_same (K _).out))
        go_wp2_with (first | (go_at_call 155; refine (UA.out _).mono ?_; rintro e w' ⟨rfl, rfl⟩) | (go_at_call 154; refine (UB.out _).mono ?_; rintro e w' ⟨rfl, rfl⟩))
        all_goals
          go_ret
          try simp only [bne_iff_ne, bne_eq_false_iff_eq, ne_eq] at *
          first
            | exact ⟨icleaf HR (ic_named (by omega) (in_no (by omega))), by first | exact HB.out | exact below_drewN HB.out _⟩
            | exact ⟨icleaf HR (ic_use (by omega) (in_yes (by omega) (by omega)) (by rintro ⟨h, _⟩; omega) (by simp [useA, useB, useN]; omega)), by first | exact HB.out | exact below_drewN HB.out _⟩
            | exact ⟨icleaf HR (ic_fine (by omega) (in_yes (by omega) (by omega)) (by rintro ⟨h, _⟩; omega) (by simp [useA, useB, useN]; omega)), by first | exact HB.out | exact below_drewN HB.out _⟩
      · have t2 : decide (nc ≤ k) = true := by simp; omega
        have t2' : decide ((nc : Int) ≤ (k : Int)) = true := by simp; omega
        go_enter Tryd.func102, Tryd.ntmps102
        go_wp2_with fail
        go_quiet ((go_at_call 154; exact Calls.quiet_of_same (K _).out))
        go_wp2_with (first | (go_at_call 155; refine (UA.out _).mono ?_; rintro e w' ⟨rfl, rfl⟩) | (go_at_call 154; refine (UB.out _).mono ?_; rintro e w' ⟨rfl, rfl⟩))
        all_goals
          go_ret
          try simp only at *
          first
            | exact ⟨icleaf HR (ic_named (by omega) (in_no (by omega))), by first | exact HB.out | exact below_drewN HB.out _⟩
            | exact ⟨icleaf HR (ic_use (by omega) (in_yes (by omega) (by omega)) (by rintro ⟨h, _⟩; omega) (by simp [useA, useB, useN]; omega)), by first | exact HB.out | exact below_drewN HB.out _⟩
            | exact ⟨icleaf HR (ic_fine (by omega) (in_yes (by omega) (by omega)) (by rintro ⟨h, _⟩; omega) (by simp [useA, useB, useN]; omega)), by first | exact HB.out | exact below_drewN HB.out _⟩
  · have UA : Hid (∀ w, Calls Tryd.prog 155 #[.int .i64 27] w fun e w' => e = .returned (.bool true) ∧ w = w') := Lib.hid fun w => rusesA_any _ w
    have UB : Hid (∀ w, Calls Tryd.prog 154 #[.int .i64 27] w fun e w' => e = .returned (.bool false) ∧ w = w') := Lib.hid fun w => rusesB_any _ w
    have K : ∀ nq, Hid (Calls Tryd.prog 154 #[.int .i64 27] (W.drewN nq) fun e w' => e = .returned (.bool false) ∧ w' = W.drewN nq) := fun nq => Lib.hid ((UB.out _).mono (by rintro e w' ⟨h, rfl⟩; exact ⟨h, rfl⟩))
    by_cases hA0 : A < 0
    · have t1 : decide (A < 0) = true := by simpa using hA0
      go_enter Tryd.func102, Tryd.ntmps102
      go_wp2_with fail
      go_quiet ((go_at_call 154; exact Calls.quiet_of_same (K _).out))
      go_wp2_with (first | (go_at_call 155; refine (UA.out _).mono ?_; rintro e w' ⟨rfl, rfl⟩) | (go_at_call 154; refine (UB.out _).mono ?_; rintro e w' ⟨rfl, rfl⟩))
      all_goals
        go_ret
        try simp only at *
        first
          | exact ⟨icleaf HR (ic_named (by omega) (in_no (by omega))), by first | exact HB.out | exact below_drewN HB.out _⟩
          | exact ⟨icleaf HR (ic_use (by omega) (in_yes (by omega) (by omega)) (by rintro ⟨h, _⟩; omega) (by simp [useA, useB, useN]; omega)), by first | exact HB.out | exact below_drewN HB.out _⟩
          | exact ⟨icleaf HR (ic_fine (by omega) (in_yes (by omega) (by omega)) (by rintro ⟨h, _⟩; omega) (by simp [useA, useB, useN]; omega)), by first | exact HB.out | exact below_drewN HB.out _⟩
    · have t1 : decide (A < 0) = false := by simp; omega
      obtain ⟨k, rfl⟩ : ∃ k : Nat, A = k := ⟨A.toNat, by omega⟩
      by_cases hA1 : k < nc
      · obtain ⟨b, off, rfl, hblt, hc⟩ := Cls_at HC.out (by omega)
        have hck := hc k hA1
        have t2 : decide (nc ≤ k) = false := by simp; omega
        have t2' : decide ((nc : Int) ≤ (k : Int)) = false := by simp; omega
        clear hc
        go_enter Tryd.func102, Tryd.ntmps102
        go_wp2_with fail
        go_quiet ((go_at_call 154; exact Calls.quiet_of_same (K _).out))
        go_wp2_with (first | (go_at_call 155; refine (UA.out _).mono ?_; rintro e w' ⟨rfl, rfl⟩) | (go_at_call 154; refine (UB.out _).mono ?_; rintro e w' ⟨rfl, rfl⟩))
        all_goals
          go_ret
          try simp only [bne_iff_ne, bne_eq_false_iff_eq, ne_eq] at *
          first
            | exact ⟨icleaf HR (ic_named (by omega) (in_no (by omega))), by first | exact HB.out | exact below_drewN HB.out _⟩
            | exact ⟨icleaf HR (ic_use (by omega) (in_yes (by omega) (by omega)) (by rintro ⟨h, _⟩; omega) (by simp [useA, useB, useN]; omega)), by first | exact HB.out | exact below_drewN HB.out _⟩
            | exact ⟨icleaf HR (ic_fine (by omega) (in_yes (by omega) (by omega)) (by rintro ⟨h, _⟩; omega) (by simp [useA, useB, useN]; omega)), by first | exact HB.out | exact below_drewN HB.out _⟩
      · have t2 : decide (nc ≤ k) = true := by simp; omega
        have t2' : decide ((nc : Int) ≤ (k : Int)) = true := by simp; omega
        go_enter Tryd.func102, Tryd.ntmps102
        go_wp2_with fail
        go_quiet ((go_at_call 154; exact Calls.quiet_of_same (K _).out))
        go_wp2_with (first | (go_at_call 155; refine (UA.out _).mono ?_; rintro e w' ⟨rfl, rfl⟩) | (go_at_call 154; refine (UB.out _).mono ?_; rintro e w' ⟨rfl, rfl⟩))
        all_goals
          go_ret
          try simp only at *
          first
            | exact ⟨icleaf HR (ic_named (by omega) (in_no (by omega))), by first | exact HB.out | exact below_drewN HB.out _⟩
            | exact ⟨icleaf HR (ic_use (by omega) (in_yes (by omega) (by omega)) (by rintro ⟨h, _⟩; omega) (by simp [useA, useB, useN]; omega)), by first | exact HB.out | exact below_drewN HB.out _⟩
            | exact ⟨icleaf HR (ic_fine (by omega) (in_yes (by omega) (by omega)) (by rintro ⟨h, _⟩; omega) (by simp [useA, useB, useN]; omega)), by first | exact HB.out | exact below_drewN HB.out _⟩

set_option maxHeartbeats 4000000 in
set_option maxRecDepth 100000 in
theorem rinstr_fld (ca : Option Addr) (nc cc : Nat) (ma : Option Addr) (nm mc : Nat) (f : Nat → ByteArray) (ps ls rt : ByteArray) (co : Option Addr) (cl cp : Nat) (op A B N : Int) (w : World) (h1 : ps.size ≤ 1000000) (h2 : ls.size ≤ 1000000) (h3 : nc ≤ 1000000) (hC : Cls w ca nc cc f) (hop : op = 25 ∨ op = 26) :
    Calls Tryd.prog 102 #[.agg #[.slice ca nc cc, .slice ma nm mc], .agg #[.string ps, .string ls, .string rt, .slice co cl cp], .agg #[.int .i64 op, .int .i64 A, .int .i64 B, .int .i64 N]] w (RInt (icode (instrC (namedB nc nm ((ps.size : Int) + ls.size) (fun i => (f i).size) op A B) cl op A B N)) w) := by
  have hb := boxes3_below ca nc cc ma nm mc ps ls rt co cl cp op A B N w
  obtain ⟨W, hW⟩ : ∃ W, boxes3 ca nc cc ma nm mc ps ls rt co cl cp op A B N w = W := ⟨_, rfl⟩
  obtain ⟨⟨p0, p1⟩, ⟨m0, m1, m3⟩, i0, i1, i2, i3⟩ := boxes3_all hW
  rw [hW] at hb
  have HC := Lib.hid (hC.below hb)
  have HB := Lib.hid hb
  unfold boxes3 at hW
  clear hb hC
  obtain ⟨R, hR⟩ : ∃ R, icode (instrC (namedB nc nm ((ps.size : Int) + ls.size) (fun i => (f i).size) op A B) cl op A B N) = R := ⟨_, rfl⟩
  have HR := Lib.hid hR
  rw [hR]
  clear hR
  rcases hop with rfl | rfl
  · have UA : Hid (∀ w, Calls Tryd.prog 155 #[.int .i64 25] w fun e w' => e = .returned (.bool true) ∧ w = w') := Lib.hid fun w => rusesA_any _ w
    have UB : Hid (∀ w, Calls Tryd.prog 154 #[.int .i64 25] w fun e w' => e = .returned (.bool true) ∧ w = w') := Lib.hid fun w => rusesB_any _ w
    have K : ∀ nq, Hid (Calls Tryd.prog 154 #[.int .i64 25] (W.drewN nq) fun e w' => e = .returned (.bool true) ∧ w' = W.drewN nq) := fun nq => Lib.hid ((UB.out _).mono (by rintro e w' ⟨h, rfl⟩; exact ⟨h, rfl⟩))
    by_cases hA0 : A < 0
    · have t1 : decide (A < 0) = true := by simpa using hA0
      have HNB : Hid (∀ x y, (namedB nc nm x y 25 A B) = (inside A nc && inside B (y A.toNat))) := Lib.hid fun x y => rfl
      go_enter Tryd.func102, Tryd.ntmps102
      go_wp2_with fail
      go_quiet ((go_at_call 154; exact Calls.quiet_of_same (K _).out))
      go_wp2_with (first | (go_at_call 155; refine (UA.out _).mono ?_; rintro e w' ⟨rfl, rfl⟩) | (go_at_call 154; refine (UB.out _).mono ?_; rintro e w' ⟨rfl, rfl⟩))
      all_goals
        go_ret
        try simp only at *
        first
          | exact ⟨icleaf HR (ic_named (by omega) (by rw [HNB.out]; simp [inside]; omega)), by first | exact HB.out | exact below_drewN HB.out _⟩
          | exact ⟨icleaf HR (ic_use (by omega) (by rw [HNB.out]; simp [inside]; omega) (by rintro ⟨h, _⟩; omega) (by simp [useA, useB, useN]; omega)), by first | exact HB.out | exact below_drewN HB.out _⟩
          | exact ⟨icleaf HR (ic_fine (by omega) (by rw [HNB.out]; simp [inside]; omega) (by rintro ⟨h, _⟩; omega) (by simp [useA, useB, useN]; omega)), by first | exact HB.out | exact below_drewN HB.out _⟩
    · have t1 : decide (A < 0) = false := by simp; omega
      obtain ⟨k, rfl⟩ : ∃ k : Nat, A = k := ⟨A.toNat, by omega⟩
      by_cases hA1 : k < nc
      · obtain ⟨b, off, rfl, hblt, hc⟩ := Cls_at HC.out (by omega)
        have hck := hc k hA1
        have t2 : decide (nc ≤ k) = false := by simp; omega
        have t2' : decide ((nc : Int) ≤ (k : Int)) = false := by simp; omega
        obtain ⟨s, hs⟩ : ∃ s, f k = s := ⟨_, rfl⟩
        rw [hs] at hck
        have HNB : Hid (namedB nc nm ((ps.size : Int) + ls.size) (fun i => (f i).size) 25 k B = (inside k nc && inside B s.size)) := Lib.hid (by rw [← hs]; rfl)
        clear hc hs
        by_cases hB0 : B < 0
        · have t3 : decide (B < 0) = true := by simpa using hB0
          go_enter Tryd.func102, Tryd.ntmps102
          go_wp2_with fail
          go_quiet ((go_at_call 154; exact Calls.quiet_of_same (K _).out))
          go_wp2_with (first | (go_at_call 155; refine (UA.out _).mono ?_; rintro e w' ⟨rfl, rfl⟩) | (go_at_call 154; refine (UB.out _).mono ?_; rintro e w' ⟨rfl, rfl⟩))
          all_goals
            go_ret
            try simp only at *
            first
              | exact ⟨icleaf HR (ic_named (by omega) (by rw [HNB.out]; simp [inside]; omega)), by first | exact HB.out | exact below_drewN HB.out _⟩
              | exact ⟨icleaf HR (ic_use (by omega) (by rw [HNB.out]; simp [inside]; omega) (by rintro ⟨h, _⟩; omega) (by simp [useA, useB, useN]; omega)), by first | exact HB.out | exact below_drewN HB.out _⟩
              | exact ⟨icleaf HR (ic_fine (by omega) (by rw [HNB.out]; simp [inside]; omega) (by rintro ⟨h, _⟩; omega) (by simp [useA, useB, useN]; omega)), by first | exact HB.out | exact below_drewN HB.out _⟩
        · have t3 : decide (B < 0) = false := by simp; omega
          by_cases hB1 : (s.size : Int) ≤ B
          · have t4 : decide ((s.size : Int) ≤ B) = true := by simpa using hB1
            go_enter Tryd.func102, Tryd.ntmps102
            go_wp2_with fail
            go_quiet ((go_at_call 154; exact Calls.quiet_of_same (K _).out))
            go_wp2_with (first | (go_at_call 155; refine (UA.out _).mono ?_; rintro e w' ⟨rfl, rfl⟩) | (go_at_call 154; refine (UB.out _).mono ?_; rintro e w' ⟨rfl, rfl⟩))
            all_goals
              go_ret
              try simp only at *
              first
                | exact ⟨icleaf HR (ic_named (by omega) (by rw [HNB.out]; simp [inside]; omega)), by first | exact HB.out | exact below_drewN HB.out _⟩
                | exact ⟨icleaf HR (ic_use (by omega) (by rw [HNB.out]; simp [inside]; omega) (by rintro ⟨h, _⟩; omega) (by simp [useA, useB, useN]; omega)), by first | exact HB.out | exact below_drewN HB.out _⟩
                | exact ⟨icleaf HR (ic_fine (by omega) (by rw [HNB.out]; simp [inside]; omega) (by rintro ⟨h, _⟩; omega) (by simp [useA, useB, useN]; omega)), by first | exact HB.out | exact below_drewN HB.out _⟩
          · have t4 : decide ((s.size : Int) ≤ B) = false := by simp; omega
            go_enter Tryd.func102, Tryd.ntmps102
            go_wp2_with fail
            go_quiet ((go_at_call 154; exact Calls.quiet_of_same (K _).out))
            go_wp2_with (first | (go_at_call 155; refine (UA.out _).mono ?_; rintro e w' ⟨rfl, rfl⟩) | (go_at_call 154; refine (UB.out _).mono ?_; rintro e w' ⟨rfl, rfl⟩))
            all_goals
              go_ret
              try simp only [bne_iff_ne, bne_eq_false_iff_eq, ne_eq] at *
              first
                | exact ⟨icleaf HR (ic_named (by omega) (by rw [HNB.out]; simp [inside]; omega)), by first | exact HB.out | exact below_drewN HB.out _⟩
                | exact ⟨icleaf HR (ic_use (by omega) (by rw [HNB.out]; simp [inside]; omega) (by rintro ⟨h, _⟩; omega) (by simp [useA, useB, useN]; omega)), by first | exact HB.out | exact below_drewN HB.out _⟩
                | exact ⟨icleaf HR (ic_fine (by omega) (by rw [HNB.out]; simp [inside]; omega) (by rintro ⟨h, _⟩; omega) (by simp [useA, useB, useN]; omega)), by first | exact HB.out | exact below_drewN HB.out _⟩
      · have t2 : decide (nc ≤ k) = true := by simp; omega
        have t2' : decide ((nc : Int) ≤ (k : Int)) = true := by simp; omega
        have HNB : Hid (∀ x y, (namedB nc nm x y 25 k B) = (inside k nc && inside B (y ((k : Nat) : Int).toNat))) := Lib.hid fun x y => rfl
        go_enter Tryd.func102, Tryd.ntmps102
        go_wp2_with fail
        go_quiet ((go_at_call 154; exact Calls.quiet_of_same (K _).out))
        go_wp2_with (first | (go_at_call 155; refine (UA.out _).mono ?_; rintro e w' ⟨rfl, rfl⟩) | (go_at_call 154; refine (UB.out _).mono ?_; rintro e w' ⟨rfl, rfl⟩))
        all_goals
          go_ret
          try simp only at *
          first
            | exact ⟨icleaf HR (ic_named (by omega) (by rw [HNB.out]; simp [inside]; omega)), by first | exact HB.out | exact below_drewN HB.out _⟩
            | exact ⟨icleaf HR (ic_use (by omega) (by rw [HNB.out]; simp [inside]; omega) (by rintro ⟨h, _⟩; omega) (by simp [useA, useB, useN]; omega)), by first | exact HB.out | exact below_drewN HB.out _⟩
            | exact ⟨icleaf HR (ic_fine (by omega) (by rw [HNB.out]; simp [inside]; omega) (by rintro ⟨h, _⟩; omega) (by simp [useA, useB, useN]; omega)), by first | exact HB.out | exact below_drewN HB.out _⟩
  · have UA : Hid (∀ w, Calls Tryd.prog 155 #[.int .i64 26] w fun e w' => e = .returned (.bool true) ∧ w = w') := Lib.hid fun w => rusesA_any _ w
    have UB : Hid (∀ w, Calls Tryd.prog 154 #[.int .i64 26] w fun e w' => e = .returned (.bool true) ∧ w = w') := Lib.hid fun w => rusesB_any _ w
    have K : ∀ nq, Hid (Calls Tryd.prog 154 #[.int .i64 26] (W.drewN nq) fun e w' => e = .returned (.bool true) ∧ w' = W.drewN nq) := fun nq => Lib.hid ((UB.out _).mono (by rintro e w' ⟨h, rfl⟩; exact ⟨h, rfl⟩))
    by_cases hA0 : A < 0
    · have t1 : decide (A < 0) = true := by simpa using hA0
      have HNB : Hid (∀ x y, (namedB nc nm x y 26 A B) = (inside A nc && inside B (y A.toNat))) := Lib.hid fun x y => rfl
      go_enter Tryd.func102, Tryd.ntmps102
      go_wp2_with fail
      go_quiet ((go_at_call 154; exact Calls.quiet_of_same (K _).out))
      go_wp2_with (first | (go_at_call 155; refine (UA.out _).mono ?_; rintro e w' ⟨rfl, rfl⟩) | (go_at_call 154; refine (UB.out _).mono ?_; rintro e w' ⟨rfl, rfl⟩))
      all_goals
        go_ret
        try simp only at *
        first
          | exact ⟨icleaf HR (ic_named (by omega) (by rw [HNB.out]; simp [inside]; omega)), by first | exact HB.out | exact below_drewN HB.out _⟩
          | exact ⟨icleaf HR (ic_use (by omega) (by rw [HNB.out]; simp [inside]; omega) (by rintro ⟨h, _⟩; omega) (by simp [useA, useB, useN]; omega)), by first | exact HB.out | exact below_drewN HB.out _⟩
          | exact ⟨icleaf HR (ic_fine (by omega) (by rw [HNB.out]; simp [inside]; omega) (by rintro ⟨h, _⟩; omega) (by simp [useA, useB, useN]; omega)), by first | exact HB.out | exact below_drewN HB.out _⟩
    · have t1 : decide (A < 0) = false := by simp; omega
      obtain ⟨k, rfl⟩ : ∃ k : Nat, A = k := ⟨A.toNat, by omega⟩
      by_cases hA1 : k < nc
      · obtain ⟨b, off, rfl, hblt, hc⟩ := Cls_at HC.out (by omega)
        have hck := hc k hA1
        have t2 : decide (nc ≤ k) = false := by simp; omega
        have t2' : decide ((nc : Int) ≤ (k : Int)) = false := by simp; omega
        obtain ⟨s, hs⟩ : ∃ s, f k = s := ⟨_, rfl⟩
        rw [hs] at hck
        have HNB : Hid (namedB nc nm ((ps.size : Int) + ls.size) (fun i => (f i).size) 26 k B = (inside k nc && inside B s.size)) := Lib.hid (by rw [← hs]; rfl)
        clear hc hs
        by_cases hB0 : B < 0
        · have t3 : decide (B < 0) = true := by simpa using hB0
          go_enter Tryd.func102, Tryd.ntmps102
          go_wp2_with fail
          go_quiet ((go_at_call 154; exact Calls.quiet_of_same (K _).out))
          go_wp2_with (first | (go_at_call 155; refine (UA.out _).mono ?_; rintro e w' ⟨rfl, rfl⟩) | (go_at_call 154; refine (UB.out _).mono ?_; rintro e w' ⟨rfl, rfl⟩))
          all_goals
            go_ret
            try simp only at *
            first
              | exact ⟨icleaf HR (ic_named (by omega) (by rw [HNB.out]; simp [inside]; omega)), by first | exact HB.out | exact below_drewN HB.out _⟩
              | exact ⟨icleaf HR (ic_use (by omega) (by rw [HNB.out]; simp [inside]; omega) (by rintro ⟨h, _⟩; omega) (by simp [useA, useB, useN]; omega)), by first | exact HB.out | exact below_drewN HB.out _⟩
              | exact ⟨icleaf HR (ic_fine (by omega) (by rw [HNB.out]; simp [inside]; omega) (by rintro ⟨h, _⟩; omega) (by simp [useA, useB, useN]; omega)), by first | exact HB.out | exact below_drewN HB.out _⟩
        · have t3 : decide (B < 0) = false := by simp; omega
          by_cases hB1 : (s.size : Int) ≤ B
          · have t4 : decide ((s.size : Int) ≤ B) = true := by simpa using hB1
            go_enter Tryd.func102, Tryd.ntmps102
            go_wp2_with fail
            go_quiet ((go_at_call 154; exact Calls.quiet_of_same (K _).out))
            go_wp2_with (first | (go_at_call 155; refine (UA.out _).mono ?_; rintro e w' ⟨rfl, rfl⟩) | (go_at_call 154; refine (UB.out _).mono ?_; rintro e w' ⟨rfl, rfl⟩))
            all_goals
              go_ret
              try simp only at *
              first
                | exact ⟨icleaf HR (ic_named (by omega) (by rw [HNB.out]; simp [inside]; omega)), by first | exact HB.out | exact below_drewN HB.out _⟩
                | exact ⟨icleaf HR (ic_use (by omega) (by rw [HNB.out]; simp [inside]; omega) (by rintro ⟨h, _⟩; omega) (by simp [useA, useB, useN]; omega)), by first | exact HB.out | exact below_drewN HB.out _⟩
                | exact ⟨icleaf HR (ic_fine (by omega) (by rw [HNB.out]; simp [inside]; omega) (by rintro ⟨h, _⟩; omega) (by simp [useA, useB, useN]; omega)), by first | exact HB.out | exact below_drewN HB.out _⟩
          · have t4 : decide ((s.size : Int) ≤ B) = false := by simp; omega
            go_enter Tryd.func102, Tryd.ntmps102
            go_wp2_with fail
            go_quiet ((go_at_call 154; exact Calls.quiet_of_same (K _).out))
            go_wp2_with (first | (go_at_call 155; refine (UA.out _).mono ?_; rintro e w' ⟨rfl, rfl⟩) | (go_at_call 154; refine (UB.out _).mono ?_; rintro e w' ⟨rfl, rfl⟩))
            all_goals
              go_ret
              try simp only [bne_iff_ne, bne_eq_false_iff_eq, ne_eq] at *
              first
                | exact ⟨icleaf HR (ic_named (by omega) (by rw [HNB.out]; simp [inside]; omega)), by first | exact HB.out | exact below_drewN HB.out _⟩
                | exact ⟨icleaf HR (ic_use (by omega) (by rw [HNB.out]; simp [inside]; omega) (by rintro ⟨h, _⟩; omega) (by simp [useA, useB, useN]; omega)), by first | exact HB.out | exact below_drewN HB.out _⟩
                | exact ⟨icleaf HR (ic_fine (by omega) (by rw [HNB.out]; simp [inside]; omega) (by rintro ⟨h, _⟩; omega) (by simp [useA, useB, useN]; omega)), by first | exact HB.out | exact below_drewN HB.out _⟩
      · have t2 : decide (nc ≤ k) = true := by simp; omega
        have t2' : decide ((nc : Int) ≤ (k : Int)) = true := by simp; omega
        have HNB : Hid (∀ x y, (namedB nc nm x y 26 k B) = (inside k nc && inside B (y ((k : Nat) : Int).toNat))) := Lib.hid fun x y => rfl
        go_enter Tryd.func102, Tryd.ntmps102
        go_wp2_with fail
        go_quiet ((go_at_call 154; exact Calls.quiet_of_same (K _).out))
        go_wp2_with (first | (go_at_call 155; refine (UA.out _).mono ?_; rintro e w' ⟨rfl, rfl⟩) | (go_at_call 154; refine (UB.out _).mono ?_; rintro e w' ⟨rfl, rfl⟩))
        all_goals
          go_ret
          try simp only at *
          first
            | exact ⟨icleaf HR (ic_named (by omega) (by rw [HNB.out]; simp [inside]; omega)), by first | exact HB.out | exact below_drewN HB.out _⟩
            | exact ⟨icleaf HR (ic_use (by omega) (by rw [HNB.out]; simp [inside]; omega) (by rintro ⟨h, _⟩; omega) (by simp [useA, useB, useN]; omega)), by first | exact HB.out | exact below_drewN HB.out _⟩
            | exact ⟨icleaf HR (ic_fine (by omega) (by rw [HNB.out]; simp [inside]; omega) (by rintro ⟨h, _⟩; omega) (by simp [useA, useB, useN]; omega)), by first | exact HB.out | exact below_drewN HB.out _⟩

set_option maxHeartbeats 4000000 in
set_option maxRecDepth 100000 in
theorem rinstr_rest (ca : Option Addr) (nc cc : Nat) (ma : Option Addr) (nm mc : Nat) (f : Nat → ByteArray) (ps ls rt : ByteArray) (co : Option Addr) (cl cp : Nat) (op A B N : Int) (w : World) (h1 : ps.size ≤ 1000000) (h2 : ls.size ≤ 1000000) (_h3 : nc ≤ 1000000) (hC : Cls w ca nc cc f) (h35 : ¬ (op < 1 ∨ 35 < op)) (hop : op ≠ 3 ∧ op ≠ 4 ∧ op ≠ 22 ∧ op ≠ 23 ∧ op ≠ 24 ∧ op ≠ 25 ∧ op ≠ 26 ∧ op ≠ 27 ∧ op ≠ 28 ∧ op ≠ 29 ∧ op ≠ 30 ∧ op ≠ 32) :
    Calls Tryd.prog 102 #[.agg #[.slice ca nc cc, .slice ma nm mc], .agg #[.string ps, .string ls, .string rt, .slice co cl cp], .agg #[.int .i64 op, .int .i64 A, .int .i64 B, .int .i64 N]] w (RInt (icode (instrC (namedB nc nm ((ps.size : Int) + ls.size) (fun i => (f i).size) op A B) cl op A B N)) w) := by
  have hb := boxes3_below ca nc cc ma nm mc ps ls rt co cl cp op A B N w
  obtain ⟨W, hW⟩ : ∃ W, boxes3 ca nc cc ma nm mc ps ls rt co cl cp op A B N w = W := ⟨_, rfl⟩
  obtain ⟨⟨p0, p1⟩, ⟨m0, m1, m3⟩, i0, i1, i2, i3⟩ := boxes3_all hW
  rw [hW] at hb
  have HC := Lib.hid (hC.below hb)
  have HB := Lib.hid hb
  unfold boxes3 at hW
  clear hb hC
  obtain ⟨R, hR⟩ : ∃ R, icode (instrC (namedB nc nm ((ps.size : Int) + ls.size) (fun i => (f i).size) op A B) cl op A B N) = R := ⟨_, rfl⟩
  have HR := Lib.hid hR
  rw [hR]
  clear hR
  obtain ⟨n3, n4, n22, n23, n24, n25, n26, n27, n28, n29, n30, n32⟩ := hop
  have t3 : (op == 3) = false := by simpa using n3
  have t4 : (op == 4) = false := by simpa using n4
  have t22 : (op == 22) = false := by simpa using n22
  have t23 : (op == 23) = false := by simpa using n23
  have t24 : (op == 24) = false := by simpa using n24
  have t25 : (op == 25) = false := by simpa using n25
  have t26 : (op == 26) = false := by simpa using n26
  have t27 : (op == 27) = false := by simpa using n27
  have t28 : (op == 28) = false := by simpa using n28
  have t29 : (op == 29) = false := by simpa using n29
  have t30 : (op == 30) = false := by simpa using n30
  have t32 : (op == 32) = false := by simpa using n32
  have ka : useA op = false := by simp [useA, t3, t4, t22, t23, t24, t25, t26, t27, t28, t29, t30, t32]
  have kb : useB op = false := by simp [useB, t25, t26]
  have KA := Lib.hid ka
  have KB := Lib.hid kb
  have HNB : Hid (∀ x y, namedB nc nm x y op A B = true) := Lib.hid fun x y => by unfold namedB; rw [if_neg (by omega), if_neg (by omega), if_neg (by omega), if_neg (by omega), if_neg (by omega)]
  have UA : Hid (∀ w, Calls Tryd.prog 155 #[.int .i64 op] w fun e w' => e = .returned (.bool false) ∧ w = w') := Lib.hid fun w => by rw [← ka]; exact rusesA_any _ w
  have UB : Hid (∀ w, Calls Tryd.prog 154 #[.int .i64 op] w fun e w' => e = .returned (.bool false) ∧ w = w') := Lib.hid fun w => by rw [← kb]; exact rusesB_any _ w
  have u1 : decide (op < 1) = false := by simp; omega
  have u2 : decide (35 < op) = false := by simp; omega
  have HOP : Hid (¬ (op < 1 ∨ 35 < op) ∧ ¬ (op = 22 ∨ op = 23)) := Lib.hid (by omega)
  clear ka kb n3 n4 n22 n23 n24 n25 n26 n27 n28 n29 n30 n32
  go_enter Tryd.func102, Tryd.ntmps102
  go_wp2_with (first | (go_at_call 155; refine (UA.out _).mono ?_; rintro e w' ⟨rfl, rfl⟩) | (go_at_call 154; refine (UB.out _).mono ?_; rintro e w' ⟨rfl, rfl⟩))
  all_goals
    go_ret
    try simp only [bne_iff_ne, bne_eq_false_iff_eq, ne_eq] at *
    first
      | exact ⟨icleaf HR (ic_use HOP.out.1 (HNB.out _ _) (fun h => HOP.out.2 h.1) (by rw [KA.out, KB.out]; simp [useN]; simp_all; try omega)), by first | exact HB.out | exact below_drewN HB.out _⟩
      | exact ⟨icleaf HR (ic_fine HOP.out.1 (HNB.out _ _) (fun h => HOP.out.2 h.1) (by rw [KA.out, KB.out]; simp [useN]; simp_all; try omega)), by first | exact HB.out | exact below_drewN HB.out _⟩

theorem rinstr_any (ca : Option Addr) (nc cc : Nat) (ma : Option Addr) (nm mc : Nat) (f : Nat → ByteArray) (ps ls rt : ByteArray) (co : Option Addr) (cl cp : Nat) (op A B N : Int) (w : World) (h1 : ps.size ≤ 1000000) (h2 : ls.size ≤ 1000000) (h3 : nc ≤ 1000000) (hC : Cls w ca nc cc f) :
    Calls Tryd.prog 102 #[.agg #[.slice ca nc cc, .slice ma nm mc], .agg #[.string ps, .string ls, .string rt, .slice co cl cp], .agg #[.int .i64 op, .int .i64 A, .int .i64 B, .int .i64 N]] w (RInt (icode (instrC (namedB nc nm ((ps.size : Int) + ls.size) (fun i => (f i).size) op A B) cl op A B N)) w) := by
  by_cases h0 : op < 1 ∨ 35 < op
  · exact rinstr_kind ca nc cc ma nm mc f ps ls rt co cl cp op A B N w h1 h2 h3 hC h0
  by_cases a1 : op = 3 ∨ op = 4
  · exact rinstr_ls ca nc cc ma nm mc f ps ls rt co cl cp op A B N w h1 h2 h3 hC a1
  by_cases a2 : op = 28 ∨ op = 29 ∨ op = 30
  · exact rinstr_arr ca nc cc ma nm mc f ps ls rt co cl cp op A B N w h1 h2 h3 hC a2
  by_cases a3 : op = 32
  · exact rinstr_call ca nc cc ma nm mc f ps ls rt co cl cp op A B N w h1 h2 h3 hC a3
  by_cases a4 : op = 22 ∨ op = 23
  · exact rinstr_jump ca nc cc ma nm mc f ps ls rt co cl cp op A B N w h1 h2 h3 hC a4
  by_cases a5 : op = 24 ∨ op = 27
  · exact rinstr_cls ca nc cc ma nm mc f ps ls rt co cl cp op A B N w h1 h2 h3 hC a5
  by_cases a6 : op = 25 ∨ op = 26
  · exact rinstr_fld ca nc cc ma nm mc f ps ls rt co cl cp op A B N w h1 h2 h3 hC a6
  exact rinstr_rest ca nc cc ma nm mc f ps ls rt co cl cp op A B N w h1 h2 h3 hC h0 (by omega)

end Go.Proofs.YtjffbojgdemooaaDoor

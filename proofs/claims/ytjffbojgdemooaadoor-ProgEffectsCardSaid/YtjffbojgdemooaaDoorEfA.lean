/-
  What the program and the document tell of ops: traps, safepoints, names; kinds, words. (Written by genef.py.)
-/
import Derived.Laws.Tables
import Derived.Deep.DeepCutAuto
import Derived.Test.YtjffbojgdemooaaDoorSmP
import Derived.Test.YtjffbojgdemooaaDoorLgt
import Derived.Test.YtjffbojgdemooaaDoorPrgA
namespace Go.Proofs.YtjffbojgdemooaaDoor
open Go.RowKit

def trapB (op : Int) : Bool := op == 11 || op == 12 || op == 25 || op == 26 || op == 28 || op == 29 || op == 30 || op == 31 || op == 34
def safeB (op : Int) : Bool := op == 24 || op == 28 || op == 32

set_option maxHeartbeats 1000000 in
set_option maxRecDepth 100000 in
theorem traps_any (op : Int) (w : World) : Calls Tryd.prog 42 #[.int .i64 op] w fun e w' => e = .returned (.bool (trapB op)) ∧ w = w' := by
  by_cases h : op = 11 ∨ op = 12 ∨ op = 25 ∨ op = 26 ∨ op = 28 ∨ op = 29 ∨ op = 30 ∨ op = 31 ∨ op = 34
  · rcases h with rfl | rfl | rfl | rfl | rfl | rfl | rfl | rfl | rfl
    all_goals
      go_enter Tryd.func42, Tryd.ntmps42
      go_wp2
      go_ret
      exact ⟨rfl, rfl⟩
  · simp only [not_or] at h
    obtain ⟨n11, n12, n25, n26, n28, n29, n30, n31, n34⟩ := h
    have t11 : (op == 11) = false := by simpa using n11
    have t12 : (op == 12) = false := by simpa using n12
    have t25 : (op == 25) = false := by simpa using n25
    have t26 : (op == 26) = false := by simpa using n26
    have t28 : (op == 28) = false := by simpa using n28
    have t29 : (op == 29) = false := by simpa using n29
    have t30 : (op == 30) = false := by simpa using n30
    have t31 : (op == 31) = false := by simpa using n31
    have t34 : (op == 34) = false := by simpa using n34
    have e1 : trapB op = false := by simp only [trapB, t11, t12, t25, t26, t28, t29, t30, t31, t34]; rfl
    rw [e1]
    clear e1 n11 n12 n25 n26 n28 n29 n30 n31 n34
    go_enter Tryd.func42, Tryd.ntmps42
    go_wp2
    go_ret
    exact ⟨rfl, rfl⟩

set_option maxHeartbeats 1000000 in
set_option maxRecDepth 100000 in
theorem rtraps_any (op : Int) (w : World) : Calls Tryd.prog 43 #[.int .i64 op] w fun e w' => e = .returned (.bool (trapB op)) ∧ w = w' := by
  by_cases h : op = 11 ∨ op = 12 ∨ op = 25 ∨ op = 26 ∨ op = 28 ∨ op = 29 ∨ op = 30 ∨ op = 31 ∨ op = 34
  · rcases h with rfl | rfl | rfl | rfl | rfl | rfl | rfl | rfl | rfl
    all_goals
      go_enter Tryd.func43, Tryd.ntmps43
      go_wp2
      go_ret
      exact ⟨rfl, rfl⟩
  · simp only [not_or] at h
    obtain ⟨n11, n12, n25, n26, n28, n29, n30, n31, n34⟩ := h
    have t11 : (op == 11) = false := by simpa using n11
    have t12 : (op == 12) = false := by simpa using n12
    have t25 : (op == 25) = false := by simpa using n25
    have t26 : (op == 26) = false := by simpa using n26
    have t28 : (op == 28) = false := by simpa using n28
    have t29 : (op == 29) = false := by simpa using n29
    have t30 : (op == 30) = false := by simpa using n30
    have t31 : (op == 31) = false := by simpa using n31
    have t34 : (op == 34) = false := by simpa using n34
    have e1 : trapB op = false := by simp only [trapB, t11, t12, t25, t26, t28, t29, t30, t31, t34]; rfl
    rw [e1]
    clear e1 n11 n12 n25 n26 n28 n29 n30 n31 n34
    go_enter Tryd.func43, Tryd.ntmps43
    go_wp2
    go_ret
    exact ⟨rfl, rfl⟩

set_option maxHeartbeats 1000000 in
set_option maxRecDepth 100000 in
theorem safe_any (op : Int) (w : World) : Calls Tryd.prog 44 #[.int .i64 op] w fun e w' => e = .returned (.bool (safeB op)) ∧ w = w' := by
  by_cases h : op = 24 ∨ op = 28 ∨ op = 32
  · rcases h with rfl | rfl | rfl
    all_goals
      go_enter Tryd.func44, Tryd.ntmps44
      go_wp2
      go_ret
      exact ⟨rfl, rfl⟩
  · simp only [not_or] at h
    obtain ⟨n24, n28, n32⟩ := h
    have t24 : (op == 24) = false := by simpa using n24
    have t28 : (op == 28) = false := by simpa using n28
    have t32 : (op == 32) = false := by simpa using n32
    have e1 : safeB op = false := by simp only [safeB, t24, t28, t32]; rfl
    rw [e1]
    clear e1 n24 n28 n32
    go_enter Tryd.func44, Tryd.ntmps44
    go_wp2
    go_ret
    exact ⟨rfl, rfl⟩

set_option maxHeartbeats 1000000 in
set_option maxRecDepth 100000 in
theorem rsafe_any (op : Int) (w : World) : Calls Tryd.prog 45 #[.int .i64 op] w fun e w' => e = .returned (.bool (safeB op)) ∧ w = w' := by
  by_cases h : op = 24 ∨ op = 28 ∨ op = 32
  · rcases h with rfl | rfl | rfl
    all_goals
      go_enter Tryd.func45, Tryd.ntmps45
      go_wp2
      go_ret
      exact ⟨rfl, rfl⟩
  · simp only [not_or] at h
    obtain ⟨n24, n28, n32⟩ := h
    have t24 : (op == 24) = false := by simpa using n24
    have t28 : (op == 28) = false := by simpa using n28
    have t32 : (op == 32) = false := by simpa using n32
    have e1 : safeB op = false := by simp only [safeB, t24, t28, t32]; rfl
    rw [e1]
    clear e1 n24 n28 n32
    go_enter Tryd.func45, Tryd.ntmps45
    go_wp2
    go_ret
    exact ⟨rfl, rfl⟩

/-- The names of ops, from 0 on. -/
def nameL : List ByteArray := [⟨#[]⟩, ⟨#[99, 111, 110, 115, 116]⟩, ⟨#[110, 117, 108, 108]⟩, ⟨#[108, 111, 97, 100]⟩, ⟨#[115, 116, 111, 114, 101]⟩, ⟨#[100, 117, 112]⟩, ⟨#[112, 111, 112]⟩, ⟨#[115, 119, 97, 112]⟩, ⟨#[97, 100, 100]⟩, ⟨#[115, 117, 98]⟩, ⟨#[109, 117, 108]⟩, ⟨#[100, 105, 118]⟩, ⟨#[114, 101, 109]⟩, ⟨#[97, 110, 100]⟩, ⟨#[111, 114]⟩, ⟨#[120, 111, 114]⟩, ⟨#[115, 104, 108]⟩, ⟨#[115, 104, 114]⟩, ⟨#[110, 101, 103]⟩, ⟨#[108, 116]⟩, ⟨#[101, 113]⟩, ⟨#[115, 97, 109, 101]⟩, ⟨#[106, 117, 109, 112]⟩, ⟨#[122, 101, 114, 111]⟩, ⟨#[110, 101, 119]⟩, ⟨#[103, 101, 116]⟩, ⟨#[112, 117, 116]⟩, ⟨#[105, 115]⟩, ⟨#[97, 114, 114, 97, 121]⟩, ⟨#[101, 108, 101, 109]⟩, ⟨#[115, 101, 116]⟩, ⟨#[108, 101, 110]⟩, ⟨#[99, 97, 108, 108]⟩, ⟨#[114, 101, 116]⟩, ⟨#[105, 110]⟩, ⟨#[111, 117, 116]⟩, ⟨#[]⟩, ⟨#[]⟩, ⟨#[]⟩, ⟨#[]⟩, ⟨#[112, 97, 114, 97, 109]⟩, ⟨#[112, 104, 105]⟩, ⟨#[112, 111, 108, 108]⟩, ⟨#[101, 110, 116, 101, 114]⟩, ⟨#[103, 117, 97, 114, 100]⟩, ⟨#[103, 111, 116, 111]⟩, ⟨#[98, 114, 97, 110, 99, 104]⟩, ⟨#[114, 101, 116, 117, 114, 110]⟩]
def nameB (op : Int) : ByteArray := if 0 ≤ op ∧ op < 48 then nameL.getD op.toNat ⟨#[]⟩ else ⟨#[]⟩
def nameRow : Array Value := #[.string ⟨#[]⟩, .string ⟨#[99, 111, 110, 115, 116]⟩, .string ⟨#[110, 117, 108, 108]⟩, .string ⟨#[108, 111, 97, 100]⟩, .string ⟨#[115, 116, 111, 114, 101]⟩, .string ⟨#[100, 117, 112]⟩, .string ⟨#[112, 111, 112]⟩, .string ⟨#[115, 119, 97, 112]⟩, .string ⟨#[97, 100, 100]⟩, .string ⟨#[115, 117, 98]⟩, .string ⟨#[109, 117, 108]⟩, .string ⟨#[100, 105, 118]⟩, .string ⟨#[114, 101, 109]⟩, .string ⟨#[97, 110, 100]⟩, .string ⟨#[111, 114]⟩, .string ⟨#[120, 111, 114]⟩, .string ⟨#[115, 104, 108]⟩, .string ⟨#[115, 104, 114]⟩, .string ⟨#[110, 101, 103]⟩, .string ⟨#[108, 116]⟩, .string ⟨#[101, 113]⟩, .string ⟨#[115, 97, 109, 101]⟩, .string ⟨#[106, 117, 109, 112]⟩, .string ⟨#[122, 101, 114, 111]⟩, .string ⟨#[110, 101, 119]⟩, .string ⟨#[103, 101, 116]⟩, .string ⟨#[112, 117, 116]⟩, .string ⟨#[105, 115]⟩, .string ⟨#[97, 114, 114, 97, 121]⟩, .string ⟨#[101, 108, 101, 109]⟩, .string ⟨#[115, 101, 116]⟩, .string ⟨#[108, 101, 110]⟩, .string ⟨#[99, 97, 108, 108]⟩, .string ⟨#[114, 101, 116]⟩, .string ⟨#[105, 110]⟩, .string ⟨#[111, 117, 116]⟩, .string ⟨#[]⟩, .string ⟨#[]⟩, .string ⟨#[]⟩, .string ⟨#[]⟩, .string ⟨#[112, 97, 114, 97, 109]⟩, .string ⟨#[112, 104, 105]⟩, .string ⟨#[112, 111, 108, 108]⟩, .string ⟨#[101, 110, 116, 101, 114]⟩, .string ⟨#[103, 117, 97, 114, 100]⟩, .string ⟨#[103, 111, 116, 111]⟩, .string ⟨#[98, 114, 97, 110, 99, 104]⟩, .string ⟨#[114, 101, 116, 117, 114, 110]⟩]
theorem nameL_len : nameL.length = 48 := rfl
theorem nameRow_at (k : Nat) (hk : k < 48) : nameRow[k]? = some (.string (nameB (k : Int))) := by
  have e : nameRow = (nameL.map Value.string).toArray := rfl
  have hl : k < nameL.length := by rw [nameL_len]; exact hk
  have e2 : nameB (k : Int) = nameL[k] := by
    unfold nameB
    rw [if_pos (by omega), Int.toNat_natCast, List.getD_eq_getElem?_getD, List.getElem?_eq_getElem hl]
    rfl
  rw [e, e2, List.getElem?_toArray, List.getElem?_map, List.getElem?_eq_getElem hl]
  rfl

theorem wpList_build_as {P : Program} {ops : Array Oper} {rest : List Oper} {o : Oper} {a : Act} {w : World} {Q : Exit → Act → World → Prop} (hg : o.guard = none) (t : TypeId) (parts : Array (Nat × Operand)) (ho : o.op = .build t parts)
    (row : Array Value) (ps : List (Nat × Value)) (hp : (parts.map fun (i, x) => (i, a.eval x)).toList = ps) (hb : P.built t ps = some row)
    (h : wpList P ops Q rest (a.put o.dst (.agg row)) w) : wpList P ops Q (o :: rest) a w := by
  refine wpList_build hg t parts ho (by rw [hp, hb]; rfl) ?_
  rw [hp, hb]
  exact h

theorem below_setRow {B g : Nat} {w0 w : World} (h : Below B w0 w) (cs : Array Value) (hg : B ≤ g) : Below B w0 (w.setRow g cs) :=
  ⟨h.os, h.tape, h.output, by have := h.size; simpa [World.setRow] using this, fun k hk => (setRow_other w g k cs (by omega)).trans (h.block k hk)⟩

def nameParts : List (Nat × Value) := nameRow.toList.zipIdx.map fun x => (x.2, x.1)
theorem built_names : Tryd.prog.built 147 nameParts = some nameRow := by kernel_rfl
theorem info_names : (Tryd.prog.info? 147).map (·.size) = some nameRow.size := by kernel_rfl
theorem all_names : nameRow.all (·.oneCell') = true := by kernel_rfl

set_option maxHeartbeats 2000000 in
set_option maxRecDepth 100000 in
theorem name_in (k : Nat) (hk : k < 48) (w : World) : Calls Tryd.prog 41 #[.int .i64 k] w fun e w' => e = .returned (.string (nameB (k : Int))) ∧ Below w.heap.size w w' := by
  have hrow := nameRow_at k hk
  obtain ⟨s, hs⟩ : ∃ s, nameB (k : Int) = s := ⟨_, rfl⟩
  rw [hs] at hrow
  rw [hs]
  have WI : Hid (∀ w, Calls Tryd.prog 109 #[.int .i64 k, .int .i64 48] w (fun e w' => e = .returned (.bool true) ∧ w = w')) := Lib.hid fun w => by
    have := within_any k 48 w
    have e : inside k 48 = true := by simp [inside]; omega
    rw [e] at this
    exact this
  have HROW := Lib.hid hrow
  have SZ : Hid ((48 : Nat) = nameRow.size) := Lib.hid rfl
  clear hs hrow
  go_enter Tryd.func41, Tryd.ntmps41
  go_upto_region 1 with (fail)
  refine wp_region_lit ?_
  refine wpList_build_as rfl 147 _ rfl nameRow nameParts (by kernel_rfl) built_names ?_
  simp only [Act.put, List.setIfInBounds_toArray, List.set_cons_zero, List.set_cons_succ]
  go_wp2_with (refine wpList_store_row rfl 147 (.tmp 3) (.tmp 4) rfl w.heap.size nameRow rfl rfl _ _ (heap_alloc_new w _) info_names rfl all_names ?_)
  generalize hW : World.setRow _ w.heap.size nameRow = W at *
  have hc : W.cell? ⟨w.heap.size, k, none⟩ = some (.string s) := by rw [← hW, cell_setRow_same _ _ _ _ _ _ _ (heap_alloc_new w _)]; exact HROW.out
  have HB : Hid (Below w.heap.size w W) := Lib.hid (by rw [← hW]; exact below_setRow ((Below.refl _ _).alloc (Nat.le_refl _) _) _ (Nat.le_refl _))
  have q1 : (0 : Int) ≤ (k : Int) := by omega
  have q2 : (k : Int) < 48 := by omega
  clear hW HROW
  refine (WI.out _).mono ?_
  rintro e w' ⟨rfl, rfl⟩
  go_wp2_with fail
  go_ret
  exact ⟨rfl, HB.out⟩

set_option maxHeartbeats 2000000 in
set_option maxRecDepth 100000 in
theorem name_out (op : Int) (h : ¬ (0 ≤ op ∧ op < 48)) (w : World) : Calls Tryd.prog 41 #[.int .i64 op] w fun e w' => e = .returned (.string (nameB op)) ∧ Below w.heap.size w w' := by
  have hs : nameB op = ⟨#[]⟩ := by rw [nameB, if_neg h]
  rw [hs]
  have WI : Hid (∀ w, Calls Tryd.prog 109 #[.int .i64 op, .int .i64 48] w (fun e w' => e = .returned (.bool false) ∧ w = w')) := Lib.hid fun w => by
    have := within_any op 48 w
    have e : inside op 48 = false := by simp [inside]; omega
    rw [e] at this
    exact this
  clear hs h
  go_enter Tryd.func41, Tryd.ntmps41
  go_upto_region 1 with (fail)
  refine wp_region_lit ?_
  refine wpList_build_as rfl 147 _ rfl nameRow nameParts (by kernel_rfl) built_names ?_
  simp only [Act.put, List.setIfInBounds_toArray, List.set_cons_zero, List.set_cons_succ]
  go_wp2_with (refine wpList_store_row rfl 147 (.tmp 3) (.tmp 4) rfl w.heap.size nameRow rfl rfl _ _ (heap_alloc_new w _) info_names rfl all_names ?_)
  generalize hW : World.setRow _ w.heap.size nameRow = W at *
  have HB : Hid (Below w.heap.size w W) := Lib.hid (by rw [← hW]; exact below_setRow ((Below.refl _ _).alloc (Nat.le_refl _) _) _ (Nat.le_refl _))
  clear hW
  refine (WI.out _).mono ?_
  rintro e w' ⟨rfl, rfl⟩
  go_wp2_with fail
  go_ret
  exact ⟨rfl, HB.out⟩

theorem name_any (op : Int) (w : World) : Calls Tryd.prog 41 #[.int .i64 op] w fun e w' => e = .returned (.string (nameB op)) ∧ Below w.heap.size w w' := by
  by_cases h : 0 ≤ op ∧ op < 48
  · obtain ⟨k, rfl⟩ : ∃ k : Nat, op = k := ⟨op.toNat, by omega⟩
    exact name_in k (by omega) w
  · exact name_out op h w

def nameRow47 : Array Value := #[.string ⟨#[99, 111, 110, 115, 116]⟩, .string ⟨#[110, 117, 108, 108]⟩, .string ⟨#[108, 111, 97, 100]⟩, .string ⟨#[115, 116, 111, 114, 101]⟩, .string ⟨#[100, 117, 112]⟩, .string ⟨#[112, 111, 112]⟩, .string ⟨#[115, 119, 97, 112]⟩, .string ⟨#[97, 100, 100]⟩, .string ⟨#[115, 117, 98]⟩, .string ⟨#[109, 117, 108]⟩, .string ⟨#[100, 105, 118]⟩, .string ⟨#[114, 101, 109]⟩, .string ⟨#[97, 110, 100]⟩, .string ⟨#[111, 114]⟩, .string ⟨#[120, 111, 114]⟩, .string ⟨#[115, 104, 108]⟩, .string ⟨#[115, 104, 114]⟩, .string ⟨#[110, 101, 103]⟩, .string ⟨#[108, 116]⟩, .string ⟨#[101, 113]⟩, .string ⟨#[115, 97, 109, 101]⟩, .string ⟨#[106, 117, 109, 112]⟩, .string ⟨#[122, 101, 114, 111]⟩, .string ⟨#[110, 101, 119]⟩, .string ⟨#[103, 101, 116]⟩, .string ⟨#[112, 117, 116]⟩, .string ⟨#[105, 115]⟩, .string ⟨#[97, 114, 114, 97, 121]⟩, .string ⟨#[101, 108, 101, 109]⟩, .string ⟨#[115, 101, 116]⟩, .string ⟨#[108, 101, 110]⟩, .string ⟨#[99, 97, 108, 108]⟩, .string ⟨#[114, 101, 116]⟩, .string ⟨#[105, 110]⟩, .string ⟨#[111, 117, 116]⟩, .string ⟨#[]⟩, .string ⟨#[]⟩, .string ⟨#[]⟩, .string ⟨#[]⟩, .string ⟨#[112, 97, 114, 97, 109]⟩, .string ⟨#[112, 104, 105]⟩, .string ⟨#[112, 111, 108, 108]⟩, .string ⟨#[101, 110, 116, 101, 114]⟩, .string ⟨#[103, 117, 97, 114, 100]⟩, .string ⟨#[103, 111, 116, 111]⟩, .string ⟨#[98, 114, 97, 110, 99, 104]⟩, .string ⟨#[114, 101, 116, 117, 114, 110]⟩]
theorem nameRow47_at (k : Nat) (hk : k < 47) : nameRow47[k]? = some (.string (nameB ((k : Int) + 1))) := by
  have h := nameRow_at (k + 1) (by omega)
  rw [show (((k + 1 : Nat)) : Int) = (k : Int) + 1 by omega] at h
  rw [← h]
  have e : nameRow = ((.string ⟨#[]⟩ : Value) :: nameRow47.toList).toArray := rfl
  rw [e]
  simp

def NamesAt (w : World) (e : Ending) (w' : World) : Prop := ∃ g, e = .returned (.slice (some ⟨g, 0, none⟩) 47 47) ∧ (∀ k, k < 47 → w'.cell? ⟨g, k, none⟩ = some (.string (nameB ((k : Int) + 1)))) ∧ Below w.heap.size w w'

theorem names_at (w : World) : Calls Tryd.prog 40 #[] w (NamesAt w) := by
  have HC : Hid (∀ T k, k < 47 → (w.alloc (.cells nameRow47 T)).cell? ⟨w.heap.size, k, none⟩ = some (.string (nameB ((k : Int) + 1)))) := Lib.hid fun T k hk => by
    rw [cell_of_row _ w.heap.size k _ T (0, 0) (heap_alloc_new w _)]
    exact nameRow47_at k hk
  go_enter Tryd.func40, Tryd.ntmps40
  go_wp2_with fail
  go_ret
  exact ⟨_, rfl, HC.out _, (Below.refl _ _).alloc (Nat.le_refl _) _⟩

theorem kinds_any (ps ls rt : ByteArray) (co : Option Addr) (len cp : Nat) (w : World) (h1 : ps.size ≤ 1000) (h2 : ls.size ≤ 1000) : Calls Tryd.prog 48 #[.agg #[.string ps, .string ls, .string rt, .slice co len cp]] w fun e w' => e = .returned (.string (ps ++ ls)) ∧ Below w.heap.size w w' := by
  have hn : ¬ 9223372036854775807 < ps.size + ls.size := by omega
  have HB := Lib.hid ((Below.refl w.heap.size w).alloc (Nat.le_refl _) (.cells #[.string ps, .string ls, .string rt, .slice co len cp] 62))
  go_enter Tryd.func48, Tryd.ntmps48
  go_wp2_with fail
  go_ret
  exact ⟨rfl, HB.out⟩

theorem rkinds_any (ps ls rt : ByteArray) (co : Option Addr) (len cp : Nat) (w : World) (h1 : ps.size ≤ 1000) (h2 : ls.size ≤ 1000) : Calls Tryd.prog 49 #[.agg #[.string ps, .string ls, .string rt, .slice co len cp]] w fun e w' => e = .returned (.string (ps ++ ls)) ∧ Below w.heap.size w w' := by
  have hn : ¬ 9223372036854775807 < ps.size + ls.size := by omega
  have HB := Lib.hid ((Below.refl w.heap.size w).alloc (Nat.le_refl _) (.cells #[.string ps, .string ls, .string rt, .slice co len cp] 62))
  go_enter Tryd.func49, Tryd.ntmps49
  go_wp2_with fail
  go_ret
  exact ⟨rfl, HB.out⟩

/-- How many words an object takes. -/
def wordsV (f : Nat → ByteArray) (kl n : Int) : Int := if 0 ≤ kl then 2 + ((f kl.toNat).size : Int) else 2 + n

set_option maxRecDepth 100000 in
theorem words_all (ca : Option Addr) (nc cc : Nat) (ma : Option Addr) (nm mc : Nat) (f : Nat → ByteArray) (kl n : Int) (w : World) (hc : Cls w ca nc cc f) (hs : ∀ i, i < nc → (f i).size ≤ 1000) (h0 : -2 ≤ kl) (h1 : kl < nc) (h2 : 0 ≤ n) (h3 : n ≤ 100) :
    Calls Tryd.prog 46 #[.agg #[.slice ca nc cc, .slice ma nm mc], .int .i64 kl, .int .i64 n] w (fun e w' => e = .returned (.int .i64 (wordsV f kl n)) ∧ Below w.heap.size w w') := by
  have hb : Below w.heap.size w (w.alloc (.cells #[.slice ca nc cc, .slice ma nm mc] 46)) := (Below.refl _ _).alloc (Nat.le_refl _) _
  have HC := Lib.hid (hc.below hb)
  have HB := Lib.hid hb
  have WI : Hid (∀ w, Calls Tryd.prog 109 #[.int .i64 kl, .int .i64 nc] w (fun e w' => e = .returned (.bool (inside kl nc)) ∧ w = w')) := Lib.hid fun w => within_any kl nc w
  clear hc hb
  by_cases hk : 0 ≤ kl
  · obtain ⟨k, rfl⟩ : ∃ k : Nat, kl = k := ⟨kl.toNat, by omega⟩
    have hkn : k < nc := by omega
    obtain ⟨lb, lo, rfl, hlb, hcl⟩ := Cls_at HC.out (by omega)
    have c0 := hcl k hkn
    have hsk := hs k hkn
    have e : wordsV f (k : Int) n = 2 + ((f k).size : Int) := by rw [wordsV, if_pos (by omega), Int.toNat_natCast]
    rw [e]
    have ei : inside (k : Int) nc = true := in_yes (by omega) h1
    rw [ei] at WI
    clear hcl e ei
    generalize f k = s at *
    go_enter Tryd.func46, Tryd.ntmps46
    go_wp2_with (go_at_call 109; refine (WI.out _).mono ?_; rintro e w' ⟨rfl, rfl⟩)
    go_ret
    exact ⟨rfl, HB.out⟩
  · have e : wordsV f kl n = 2 + n := by rw [wordsV, if_neg hk]
    rw [e]
    have ei : inside kl nc = false := in_no (by omega)
    rw [ei] at WI
    have tn : decide (0 ≤ n) = true := by simpa using h2
    clear e ei
    rcases (show kl = -1 ∨ kl = -2 by omega) with rfl | rfl
    all_goals
      go_enter Tryd.func46, Tryd.ntmps46
      go_wp2_with (go_at_call 109; refine (WI.out _).mono ?_; rintro e w' ⟨rfl, rfl⟩)
      go_ret
      exact ⟨rfl, HB.out⟩

set_option maxRecDepth 100000 in
theorem rwords_all (ca : Option Addr) (nc cc : Nat) (ma : Option Addr) (nm mc : Nat) (f : Nat → ByteArray) (kl n : Int) (w : World) (hc : Cls w ca nc cc f) (hs : ∀ i, i < nc → (f i).size ≤ 1000) (h0 : -2 ≤ kl) (h1 : kl < nc) (h2 : 0 ≤ n) (h3 : n ≤ 100) :
    Calls Tryd.prog 47 #[.agg #[.slice ca nc cc, .slice ma nm mc], .int .i64 kl, .int .i64 n] w (fun e w' => e = .returned (.int .i64 (wordsV f kl n)) ∧ Below w.heap.size w w') := by
  have hb : Below w.heap.size w (w.alloc (.cells #[.slice ca nc cc, .slice ma nm mc] 46)) := (Below.refl _ _).alloc (Nat.le_refl _) _
  have HC := Lib.hid (hc.below hb)
  have HB := Lib.hid hb
  clear hc hb
  by_cases hk : 0 ≤ kl
  · obtain ⟨k, rfl⟩ : ∃ k : Nat, kl = k := ⟨kl.toNat, by omega⟩
    have hkn : k < nc := by omega
    obtain ⟨lb, lo, rfl, hlb, hcl⟩ := Cls_at HC.out (by omega)
    have c0 := hcl k hkn
    have hsk := hs k hkn
    have e : wordsV f (k : Int) n = 2 + ((f k).size : Int) := by rw [wordsV, if_pos (by omega), Int.toNat_natCast]
    rw [e]
    clear hcl e
    generalize f k = s at *
    go_enter Tryd.func47, Tryd.ntmps47
    go_wp2_with fail
    go_ret
    exact ⟨rfl, HB.out⟩
  · have e : wordsV f kl n = 2 + n := by rw [wordsV, if_neg hk]
    rw [e]
    have tk : decide (0 ≤ kl) = false := by simpa using hk
    clear e
    go_enter Tryd.func47, Tryd.ntmps47
    go_wp2_with fail
    go_ret
    exact ⟨rfl, HB.out⟩

end Go.Proofs.YtjffbojgdemooaaDoor

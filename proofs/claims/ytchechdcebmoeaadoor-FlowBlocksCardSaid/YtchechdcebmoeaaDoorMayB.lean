/-
  What  stand on.
-/
import Derived.Test.YtchechdcebmoeaaDoorProg
import Derived.Test.YtchechdcebmoeaaDoorKit
import Derived.Test.YtchechdcebmoeaaDoorMem
import Derived.Test.YtchechdcebmoeaaDoorNxt
import Derived.Test.YtchechdcebmoeaaDoorSetB
import Derived.Test.YtchechdcebmoeaaDoorSameI
import Derived.Test.YtchechdcebmoeaaDoorSrtB
import Derived.BigQuiet
import Derived.ChangeArms
import Derived.Deep.DeepCutAuto
import Derived.Deep.QuietTactic
import Derived.Deep.RegionHeld3
import Derived.Deep.RegionLaw
import Derived.Deep.RegionWith
import Derived.Deep.Slices
import Derived.LaidEql
import Derived.LaidSub
import Derived.Laws.AppendOwnNone
import Derived.Laws.Tables
import Derived.Maps.AppendAt
import Derived.Outline
import Derived.StillTailTactics
import Derived.Stop.LaidErr
import Derived.Test.YtchechdcebmoeaaDoorRows
namespace Go.Proofs.YtchechdcebmoeaaDoor
open Go.ChangeShapes Go.Deep Go.RowKit Go.WideShapes

def PlainPost (c : Int) (w : World) (e : Ending) (w' : World) : Prop := e = .returned (.agg #[.int .i64 c, .slice none 0 0]) ∧ Below w.heap.size w w'

theorem bare_any (c : Int) (w : World) : Calls Tryd.prog 101 #[.int .i64 c] w (PlainPost c w) := by
  go_enter Tryd.func101, Tryd.ntmps101
  go_wp2
  exact bodyPost_ret (v := .agg #[.int .i64 c, .slice none 0 0]) (by simp [results, Tryd.results101, go_sem]) rfl ⟨rfl, (Below.refl _ _).alloc (Nat.le_refl _) _⟩

/-- A fault's box, behind what turned nothing that was there. -/
theorem boxed {w2 : World} (w : World) (T : TypeId) (h : Below (w.alloc (Obj.cells #[Value.int IntKind.i64 0, Value.slice none 0 0] T)).heap.size (w.alloc (Obj.cells #[Value.int IntKind.i64 0, Value.slice none 0 0] T)) w2) :
    w2.cell? ⟨w.heap.size, 0, none⟩ = some (.int .i64 0) ∧ w2.cell? ⟨w.heap.size, 1, none⟩ = some (.slice none 0 0) ∧ w2.frozen? ⟨w.heap.size, 0, none⟩ = false ∧ w2.frozen? ⟨w.heap.size, 1, none⟩ = false ∧ w.heap.size < w2.heap.size := by
  have hlt : w.heap.size < (w.alloc (Obj.cells #[Value.int IntKind.i64 0, Value.slice none 0 0] T)).heap.size := by simp
  have hrow := heap_alloc_new w (Obj.cells #[Value.int IntKind.i64 0, Value.slice none 0 0] T)
  refine ⟨?_, ?_, ?_, ?_, Nat.lt_of_lt_of_le hlt h.size⟩
  · rw [h.cell (p := ⟨w.heap.size, 0, none⟩) hlt, cell_of_row _ w.heap.size 0 _ T (0, 0) hrow]; rfl
  · rw [h.cell (p := ⟨w.heap.size, 1, none⟩) hlt, cell_of_row _ w.heap.size 1 _ T (0, 0) hrow]; rfl
  · rw [h.frozen (p := ⟨w.heap.size, 0, none⟩) hlt, frozen_of_row _ w.heap.size 0 _ T hrow]
  · rw [h.frozen (p := ⟨w.heap.size, 1, none⟩) hlt, frozen_of_row _ w.heap.size 1 _ T hrow]

theorem below_drew {B : Nat} {a w : World} (h : Below B a w) : Below B a w.drew := ⟨h.os, h.tape, h.output, h.size, h.block⟩

def useA (op : Int) : Bool := op == 3 || op == 4 || op == 22 || op == 23 || op == 24 || op == 27 || op == 28 || op == 29 || op == 30 || op == 32 || op == 25 || op == 26

def useB (op : Int) : Bool := op == 25 || op == 26

def useN (op : Int) : Bool := op == 1

/-- A text of I and R alone. -/
def Fair (s : ByteArray) : Prop := ∀ k (h : k < s.size), s[k].toNat = 73 ∨ s[k].toNat = 82

/-- Is a text of I and R alone? -/
noncomputable def fairB (s : ByteArray) : Bool := @decide (Fair s) (Classical.propDecidable _)

theorem fairB_yes {s : ByteArray} (h : Fair s) : fairB s = true := by unfold fairB; exact @decide_eq_true _ (Classical.propDecidable _) h

theorem fairB_no {s : ByteArray} (h : ¬ Fair s) : fairB s = false := by unfold fairB; exact @decide_eq_false _ (Classical.propDecidable _) h

def LetPost (s : ByteArray) (w : World) (e : Ending) (w' : World) : Prop := e = .returned (.bool (fairB s)) ∧ w = w'

def LetRel (s : ByteArray) (si : Value) : Prop := ∃ k : Nat, k ≤ s.size ∧ si = .int .i64 k ∧ ∀ j (h : j < s.size), j < k → s[j].toNat = 73 ∨ s[j].toNat = 82

theorem let_next {s : ByteArray} {k : Nat} (hk : k < s.size) (h : s[k].toNat = 73 ∨ s[k].toNat = 82) (hr : ∀ j (h : j < s.size), j < k → s[j].toNat = 73 ∨ s[j].toNat = 82) : LetRel s (.int .i64 (k + 1 : Nat)) :=
  ⟨k + 1, hk, rfl, fun j hj hjk => by
    by_cases e : j = k
    · subst e; exact h
    · exact hr j hj (by omega)⟩

set_option maxHeartbeats 400000 in
theorem rletters_any (s : ByteArray) (w : World) (hs : s.size ≤ maxLen) :
    Calls Tryd.prog 103 #[.string s] w (LetPost s w) := by
  unfold maxLen at hs
  go_enter Tryd.func103, Tryd.ntmps103
  go_wp2
  go_loop [3] (fun i => LetRel s i) (fun i => s.size - (intOf i).toNat)
  case atStart => exact ⟨0, Nat.zero_le _, rfl, fun j _ h => absurd h (Nat.not_lt_zero _)⟩
  case round =>
    obtain ⟨k, hk, rfl, hr⟩ := hrel
    have HR := Lib.hid hr
    clear hr
    by_cases hlt : k < s.size
    · by_cases hf : s[k].toNat = 73 ∨ s[k].toNat = 82
      · have HN := Lib.hid (let_next hlt hf HR.out)
        rcases hf with h | h
        all_goals
          have t1 : decide (k < s.size) = true := by simpa using hlt
          go_wp2
          all_goals first
            | (go_round
               case rel => exact HN.out
               case measure => simp [intOf]; omega)
            | (exfalso; omega)
      · have HF : Hid (fairB s = false) := Lib.hid (fairB_no fun h => hf (h k hlt))
        have t1 : decide (k < s.size) = true := by simpa using hlt
        have hf1 : s[k].toNat ≠ 73 := fun e => hf (.inl e)
        have hf2 : s[k].toNat ≠ 82 := fun e => hf (.inr e)
        clear hf
        go_wp2
        all_goals first
          | (exfalso; omega)
          | (exfalso; simp only [bne_eq_false_iff_eq] at *; omega)
          | (go_ret; exact ⟨by rw [HF.out]; rfl, rfl⟩)
    · have HF : Hid (fairB s = true) := Lib.hid (fairB_yes fun j hj => HR.out j hj (by omega))
      go_wp2
      go_ret
      exact ⟨by rw [HF.out]; rfl, rfl⟩

set_option maxHeartbeats 1000000 in
set_option maxRecDepth 100000 in
theorem rusesA_any (op : Int) (w : World) : Calls Tryd.prog 154 #[.int .i64 op] w fun e w' => e = .returned (.bool (useA op)) ∧ w = w' := by
  by_cases h : op = 3 ∨ op = 4 ∨ op = 22 ∨ op = 23 ∨ op = 24 ∨ op = 27 ∨ op = 28 ∨ op = 29 ∨ op = 30 ∨ op = 32 ∨ op = 25 ∨ op = 26
  · rcases h with rfl | rfl | rfl | rfl | rfl | rfl | rfl | rfl | rfl | rfl | rfl | rfl
    all_goals
      go_enter Tryd.func154, Tryd.ntmps154
      go_wp2
      go_ret
      exact ⟨rfl, rfl⟩
  · simp only [not_or] at h
    obtain ⟨h3, h4, h22, h23, h24, h27, h28, h29, h30, h32, h25, h26⟩ := h
    have t3 : (op == 3) = false := by simpa using h3
    have t4 : (op == 4) = false := by simpa using h4
    have t22 : (op == 22) = false := by simpa using h22
    have t23 : (op == 23) = false := by simpa using h23
    have t24 : (op == 24) = false := by simpa using h24
    have t27 : (op == 27) = false := by simpa using h27
    have t28 : (op == 28) = false := by simpa using h28
    have t29 : (op == 29) = false := by simpa using h29
    have t30 : (op == 30) = false := by simpa using h30
    have t32 : (op == 32) = false := by simpa using h32
    have t25 : (op == 25) = false := by simpa using h25
    have t26 : (op == 26) = false := by simpa using h26
    have e1 : useA op = false := by simp only [useA, t3, t4, t22, t23, t24, t27, t28, t29, t30, t32, t25, t26]; rfl
    rw [e1]
    clear e1 h3 h4 h22 h23 h24 h27 h28 h29 h30 h32 h25 h26
    go_enter Tryd.func154, Tryd.ntmps154
    go_wp2
    go_ret
    exact ⟨rfl, rfl⟩

theorem rusesB_any (op : Int) (w : World) : Calls Tryd.prog 153 #[.int .i64 op] w fun e w' => e = .returned (.bool (useB op)) ∧ w = w' := by
  by_cases h : op = 25
  · subst h
    go_enter Tryd.func153, Tryd.ntmps153
    go_wp2
    go_ret
    exact ⟨rfl, rfl⟩
  · by_cases h6 : op = 26
    · subst h6
      go_enter Tryd.func153, Tryd.ntmps153
      go_wp2
      go_ret
      exact ⟨rfl, rfl⟩
    · have t25 : (op == 25) = false := by simpa using h
      have t26 : (op == 26) = false := by simpa using h6
      have e : useB op = false := by simp [useB, t25, t26]
      rw [e]
      clear e h h6
      go_enter Tryd.func153, Tryd.ntmps153
      go_wp2
      go_ret
      exact ⟨rfl, rfl⟩

/-- A list of classes: one text each. -/
structure Cls (w : World) (a : Option Addr) (len cap : Nat) (f : Nat → ByteArray) : Prop where
  le : len ≤ cap
  max : cap ≤ maxLen
  nil : a = none → cap = 0
  cells : ∀ ad, a = some ad → ∀ i, i < len → w.cell? (ad.add i) = some (.string (f i))

theorem Cls_at {w : World} {a : Option Addr} {len cap : Nat} {f : Nat → ByteArray} (h : Cls w a len cap f) (hp : 0 < len) :
    ∃ b off, a = some ⟨b, off, none⟩ ∧ b < w.heap.size ∧ ∀ i, i < len → w.cell? ⟨b, off + i, none⟩ = some (.string (f i)) := by
  cases a with
  | none => have h1 := h.nil rfl; have h2 := h.le; omega
  | some ad =>
    obtain ⟨b, off, s⟩ := ad
    have h0 := h.cells _ rfl 0 hp
    have hs : s = none := by simpa [Addr.add] using World.cell?_spot h0
    subst hs
    have e : ∀ k, (⟨b, off, none⟩ : Addr).add k = ⟨b, off + k, none⟩ := by
      intro k
      unfold Addr.add
      split
      · rename_i h; subst h; rfl
      · rfl
    rw [e] at h0
    refine ⟨b, off, rfl, World.block_lt_of_cell? w _ h0, fun i hi => ?_⟩
    have hc := h.cells _ rfl i hi
    rw [e] at hc
    exact hc

theorem Cls.below {w w' : World} {a : Option Addr} {len cap : Nat} {f : Nat → ByteArray} (h : Cls w a len cap f) (hb : Below w.heap.size w w') : Cls w' a len cap f :=
  ⟨h.le, h.max, h.nil, fun ad had i hi => (hb.cell (World.block_lt_of_cell? w _ (h.cells ad had i hi))).trans (h.cells ad had i hi)⟩

def namedB (nc nm : Nat) (lo : Int) (fl : Nat → Nat) (op A B : Int) : Bool :=
  if op = 3 ∨ op = 4 then inside A lo
  else if op = 24 ∨ op = 27 then inside A nc
  else if op = 25 ∨ op = 26 then inside A nc && inside B (fl A.toNat)
  else if op = 28 ∨ op = 29 ∨ op = 30 then inside A 2
  else if op = 32 then decide (0 < A) && decide (A < nm)
  else true

/-- The world behind the three boxes. -/
def boxes3 (ca : Option Addr) (nc cc : Nat) (ma : Option Addr) (nm mc : Nat) (ps ls rt : ByteArray) (co : Option Addr) (cl cp : Nat) (op A B N : Int) (w : World) : World :=
  ((w.alloc (.cells #[.slice ca nc cc, .slice ma nm mc] 50)).alloc (.cells #[.string ps, .string ls, .string rt, .slice co cl cp] 46)).alloc (.cells #[.int .i64 op, .int .i64 A, .int .i64 B, .int .i64 N] 52)

theorem boxes3_below (ca : Option Addr) (nc cc : Nat) (ma : Option Addr) (nm mc : Nat) (ps ls rt : ByteArray) (co : Option Addr) (cl cp : Nat) (op A B N : Int) (w : World) : Below w.heap.size w (boxes3 ca nc cc ma nm mc ps ls rt co cl cp op A B N w) :=
  (((Below.refl _ _).alloc (Nat.le_refl _) _).alloc (by simp) _).alloc (by simp; omega) _

/-- What mayMethod answers: hc the head's code, n how many instructions may be ahead of the first that may not, of len. -/
def methW (hc m len n : Nat) (ic : Nat → Nat) : Option (Nat × Int × Int) :=
  if hc ≠ 0 then some (hc - 1, m, -1) else if n < len then some (ic n - 1, m, n) else none

/-- What May answers: kc how many classes may be ahead of the first that may not, n how many methods. -/
def progW (nc kc nm n : Nat) (cv : Nat → Nat) (mv : Nat → Option (Nat × Int × Int)) : Option (Nat × Int × Int) :=
  if kc < nc then some (cv kc - 1, kc, -1) else if n < nm then mv n else none

/-- What keeps an instruction from being one: 0 nothing; else the listed error's number and 1. nb: what it names is there. -/
def instrC (nb : Bool) (cl : Nat) (op A B N : Int) : Nat :=
  if op < 1 ∨ 35 < op then 2
  else if nb = false then 3
  else if (op = 22 ∨ op = 23) ∧ inside A cl = false then 4
  else if (useA op = false ∧ A ≠ 0) ∨ (useB op = false ∧ B ≠ 0) ∨ (useN op = false ∧ N ≠ 0) then 3
  else 0

theorem boxes3_cells {ca : Option Addr} {nc cc : Nat} {ma : Option Addr} {nm mc : Nat} {ps ls rt : ByteArray} {co : Option Addr} {cl cp : Nat} {op A B N : Int} {w W : World} (hW : boxes3 ca nc cc ma nm mc ps ls rt co cl cp op A B N w = W) :
    W.heap[w.heap.size + 1]? = some (.cells #[.string ps, .string ls, .string rt, .slice co cl cp] 46 (0, 0)) ∧ W.heap[w.heap.size + 1 + 1]? = some (.cells #[.int .i64 op, .int .i64 A, .int .i64 B, .int .i64 N] 52 (0, 0)) := by
  subst hW
  unfold boxes3
  refine ⟨?_, ?_⟩
  · rw [Below.heap_alloc _ _ _ (by simp)]
    have := heap_alloc_new (w.alloc (.cells #[.slice ca nc cc, .slice ma nm mc] 50)) (.cells #[.string ps, .string ls, .string rt, .slice co cl cp] 46)
    simpa using this
  · have := heap_alloc_new ((w.alloc (.cells #[.slice ca nc cc, .slice ma nm mc] 50)).alloc (.cells #[.string ps, .string ls, .string rt, .slice co cl cp] 46)) (.cells #[.int .i64 op, .int .i64 A, .int .i64 B, .int .i64 N] 52)
    simpa using this

/-- What keeps instruction i of a method from being one. -/
def icOf (nc nm lo : Nat) (f : Nat → ByteArray) (len : Nat) (gv : Nat → Nat → Int) (i : Nat) : Nat :=
  instrC (namedB nc nm lo (fun i => (f i).size) (gv i 0) (gv i 1) (gv i 2)) len (gv i 0) (gv i 1) (gv i 2) (gv i 3)

structure Meth where
  ps : ByteArray
  ls : ByteArray
  rt : ByteArray
  co : Option Addr
  len : Nat
  cp : Nat
  gv : Nat → Nat → Int

/-- A program as it lies in memory. -/
structure Prg (w : World) (ca : Option Addr) (nc cc : Nat) (f : Nat → ByteArray) (ma : Option Addr) (nm mc : Nat) (ms : Nat → Meth) : Prop where
  cls : Cls w ca nc cc f
  le : nm ≤ mc
  max : mc ≤ maxLen
  nil : ma = none → mc = 0
  cells : ∀ ad, ma = some ad → ∀ i, i < nm → w.cell? (ad.add (i * 4)) = some (.string (ms i).ps) ∧ w.cell? (ad.add (i * 4 + 1)) = some (.string (ms i).ls) ∧ w.cell? (ad.add (i * 4 + 2)) = some (.string (ms i).rt) ∧ w.cell? (ad.add (i * 4 + 3)) = some (.slice (ms i).co (ms i).len (ms i).cp)
  code : ∀ i, i < nm → Picks w (ms i).co (ms i).len (ms i).cp (ms i).gv

theorem Prg_at {w : World} {ca : Option Addr} {nc cc : Nat} {f : Nat → ByteArray} {ma : Option Addr} {nm mc : Nat} {ms : Nat → Meth} (h : Prg w ca nc cc f ma nm mc ms) (hp : 0 < nm) :
    ∃ mb mo, ma = some ⟨mb, mo, none⟩ ∧ mb < w.heap.size ∧ ∀ i, i < nm → w.cell? ⟨mb, mo + i * 4, none⟩ = some (.string (ms i).ps) ∧ w.cell? ⟨mb, mo + i * 4 + 1, none⟩ = some (.string (ms i).ls) ∧ w.cell? ⟨mb, mo + i * 4 + 2, none⟩ = some (.string (ms i).rt) ∧ w.cell? ⟨mb, mo + i * 4 + 3, none⟩ = some (.slice (ms i).co (ms i).len (ms i).cp) := by
  cases ma with
  | none => have h1 := h.nil rfl; have h2 := h.le; omega
  | some ad =>
    obtain ⟨b, off, s⟩ := ad
    have h0 := (h.cells _ rfl 0 hp).1
    have hs : s = none := by simpa [Addr.add] using World.cell?_spot h0
    subst hs
    have e : ∀ k, (⟨b, off, none⟩ : Addr).add k = ⟨b, off + k, none⟩ := by
      intro k
      unfold Addr.add
      split
      · rename_i h; subst h; rfl
      · rfl
    rw [e] at h0
    refine ⟨b, off, rfl, World.block_lt_of_cell? w _ h0, fun i hi => ?_⟩
    have hc := h.cells _ rfl i hi
    rw [e, e, e, e] at hc
    exact hc

theorem Prg.below {w w' : World} {ca : Option Addr} {nc cc : Nat} {f : Nat → ByteArray} {ma : Option Addr} {nm mc : Nat} {ms : Nat → Meth} (h : Prg w ca nc cc f ma nm mc ms) (hb : Below w.heap.size w w') : Prg w' ca nc cc f ma nm mc ms :=
  ⟨h.cls.below hb, h.le, h.max, h.nil, fun ad had i hi => by
    obtain ⟨a0, a1, a2, a3⟩ := h.cells ad had i hi
    exact ⟨(hb.cell (World.block_lt_of_cell? w _ a0)).trans a0, (hb.cell (World.block_lt_of_cell? w _ a1)).trans a1, (hb.cell (World.block_lt_of_cell? w _ a2)).trans a2, (hb.cell (World.block_lt_of_cell? w _ a3)).trans a3⟩,
    fun i hi => (h.code i hi).below hb⟩

/-- Methods' texts and code are not long. -/
structure Sml (nc : Nat) (f : Nat → ByteArray) (nm : Nat) (ms : Nat → Meth) : Prop where
  fs : ∀ i, i < nc → (f i).size ≤ maxLen
  ps : ∀ i, i < nm → (ms i).ps.size ≤ 1000
  ls : ∀ i, i < nm → (ms i).ls.size ≤ 1000
  rt : ∀ i, i < nm → (ms i).rt.size ≤ 1000
  len : ∀ i, i < nm → (ms i).len ≤ 1000

/-- How many of n are good ahead of the first bad one. -/
def firstBad (bad : Nat → Bool) : Nat → Nat
  | 0 => 0
  | n + 1 => if firstBad bad n < n then firstBad bad n else if bad n = true then n else n + 1

theorem firstBad_le (bad : Nat → Bool) : ∀ n, firstBad bad n ≤ n
  | 0 => Nat.le_refl _
  | n + 1 => by
    unfold firstBad
    have := firstBad_le bad n
    split
    · omega
    · split <;> omega

theorem firstBad_ok (bad : Nat → Bool) : ∀ n i, i < firstBad bad n → bad i = false
  | 0, _, h => absurd h (Nat.not_lt_zero _)
  | n + 1, i, h => by
    unfold firstBad at h
    have ih := firstBad_ok bad n
    have hle := firstBad_le bad n
    split at h
    · exact ih i h
    · split at h
      · exact ih i (by omega)
      · rename_i h1 h2
        by_cases e : i = n
        · subst e; simpa using h2
        · exact ih i (by omega)

theorem firstBad_bad (bad : Nat → Bool) : ∀ n, firstBad bad n < n → bad (firstBad bad n) = true
  | 0, h => absurd h (Nat.not_lt_zero _)
  | n + 1, h => by
    unfold firstBad at h ⊢
    have ih := firstBad_bad bad n
    split
    · rename_i h1; exact ih h1
    · split
      · assumption
      · rename_i h1 h2
        rw [if_neg h1, if_neg h2] at h
        omega

/-- What keeps a class from being one. -/
noncomputable def clsC (s : ByteArray) : Nat := if 10 < s.size then 1 else if fairB s = true then 0 else 2

/-- Which answer a method gives: none, an integer, a reference; 3: no such thing. -/
def retK (s : ByteArray) : Nat := if s = ⟨#[]⟩ then 0 else if s = ⟨#[73]⟩ then 1 else if s = ⟨#[82]⟩ then 2 else 3

/-- What keeps a method's head from being one. fi: it is the first. -/
noncomputable def headA (fi : Bool) (ps ls rt : ByteArray) (len : Nat) : Nat :=
  if 12 < ps.size + ls.size ∨ len = 0 ∨ 120 < len then 1
  else if fairB ps = false ∨ fairB ls = false ∨ retK rt = 3 ∨ (fi = true ∧ (ps ≠ ⟨#[]⟩ ∨ retK rt = 2)) then 2 else 0

/-- What keeps instruction i of a method from being one. -/
def icA (nc nm : Nat) (f : Nat → ByteArray) (x : Meth) (i : Nat) : Nat := icOf nc nm (x.ps.size + x.ls.size) f x.len x.gv i

noncomputable def mthV (nc nm : Nat) (f : Nat → ByteArray) (ms : Nat → Meth) (m : Nat) : Option (Nat × Int × Int) :=
  methW (headA (decide (m = 0)) (ms m).ps (ms m).ls (ms m).rt (ms m).len) m (ms m).len (firstBad (fun i => decide (icA nc nm f (ms m) i ≠ 0)) (ms m).len) (icA nc nm f (ms m))

noncomputable def goodC (nc : Nat) (f : Nat → ByteArray) : Nat := firstBad (fun i => decide (clsC (f i) ≠ 0)) nc

noncomputable def goodM (nc nm : Nat) (f : Nat → ByteArray) (ms : Nat → Meth) : Nat := firstBad (fun m => (mthV nc nm f ms m).isSome) nm

/-- What keeps a program of few classes and methods from being one. -/
noncomputable def verdict (nc nm : Nat) (f : Nat → ByteArray) (ms : Nat → Meth) : Option (Nat × Int × Int) :=
  progW nc (goodC nc f) nm (goodM nc nm f ms) (fun i => clsC (f i)) (mthV nc nm f ms)

section

variable {nc nm : Nat} {f : Nat → ByteArray} {ms : Nat → Meth}

theorem goodC_le : goodC nc f ≤ nc := firstBad_le _ _

theorem goodC_ok {i : Nat} (h : i < goodC nc f) : clsC (f i) = 0 := by have := firstBad_ok _ _ _ h; simpa using this

theorem goodC_bad (h : goodC nc f < nc) : clsC (f (goodC nc f)) ≠ 0 := of_decide_eq_true (firstBad_bad (fun i => decide (clsC (f i) ≠ 0)) nc h)

theorem goodM_le : goodM nc nm f ms ≤ nm := firstBad_le _ _

theorem goodM_ok {i : Nat} (h : i < goodM nc nm f ms) : mthV nc nm f ms i = none := by have := firstBad_ok _ _ _ h; simpa using this

theorem goodM_bad (h : goodM nc nm f ms < nm) : mthV nc nm f ms (goodM nc nm f ms) ≠ none := by
  have := firstBad_bad (fun m => (mthV nc nm f ms m).isSome) nm h
  intro e
  have e2 : mthV nc nm f ms (firstBad (fun m => (mthV nc nm f ms m).isSome) nm) = none := e
  rw [e2] at this
  cases this

theorem goodI_le (x : Meth) : firstBad (fun i => decide (icA nc nm f x i ≠ 0)) x.len ≤ x.len := firstBad_le _ _

theorem goodI_ok (x : Meth) {i : Nat} (h : i < firstBad (fun i => decide (icA nc nm f x i ≠ 0)) x.len) : icA nc nm f x i = 0 := by have := firstBad_ok _ _ _ h; simpa using this

theorem goodI_bad (x : Meth) (h : firstBad (fun i => decide (icA nc nm f x i ≠ 0)) x.len < x.len) : icA nc nm f x (firstBad (fun i => decide (icA nc nm f x i ≠ 0)) x.len) ≠ 0 := of_decide_eq_true (firstBad_bad (fun i => decide (icA nc nm f x i ≠ 0)) x.len h)

end

/-- Whether something holds. -/
noncomputable def pB (p : Prop) : Bool := @decide p (Classical.propDecidable p)

theorem pB_yes {p : Prop} (h : p) : pB p = true := by unfold pB; exact @decide_eq_true _ (Classical.propDecidable _) h

theorem pB_no {p : Prop} (h : ¬ p) : pB p = false := by unfold pB; exact @decide_eq_false _ (Classical.propDecidable _) h

def SmB (b : Bool) (w : World) (e : Ending) (w' : World) : Prop := e = .returned (.bool b) ∧ Below w.heap.size w w'

theorem sm_next {p : Nat → Prop} {k : Nat} (h : ∀ i, i < k → p i) (hk : p k) : ∀ i, i < k + 1 → p i := fun i hi => by
  by_cases e : i = k
  · subst e; exact hk
  · exact h i (by omega)

/-- A fault's number. -/
def icode (c : Nat) : Int := if c = 0 then 0 else ((100 + c : Nat) : Int)

def RInt (r : Int) (w : World) (e : Ending) (w' : World) : Prop := e = .returned (.int .i64 r) ∧ Below w.heap.size w w'

section

variable {nb : Bool} {cl : Nat} {op A B N : Int}

theorem ic_kind (h : op < 1 ∨ 35 < op) : icode (instrC nb cl op A B N) = 102 := by rw [instrC, if_pos h]; rfl

theorem ic_named (h : ¬ (op < 1 ∨ 35 < op)) (hn : nb = false) : icode (instrC nb cl op A B N) = 103 := by rw [instrC, if_neg h, if_pos hn]; rfl

theorem ic_target (h : ¬ (op < 1 ∨ 35 < op)) (hn : nb = true) (hj : op = 22 ∨ op = 23) (ha : inside A cl = false) : icode (instrC nb cl op A B N) = 104 := by
  rw [instrC, if_neg h, if_neg (by rw [hn]; decide), if_pos ⟨hj, ha⟩]; rfl

theorem ic_use (h : ¬ (op < 1 ∨ 35 < op)) (hn : nb = true) (hj : ¬ ((op = 22 ∨ op = 23) ∧ inside A cl = false)) (hu : (useA op = false ∧ A ≠ 0) ∨ (useB op = false ∧ B ≠ 0) ∨ (useN op = false ∧ N ≠ 0)) : icode (instrC nb cl op A B N) = 103 := by
  rw [instrC, if_neg h, if_neg (by rw [hn]; decide), if_neg hj, if_pos hu]; rfl

theorem ic_fine (h : ¬ (op < 1 ∨ 35 < op)) (hn : nb = true) (hj : ¬ ((op = 22 ∨ op = 23) ∧ inside A cl = false)) (hu : ¬ ((useA op = false ∧ A ≠ 0) ∨ (useB op = false ∧ B ≠ 0) ∨ (useN op = false ∧ N ≠ 0))) : icode (instrC nb cl op A B N) = 0 := by
  rw [instrC, if_neg h, if_neg (by rw [hn]; decide), if_neg hj, if_neg hu]; rfl

end

theorem in_yes {i n : Int} (h0 : 0 ≤ i) (h1 : i < n) : inside i n = true := by simp [inside, h0, h1]

theorem in_no {i n : Int} (h : i < 0 ∨ n ≤ i) : inside i n = false := by simp [inside]; omega

theorem icleaf {r R : Int} {nb : Bool} {cl : Nat} {op A B N : Int} (hR : Hid (icode (instrC nb cl op A B N) = R)) (h : icode (instrC nb cl op A B N) = r) : Ending.returned (.int .i64 r) = Ending.returned (.int .i64 R) := by rw [← h, hR.out]

/-- What lies in the three boxes. -/
theorem boxes3_all {ca : Option Addr} {nc cc : Nat} {ma : Option Addr} {nm mc : Nat} {ps ls rt : ByteArray} {co : Option Addr} {cl cp : Nat} {op A B N : Int} {w W : World} (hW : boxes3 ca nc cc ma nm mc ps ls rt co cl cp op A B N w = W) :
    (W.cell? ⟨w.heap.size, 0, none⟩ = some (.slice ca nc cc) ∧ W.cell? ⟨w.heap.size, 1, none⟩ = some (.slice ma nm mc)) ∧
    (W.cell? ⟨w.heap.size + 1, 0, none⟩ = some (.string ps) ∧ W.cell? ⟨w.heap.size + 1, 1, none⟩ = some (.string ls) ∧ W.cell? ⟨w.heap.size + 1, 3, none⟩ = some (.slice co cl cp)) ∧
    W.cell? ⟨w.heap.size + 1 + 1, 0, none⟩ = some (.int .i64 op) ∧ W.cell? ⟨w.heap.size + 1 + 1, 1, none⟩ = some (.int .i64 A) ∧ W.cell? ⟨w.heap.size + 1 + 1, 2, none⟩ = some (.int .i64 B) ∧ W.cell? ⟨w.heap.size + 1 + 1, 3, none⟩ = some (.int .i64 N) := by
  obtain ⟨q1, q2⟩ := boxes3_cells hW
  have q0 : W.heap[w.heap.size]? = some (.cells #[.slice ca nc cc, .slice ma nm mc] 50 (0, 0)) := by
    rw [← hW]; unfold boxes3
    rw [Below.heap_alloc _ _ _ (by simp; omega), Below.heap_alloc _ _ _ (by simp)]
    exact heap_alloc_new w _
  exact ⟨⟨(cell_of_row _ _ 0 _ 50 (0, 0) q0).trans rfl, (cell_of_row _ _ 1 _ 50 (0, 0) q0).trans rfl⟩,
    ⟨(cell_of_row _ _ 0 _ 46 (0, 0) q1).trans rfl, (cell_of_row _ _ 1 _ 46 (0, 0) q1).trans rfl, (cell_of_row _ _ 3 _ 46 (0, 0) q1).trans rfl⟩,
    (cell_of_row _ _ 0 _ 52 (0, 0) q2).trans rfl, (cell_of_row _ _ 1 _ 52 (0, 0) q2).trans rfl, (cell_of_row _ _ 2 _ 52 (0, 0) q2).trans rfl, (cell_of_row _ _ 3 _ 52 (0, 0) q2).trans rfl⟩

set_option maxHeartbeats 4000000 in
set_option maxRecDepth 100000 in
theorem rinstr_kind (ca : Option Addr) (nc cc : Nat) (ma : Option Addr) (nm mc : Nat) (f : Nat → ByteArray) (ps ls rt : ByteArray) (co : Option Addr) (cl cp : Nat) (op A B N : Int) (w : World) (h1 : ps.size ≤ 1000000) (h2 : ls.size ≤ 1000000) (_h3 : nc ≤ 1000000) (hC : Cls w ca nc cc f) (hop : op < 1 ∨ 35 < op) :
    Calls Tryd.prog 104 #[.agg #[.slice ca nc cc, .slice ma nm mc], .agg #[.string ps, .string ls, .string rt, .slice co cl cp], .agg #[.int .i64 op, .int .i64 A, .int .i64 B, .int .i64 N]] w (RInt (icode (instrC (namedB nc nm ((ps.size : Int) + ls.size) (fun i => (f i).size) op A B) cl op A B N)) w) := by
  have hb := boxes3_below ca nc cc ma nm mc ps ls rt co cl cp op A B N w
  obtain ⟨W, hW⟩ : ∃ W, boxes3 ca nc cc ma nm mc ps ls rt co cl cp op A B N w = W := ⟨_, rfl⟩
  obtain ⟨⟨p0, p1⟩, ⟨m0, m1, m3⟩, i0, i1, i2, i3⟩ := boxes3_all hW
  rw [hW] at hb
  have HC := Lib.hid (hC.below hb)
  have HB := Lib.hid hb
  unfold boxes3 at hW
  clear hb hC
  obtain ⟨R, hR⟩ : ∃ R, icode (instrC (namedB nc nm ((ps.size : Int) + ls.size) (fun i => (f i).size) op A B) cl op A B N) = R := ⟨_, rfl⟩
  have HR := Lib.hid hR
  rw [hR]
  clear hR
  rcases hop with h | h
  · have t1 : decide (op < 1) = true := by simpa using h
    go_enter Tryd.func104, Tryd.ntmps104
    go_wp2_with fail
    go_ret
    exact ⟨icleaf HR (ic_kind (.inl h)), HB.out⟩
  · have t1 : decide (op < 1) = false := by simp; omega
    have t2 : decide (35 < op) = true := by simpa using h
    go_enter Tryd.func104, Tryd.ntmps104
    go_wp2_with fail
    go_ret
    exact ⟨icleaf HR (ic_kind (.inr h)), HB.out⟩

set_option maxHeartbeats 4000000 in
set_option maxRecDepth 100000 in
theorem rinstr_ls (ca : Option Addr) (nc cc : Nat) (ma : Option Addr) (nm mc : Nat) (f : Nat → ByteArray) (ps ls rt : ByteArray) (co : Option Addr) (cl cp : Nat) (op A B N : Int) (w : World) (h1 : ps.size ≤ 1000000) (h2 : ls.size ≤ 1000000) (_h3 : nc ≤ 1000000) (hC : Cls w ca nc cc f) (hop : op = 3 ∨ op = 4) :
    Calls Tryd.prog 104 #[.agg #[.slice ca nc cc, .slice ma nm mc], .agg #[.string ps, .string ls, .string rt, .slice co cl cp], .agg #[.int .i64 op, .int .i64 A, .int .i64 B, .int .i64 N]] w (RInt (icode (instrC (namedB nc nm ((ps.size : Int) + ls.size) (fun i => (f i).size) op A B) cl op A B N)) w) := by
  have hb := boxes3_below ca nc cc ma nm mc ps ls rt co cl cp op A B N w
  obtain ⟨W, hW⟩ : ∃ W, boxes3 ca nc cc ma nm mc ps ls rt co cl cp op A B N w = W := ⟨_, rfl⟩
  obtain ⟨⟨p0, p1⟩, ⟨m0, m1, m3⟩, i0, i1, i2, i3⟩ := boxes3_all hW
  rw [hW] at hb
  have HC := Lib.hid (hC.below hb)
  have HB := Lib.hid hb
  unfold boxes3 at hW
  clear hb hC
  obtain ⟨R, hR⟩ : ∃ R, icode (instrC (namedB nc nm ((ps.size : Int) + ls.size) (fun i => (f i).size) op A B) cl op A B N) = R := ⟨_, rfl⟩
  have HR := Lib.hid hR
  rw [hR]
  clear hR
  rcases hop with rfl | rfl
  · have UA : Hid (∀ w, Calls Tryd.prog 154 #[.int .i64 3] w fun e w' => e = .returned (.bool true) ∧ w = w') := Lib.hid fun w => rusesA_any _ w
    have UB : Hid (∀ w, Calls Tryd.prog 153 #[.int .i64 3] w fun e w' => e = .returned (.bool false) ∧ w = w') := Lib.hid fun w => rusesB_any _ w
    go_enter Tryd.func104, Tryd.ntmps104
    go_wp2_with (first | (go_at_call 154; refine (UA.out _).mono ?_; rintro e w' ⟨rfl, rfl⟩) | (go_at_call 153; refine (UB.out _).mono ?_; rintro e w' ⟨rfl, rfl⟩))
    all_goals
      go_ret
      try simp only [bne_iff_ne, bne_eq_false_iff_eq, ne_eq] at *
      first
        | exact ⟨icleaf HR (ic_named (by omega) (in_no (by omega))), by first | exact HB.out | exact below_drewN HB.out _⟩
        | exact ⟨icleaf HR (ic_use (by omega) (in_yes (by omega) (by omega)) (by rintro ⟨h, _⟩; omega) (by simp [useA, useB, useN]; omega)), by first | exact HB.out | exact below_drewN HB.out _⟩
        | exact ⟨icleaf HR (ic_fine (by omega) (in_yes (by omega) (by omega)) (by rintro ⟨h, _⟩; omega) (by simp [useA, useB, useN]; omega)), by first | exact HB.out | exact below_drewN HB.out _⟩
  · have UA : Hid (∀ w, Calls Tryd.prog 154 #[.int .i64 4] w fun e w' => e = .returned (.bool true) ∧ w = w') := Lib.hid fun w => rusesA_any _ w
    have UB : Hid (∀ w, Calls Tryd.prog 153 #[.int .i64 4] w fun e w' => e = .returned (.bool false) ∧ w = w') := Lib.hid fun w => rusesB_any _ w
    go_enter Tryd.func104, Tryd.ntmps104
    go_wp2_with (first | (go_at_call 154; refine (UA.out _).mono ?_; rintro e w' ⟨rfl, rfl⟩) | (go_at_call 153; refine (UB.out _).mono ?_; rintro e w' ⟨rfl, rfl⟩))
    all_goals
      go_ret
      try simp only [bne_iff_ne, bne_eq_false_iff_eq, ne_eq] at *
      first
        | exact ⟨icleaf HR (ic_named (by omega) (in_no (by omega))), by first | exact HB.out | exact below_drewN HB.out _⟩
        | exact ⟨icleaf HR (ic_use (by omega) (in_yes (by omega) (by omega)) (by rintro ⟨h, _⟩; omega) (by simp [useA, useB, useN]; omega)), by first | exact HB.out | exact below_drewN HB.out _⟩
        | exact ⟨icleaf HR (ic_fine (by omega) (in_yes (by omega) (by omega)) (by rintro ⟨h, _⟩; omega) (by simp [useA, useB, useN]; omega)), by first | exact HB.out | exact below_drewN HB.out _⟩

set_option maxHeartbeats 4000000 in
set_option maxRecDepth 100000 in
theorem rinstr_arr (ca : Option Addr) (nc cc : Nat) (ma : Option Addr) (nm mc : Nat) (f : Nat → ByteArray) (ps ls rt : ByteArray) (co : Option Addr) (cl cp : Nat) (op A B N : Int) (w : World) (h1 : ps.size ≤ 1000000) (h2 : ls.size ≤ 1000000) (_h3 : nc ≤ 1000000) (hC : Cls w ca nc cc f) (hop : op = 28 ∨ op = 29 ∨ op = 30) :
    Calls Tryd.prog 104 #[.agg #[.slice ca nc cc, .slice ma nm mc], .agg #[.string ps, .string ls, .string rt, .slice co cl cp], .agg #[.int .i64 op, .int .i64 A, .int .i64 B, .int .i64 N]] w (RInt (icode (instrC (namedB nc nm ((ps.size : Int) + ls.size) (fun i => (f i).size) op A B) cl op A B N)) w) := by
  have hb := boxes3_below ca nc cc ma nm mc ps ls rt co cl cp op A B N w
  obtain ⟨W, hW⟩ : ∃ W, boxes3 ca nc cc ma nm mc ps ls rt co cl cp op A B N w = W := ⟨_, rfl⟩
  obtain ⟨⟨p0, p1⟩, ⟨m0, m1, m3⟩, i0, i1, i2, i3⟩ := boxes3_all hW
  rw [hW] at hb
  have HC := Lib.hid (hC.below hb)
  have HB := Lib.hid hb
  unfold boxes3 at hW
  clear hb hC
  obtain ⟨R, hR⟩ : ∃ R, icode (instrC (namedB nc nm ((ps.size : Int) + ls.size) (fun i => (f i).size) op A B) cl op A B N) = R := ⟨_, rfl⟩
  have HR := Lib.hid hR
  rw [hR]
  clear hR
  rcases hop with rfl | rfl | rfl
  · have UA : Hid (∀ w, Calls Tryd.prog 154 #[.int .i64 28] w fun e w' => e = .returned (.bool true) ∧ w = w') := Lib.hid fun w => rusesA_any _ w
    have UB : Hid (∀ w, Calls Tryd.prog 153 #[.int .i64 28] w fun e w' => e = .returned (.bool false) ∧ w = w') := Lib.hid fun w => rusesB_any _ w
    go_enter Tryd.func104, Tryd.ntmps104
    go_wp2_with (first | (go_at_call 154; refine (UA.out _).mono ?_; rintro e w' ⟨rfl, rfl⟩) | (go_at_call 153; refine (UB.out _).mono ?_; rintro e w' ⟨rfl, rfl⟩))
    all_goals
      go_ret
      try simp only [bne_iff_ne, bne_eq_false_iff_eq, ne_eq] at *
      first
        | exact ⟨icleaf HR (ic_named (by omega) (in_no (by omega))), by first | exact HB.out | exact below_drewN HB.out _⟩
        | exact ⟨icleaf HR (ic_use (by omega) (in_yes (by omega) (by omega)) (by rintro ⟨h, _⟩; omega) (by simp [useA, useB, useN]; omega)), by first | exact HB.out | exact below_drewN HB.out _⟩
        | exact ⟨icleaf HR (ic_fine (by omega) (in_yes (by omega) (by omega)) (by rintro ⟨h, _⟩; omega) (by simp [useA, useB, useN]; omega)), by first | exact HB.out | exact below_drewN HB.out _⟩
  · have UA : Hid (∀ w, Calls Tryd.prog 154 #[.int .i64 29] w fun e w' => e = .returned (.bool true) ∧ w = w') := Lib.hid fun w => rusesA_any _ w
    have UB : Hid (∀ w, Calls Tryd.prog 153 #[.int .i64 29] w fun e w' => e = .returned (.bool false) ∧ w = w') := Lib.hid fun w => rusesB_any _ w
    go_enter Tryd.func104, Tryd.ntmps104
    go_wp2_with (first | (go_at_call 154; refine (UA.out _).mono ?_; rintro e w' ⟨rfl, rfl⟩) | (go_at_call 153; refine (UB.out _).mono ?_; rintro e w' ⟨rfl, rfl⟩))
    all_goals
      go_ret
      try simp only [bne_iff_ne, bne_eq_false_iff_eq, ne_eq] at *
      first
        | exact ⟨icleaf HR (ic_named (by omega) (in_no (by omega))), by first | exact HB.out | exact below_drewN HB.out _⟩
        | exact ⟨icleaf HR (ic_use (by omega) (in_yes (by omega) (by omega)) (by rintro ⟨h, _⟩; omega) (by simp [useA, useB, useN]; omega)), by first | exact HB.out | exact below_drewN HB.out _⟩
        | exact ⟨icleaf HR (ic_fine (by omega) (in_yes (by omega) (by omega)) (by rintro ⟨h, _⟩; omega) (by simp [useA, useB, useN]; omega)), by first | exact HB.out | exact below_drewN HB.out _⟩
  · have UA : Hid (∀ w, Calls Tryd.prog 154 #[.int .i64 30] w fun e w' => e = .returned (.bool true) ∧ w = w') := Lib.hid fun w => rusesA_any _ w
    have UB : Hid (∀ w, Calls Tryd.prog 153 #[.int .i64 30] w fun e w' => e = .returned (.bool false) ∧ w = w') := Lib.hid fun w => rusesB_any _ w
    go_enter Tryd.func104, Tryd.ntmps104
    go_wp2_with (first | (go_at_call 154; refine (UA.out _).mono ?_; rintro e w' ⟨rfl, rfl⟩) | (go_at_call 153; refine (UB.out _).mono ?_; rintro e w' ⟨rfl, rfl⟩))
    all_goals
      go_ret
      try simp only [bne_iff_ne, bne_eq_false_iff_eq, ne_eq] at *
      first
        | exact ⟨icleaf HR (ic_named (by omega) (in_no (by omega))), by first | exact HB.out | exact below_drewN HB.out _⟩
        | exact ⟨icleaf HR (ic_use (by omega) (in_yes (by omega) (by omega)) (by rintro ⟨h, _⟩; omega) (by simp [useA, useB, useN]; omega)), by first | exact HB.out | exact below_drewN HB.out _⟩
        | exact ⟨icleaf HR (ic_fine (by omega) (in_yes (by omega) (by omega)) (by rintro ⟨h, _⟩; omega) (by simp [useA, useB, useN]; omega)), by first | exact HB.out | exact below_drewN HB.out _⟩

set_option maxHeartbeats 4000000 in
set_option maxRecDepth 100000 in
theorem rinstr_call (ca : Option Addr) (nc cc : Nat) (ma : Option Addr) (nm mc : Nat) (f : Nat → ByteArray) (ps ls rt : ByteArray) (co : Option Addr) (cl cp : Nat) (op A B N : Int) (w : World) (h1 : ps.size ≤ 1000000) (h2 : ls.size ≤ 1000000) (_h3 : nc ≤ 1000000) (hC : Cls w ca nc cc f) (hop : op = 32) :
    Calls Tryd.prog 104 #[.agg #[.slice ca nc cc, .slice ma nm mc], .agg #[.string ps, .string ls, .string rt, .slice co cl cp], .agg #[.int .i64 op, .int .i64 A, .int .i64 B, .int .i64 N]] w (RInt (icode (instrC (namedB nc nm ((ps.size : Int) + ls.size) (fun i => (f i).size) op A B) cl op A B N)) w) := by
  have hb := boxes3_below ca nc cc ma nm mc ps ls rt co cl cp op A B N w
  obtain ⟨W, hW⟩ : ∃ W, boxes3 ca nc cc ma nm mc ps ls rt co cl cp op A B N w = W := ⟨_, rfl⟩
  obtain ⟨⟨p0, p1⟩, ⟨m0, m1, m3⟩, i0, i1, i2, i3⟩ := boxes3_all hW
  rw [hW] at hb
  have HC := Lib.hid (hC.below hb)
  have HB := Lib.hid hb
  unfold boxes3 at hW
  clear hb hC
  obtain ⟨R, hR⟩ : ∃ R, icode (instrC (namedB nc nm ((ps.size : Int) + ls.size) (fun i => (f i).size) op A B) cl op A B N) = R := ⟨_, rfl⟩
  have HR := Lib.hid hR
  rw [hR]
  clear hR
  subst hop
  · have UA : Hid (∀ w, Calls Tryd.prog 154 #[.int .i64 32] w fun e w' => e = .returned (.bool true) ∧ w = w') := Lib.hid fun w => rusesA_any _ w
    have UB : Hid (∀ w, Calls Tryd.prog 153 #[.int .i64 32] w fun e w' => e = .returned (.bool false) ∧ w = w') := Lib.hid fun w => rusesB_any _ w
    go_enter Tryd.func104, Tryd.ntmps104
    go_wp2_with (first | (go_at_call 154; refine (UA.out _).mono ?_; rintro e w' ⟨rfl, rfl⟩) | (go_at_call 153; refine (UB.out _).mono ?_; rintro e w' ⟨rfl, rfl⟩))
    all_goals
      go_ret
      try simp only [bne_iff_ne, bne_eq_false_iff_eq, ne_eq] at *
      first
        | exact ⟨icleaf HR (ic_named (by omega) (by simp [namedB]; omega)), by first | exact HB.out | exact below_drewN HB.out _⟩
        | exact ⟨icleaf HR (ic_use (by omega) (by simp [namedB]; omega) (by rintro ⟨h, _⟩; omega) (by simp [useA, useB, useN]; omega)), by first | exact HB.out | exact below_drewN HB.out _⟩
        | exact ⟨icleaf HR (ic_fine (by omega) (by simp [namedB]; omega) (by rintro ⟨h, _⟩; omega) (by simp [useA, useB, useN]; omega)), by first | exact HB.out | exact below_drewN HB.out _⟩

set_option maxHeartbeats 4000000 in
set_option maxRecDepth 100000 in
theorem rinstr_jump (ca : Option Addr) (nc cc : Nat) (ma : Option Addr) (nm mc : Nat) (f : Nat → ByteArray) (ps ls rt : ByteArray) (co : Option Addr) (cl cp : Nat) (op A B N : Int) (w : World) (h1 : ps.size ≤ 1000000) (h2 : ls.size ≤ 1000000) (_h3 : nc ≤ 1000000) (hC : Cls w ca nc cc f) (hop : op = 22 ∨ op = 23) :
    Calls Tryd.prog 104 #[.agg #[.slice ca nc cc, .slice ma nm mc], .agg #[.string ps, .string ls, .string rt, .slice co cl cp], .agg #[.int .i64 op, .int .i64 A, .int .i64 B, .int .i64 N]] w (RInt (icode (instrC (namedB nc nm ((ps.size : Int) + ls.size) (fun i => (f i).size) op A B) cl op A B N)) w) := by
  have hb := boxes3_below ca nc cc ma nm mc ps ls rt co cl cp op A B N w
  obtain ⟨W, hW⟩ : ∃ W, boxes3 ca nc cc ma nm mc ps ls rt co cl cp op A B N w = W := ⟨_, rfl⟩
  obtain ⟨⟨p0, p1⟩, ⟨m0, m1, m3⟩, i0, i1, i2, i3⟩ := boxes3_all hW
  rw [hW] at hb
  have HC := Lib.hid (hC.below hb)
  have HB := Lib.hid hb
  unfold boxes3 at hW
  clear hb hC
  obtain ⟨R, hR⟩ : ∃ R, icode (instrC (namedB nc nm ((ps.size : Int) + ls.size) (fun i => (f i).size) op A B) cl op A B N) = R := ⟨_, rfl⟩
  have HR := Lib.hid hR
  rw [hR]
  clear hR
  rcases hop with rfl | rfl
  · have UA : Hid (∀ w, Calls Tryd.prog 154 #[.int .i64 22] w fun e w' => e = .returned (.bool true) ∧ w = w') := Lib.hid fun w => rusesA_any _ w
    have UB : Hid (∀ w, Calls Tryd.prog 153 #[.int .i64 22] w fun e w' => e = .returned (.bool false) ∧ w = w') := Lib.hid fun w => rusesB_any _ w
    go_enter Tryd.func104, Tryd.ntmps104
    go_wp2_with (first | (go_at_call 154; refine (UA.out _).mono ?_; rintro e w' ⟨rfl, rfl⟩) | (go_at_call 153; refine (UB.out _).mono ?_; rintro e w' ⟨rfl, rfl⟩))
    all_goals
      go_ret
      try simp only [bne_iff_ne, bne_eq_false_iff_eq, ne_eq] at *
      first
        | exact ⟨icleaf HR (ic_target (by omega) rfl (by omega) (in_no (by omega))), by first | exact HB.out | exact below_drewN HB.out _⟩
        | exact ⟨icleaf HR (ic_use (by omega) (rfl) (by rintro ⟨_, h⟩; rw [in_yes (by omega) (by omega)] at h; cases h) (by simp [useA, useB, useN]; omega)), by first | exact HB.out | exact below_drewN HB.out _⟩
        | exact ⟨icleaf HR (ic_fine (by omega) (rfl) (by rintro ⟨_, h⟩; rw [in_yes (by omega) (by omega)] at h; cases h) (by simp [useA, useB, useN]; omega)), by first | exact HB.out | exact below_drewN HB.out _⟩
  · have UA : Hid (∀ w, Calls Tryd.prog 154 #[.int .i64 23] w fun e w' => e = .returned (.bool true) ∧ w = w') := Lib.hid fun w => rusesA_any _ w
    have UB : Hid (∀ w, Calls Tryd.prog 153 #[.int .i64 23] w fun e w' => e = .returned (.bool false) ∧ w = w') := Lib.hid fun w => rusesB_any _ w
    go_enter Tryd.func104, Tryd.ntmps104
    go_wp2_with (first | (go_at_call 154; refine (UA.out _).mono ?_; rintro e w' ⟨rfl, rfl⟩) | (go_at_call 153; refine (UB.out _).mono ?_; rintro e w' ⟨rfl, rfl⟩))
    all_goals
      go_ret
      try simp only [bne_iff_ne, bne_eq_false_iff_eq, ne_eq] at *
      first
        | exact ⟨icleaf HR (ic_target (by omega) rfl (by omega) (in_no (by omega))), by first | exact HB.out | exact below_drewN HB.out _⟩
        | exact ⟨icleaf HR (ic_use (by omega) (rfl) (by rintro ⟨_, h⟩; rw [in_yes (by omega) (by omega)] at h; cases h) (by simp [useA, useB, useN]; omega)), by first | exact HB.out | exact below_drewN HB.out _⟩
        | exact ⟨icleaf HR (ic_fine (by omega) (rfl) (by rintro ⟨_, h⟩; rw [in_yes (by omega) (by omega)] at h; cases h) (by simp [useA, useB, useN]; omega)), by first | exact HB.out | exact below_drewN HB.out _⟩

set_option maxHeartbeats 4000000 in
set_option maxRecDepth 100000 in
theorem rinstr_cls (ca : Option Addr) (nc cc : Nat) (ma : Option Addr) (nm mc : Nat) (f : Nat → ByteArray) (ps ls rt : ByteArray) (co : Option Addr) (cl cp : Nat) (op A B N : Int) (w : World) (h1 : ps.size ≤ 1000000) (h2 : ls.size ≤ 1000000) (h3 : nc ≤ 1000000) (hC : Cls w ca nc cc f) (hop : op = 24 ∨ op = 27) :
    Calls Tryd.prog 104 #[.agg #[.slice ca nc cc, .slice ma nm mc], .agg #[.string ps, .string ls, .string rt, .slice co cl cp], .agg #[.int .i64 op, .int .i64 A, .int .i64 B, .int .i64 N]] w (RInt (icode (instrC (namedB nc nm ((ps.size : Int) + ls.size) (fun i => (f i).size) op A B) cl op A B N)) w) := by
  have hb := boxes3_below ca nc cc ma nm mc ps ls rt co cl cp op A B N w
  obtain ⟨W, hW⟩ : ∃ W, boxes3 ca nc cc ma nm mc ps ls rt co cl cp op A B N w = W := ⟨_, rfl⟩
  obtain ⟨⟨p0, p1⟩, ⟨m0, m1, m3⟩, i0, i1, i2, i3⟩ := boxes3_all hW
  rw [hW] at hb
  have HC := Lib.hid (hC.below hb)
  have HB := Lib.hid hb
  unfold boxes3 at hW
  clear hb hC
  obtain ⟨R, hR⟩ : ∃ R, icode (instrC (namedB nc nm ((ps.size : Int) + ls.size) (fun i => (f i).size) op A B) cl op A B N) = R := ⟨_, rfl⟩
  have HR := Lib.hid hR
  rw [hR]
  clear hR
  rcases hop with rfl | rfl
  · have UA : Hid (∀ w, Calls Tryd.prog 154 #[.int .i64 24] w fun e w' => e = .returned (.bool true) ∧ w = w') := Lib.hid fun w => rusesA_any _ w
    have UB : Hid (∀ w, Calls Tryd.prog 153 #[.int .i64 24] w fun e w' => e = .returned (.bool false) ∧ w = w') := Lib.hid fun w => rusesB_any _ w
    have K : ∀ nq, Hid (Calls Tryd.prog 153 #[.int .i64 24] (W.drewN nq) fun e w' => e = .returned (.bool false) ∧ w' = W.drewN nq) := fun nq => Lib.hid ((UB.out _).mono (by rintro e w' ⟨h, rfl⟩; exact ⟨h, rfl⟩))
    by_cases hA0 : A < 0
    · have t1 : decide (A < 0) = true := by simpa using hA0
      go_enter Tryd.func104, Tryd.ntmps104
      go_wp2_with fail
      go_quiet ((go_at_call 153; exact Calls.quiet_of_same (K _).out))
      go_wp2_with (first | (go_at_call 154; refine (UA.out _).mono ?_; rintro e w' ⟨rfl, rfl⟩) | (go_at_call 153; refine (UB.out _).mono ?_; rintro e w' ⟨rfl, rfl⟩))
      all_goals
        go_ret
        try simp only at *
        first
          | exact ⟨icleaf HR (ic_named (by omega) (in_no (by omega))), by first | exact HB.out | exact below_drewN HB.out _⟩
          | exact ⟨icleaf HR (ic_use (by omega) (in_yes (by omega) (by omega)) (by rintro ⟨h, _⟩; omega) (by simp [useA, useB, useN]; omega)), by first | exact HB.out | exact below_drewN HB.out _⟩
          | exact ⟨icleaf HR (ic_fine (by omega) (in_yes (by omega) (by omega)) (by rintro ⟨h, _⟩; omega) (by simp [useA, useB, useN]; omega)), by first | exact HB.out | exact below_drewN HB.out _⟩
    · have t1 : decide (A < 0) = false := by simp; omega
      obtain ⟨k, rfl⟩ : ∃ k : Nat, A = k := ⟨A.toNat, by omega⟩
      by_cases hA1 : k < nc
      · obtain ⟨b, off, rfl, hblt, hc⟩ := Cls_at HC.out (by omega)
        have hck := hc k hA1
        have t2 : decide (nc ≤ k) = false := by simp; omega
        have t2' : decide ((nc : Int) ≤ (k : Int)) = false := by simp; omega
        clear hc
        go_enter Tryd.func104, Tryd.ntmps104
        go_wp2_with fail
        go_quiet ((go_at_call 153; exact Calls.quiet_of_same (K _).out))
        go_wp2_with (first | (go_at_call 154; refine (UA.out _).mono ?_; rintro e w' ⟨rfl, rfl⟩) | (go_at_call 153; refine (UB.out _).mono ?_; rintro e w' ⟨rfl, rfl⟩))
        all_goals
          go_ret
          try simp only [bne_iff_ne, bne_eq_false_iff_eq, ne_eq] at *
          first
            | exact ⟨icleaf HR (ic_named (by omega) (in_no (by omega))), by first | exact HB.out | exact below_drewN HB.out _⟩
            | exact ⟨icleaf HR (ic_use (by omega) (in_yes (by omega) (by omega)) (by rintro ⟨h, _⟩; omega) (by simp [useA, useB, useN]; omega)), by first | exact HB.out | exact below_drewN HB.out _⟩
            | exact ⟨icleaf HR (ic_fine (by omega) (in_yes (by omega) (by omega)) (by rintro ⟨h, _⟩; omega) (by simp [useA, useB, useN]; omega)), by first | exact HB.out | exact below_drewN HB.out _⟩
      · have t2 : decide (nc ≤ k) = true := by simp; omega
        have t2' : decide ((nc : Int) ≤ (k : Int)) = true := by simp; omega
        go_enter Tryd.func104, Tryd.ntmps104
        go_wp2_with fail
        go_quiet ((go_at_call 153; exact Calls.quiet_of_same (K _).out))
        go_wp2_with (first | (go_at_call 154; refine (UA.out _).mono ?_; rintro e w' ⟨rfl, rfl⟩) | (go_at_call 153; refine (UB.out _).mono ?_; rintro e w' ⟨rfl, rfl⟩))
        all_goals
          go_ret
          try simp only at *
          first
            | exact ⟨icleaf HR (ic_named (by omega) (in_no (by omega))), by first | exact HB.out | exact below_drewN HB.out _⟩
            | exact ⟨icleaf HR (ic_use (by omega) (in_yes (by omega) (by omega)) (by rintro ⟨h, _⟩; omega) (by simp [useA, useB, useN]; omega)), by first | exact HB.out | exact below_drewN HB.out _⟩
            | exact ⟨icleaf HR (ic_fine (by omega) (in_yes (by omega) (by omega)) (by rintro ⟨h, _⟩; omega) (by simp [useA, useB, useN]; omega)), by first | exact HB.out | exact below_drewN HB.out _⟩
  · have UA : Hid (∀ w, Calls Tryd.prog 154 #[.int .i64 27] w fun e w' => e = .returned (.bool true) ∧ w = w') := Lib.hid fun w => rusesA_any _ w
    have UB : Hid (∀ w, Calls Tryd.prog 153 #[.int .i64 27] w fun e w' => e = .returned (.bool false) ∧ w = w') := Lib.hid fun w => rusesB_any _ w
    have K : ∀ nq, Hid (Calls Tryd.prog 153 #[.int .i64 27] (W.drewN nq) fun e w' => e = .returned (.bool false) ∧ w' = W.drewN nq) := fun nq => Lib.hid ((UB.out _).mono (by rintro e w' ⟨h, rfl⟩; exact ⟨h, rfl⟩))
    by_cases hA0 : A < 0
    · have t1 : decide (A < 0) = true := by simpa using hA0
      go_enter Tryd.func104, Tryd.ntmps104
      go_wp2_with fail
      go_quiet ((go_at_call 153; exact Calls.quiet_of_same (K _).out))
      go_wp2_with (first | (go_at_call 154; refine (UA.out _).mono ?_; rintro e w' ⟨rfl, rfl⟩) | (go_at_call 153; refine (UB.out _).mono ?_; rintro e w' ⟨rfl, rfl⟩))
      all_goals
        go_ret
        try simp only at *
        first
          | exact ⟨icleaf HR (ic_named (by omega) (in_no (by omega))), by first | exact HB.out | exact below_drewN HB.out _⟩
          | exact ⟨icleaf HR (ic_use (by omega) (in_yes (by omega) (by omega)) (by rintro ⟨h, _⟩; omega) (by simp [useA, useB, useN]; omega)), by first | exact HB.out | exact below_drewN HB.out _⟩
          | exact ⟨icleaf HR (ic_fine (by omega) (in_yes (by omega) (by omega)) (by rintro ⟨h, _⟩; omega) (by simp [useA, useB, useN]; omega)), by first | exact HB.out | exact below_drewN HB.out _⟩
    · have t1 : decide (A < 0) = false := by simp; omega
      obtain ⟨k, rfl⟩ : ∃ k : Nat, A = k := ⟨A.toNat, by omega⟩
      by_cases hA1 : k < nc
      · obtain ⟨b, off, rfl, hblt, hc⟩ := Cls_at HC.out (by omega)
        have hck := hc k hA1
        have t2 : decide (nc ≤ k) = false := by simp; omega
        have t2' : decide ((nc : Int) ≤ (k : Int)) = false := by simp; omega
        clear hc
        go_enter Tryd.func104, Tryd.ntmps104
        go_wp2_with fail
        go_quiet ((go_at_call 153; exact Calls.quiet_of_same (K _).out))
        go_wp2_with (first | (go_at_call 154; refine (UA.out _).mono ?_; rintro e w' ⟨rfl, rfl⟩) | (go_at_call 153; refine (UB.out _).mono ?_; rintro e w' ⟨rfl, rfl⟩))
        all_goals
          go_ret
          try simp only [bne_iff_ne, bne_eq_false_iff_eq, ne_eq] at *
          first
            | exact ⟨icleaf HR (ic_named (by omega) (in_no (by omega))), by first | exact HB.out | exact below_drewN HB.out _⟩
            | exact ⟨icleaf HR (ic_use (by omega) (in_yes (by omega) (by omega)) (by rintro ⟨h, _⟩; omega) (by simp [useA, useB, useN]; omega)), by first | exact HB.out | exact below_drewN HB.out _⟩
            | exact ⟨icleaf HR (ic_fine (by omega) (in_yes (by omega) (by omega)) (by rintro ⟨h, _⟩; omega) (by simp [useA, useB, useN]; omega)), by first | exact HB.out | exact below_drewN HB.out _⟩
      · have t2 : decide (nc ≤ k) = true := by simp; omega
        have t2' : decide ((nc : Int) ≤ (k : Int)) = true := by simp; omega
        go_enter Tryd.func104, Tryd.ntmps104
        go_wp2_with fail
        go_quiet ((go_at_call 153; exact Calls.quiet_of_same (K _).out))
        go_wp2_with (first | (go_at_call 154; refine (UA.out _).mono ?_; rintro e w' ⟨rfl, rfl⟩) | (go_at_call 153; refine (UB.out _).mono ?_; rintro e w' ⟨rfl, rfl⟩))
        all_goals
          go_ret
          try simp only at *
          first
            | exact ⟨icleaf HR (ic_named (by omega) (in_no (by omega))), by first | exact HB.out | exact below_drewN HB.out _⟩
            | exact ⟨icleaf HR (ic_use (by omega) (in_yes (by omega) (by omega)) (by rintro ⟨h, _⟩; omega) (by simp [useA, useB, useN]; omega)), by first | exact HB.out | exact below_drewN HB.out _⟩
            | exact ⟨icleaf HR (ic_fine (by omega) (in_yes (by omega) (by omega)) (by rintro ⟨h, _⟩; omega) (by simp [useA, useB, useN]; omega)), by first | exact HB.out | exact below_drewN HB.out _⟩

set_option maxHeartbeats 4000000 in
set_option maxRecDepth 100000 in
theorem rinstr_fld (ca : Option Addr) (nc cc : Nat) (ma : Option Addr) (nm mc : Nat) (f : Nat → ByteArray) (ps ls rt : ByteArray) (co : Option Addr) (cl cp : Nat) (op A B N : Int) (w : World) (h1 : ps.size ≤ 1000000) (h2 : ls.size ≤ 1000000) (h3 : nc ≤ 1000000) (hC : Cls w ca nc cc f) (hop : op = 25 ∨ op = 26) :
    Calls Tryd.prog 104 #[.agg #[.slice ca nc cc, .slice ma nm mc], .agg #[.string ps, .string ls, .string rt, .slice co cl cp], .agg #[.int .i64 op, .int .i64 A, .int .i64 B, .int .i64 N]] w (RInt (icode (instrC (namedB nc nm ((ps.size : Int) + ls.size) (fun i => (f i).size) op A B) cl op A B N)) w) := by
  have hb := boxes3_below ca nc cc ma nm mc ps ls rt co cl cp op A B N w
  obtain ⟨W, hW⟩ : ∃ W, boxes3 ca nc cc ma nm mc ps ls rt co cl cp op A B N w = W := ⟨_, rfl⟩
  obtain ⟨⟨p0, p1⟩, ⟨m0, m1, m3⟩, i0, i1, i2, i3⟩ := boxes3_all hW
  rw [hW] at hb
  have HC := Lib.hid (hC.below hb)
  have HB := Lib.hid hb
  unfold boxes3 at hW
  clear hb hC
  obtain ⟨R, hR⟩ : ∃ R, icode (instrC (namedB nc nm ((ps.size : Int) + ls.size) (fun i => (f i).size) op A B) cl op A B N) = R := ⟨_, rfl⟩
  have HR := Lib.hid hR
  rw [hR]
  clear hR
  rcases hop with rfl | rfl
  · have UA : Hid (∀ w, Calls Tryd.prog 154 #[.int .i64 25] w fun e w' => e = .returned (.bool true) ∧ w = w') := Lib.hid fun w => rusesA_any _ w
    have UB : Hid (∀ w, Calls Tryd.prog 153 #[.int .i64 25] w fun e w' => e = .returned (.bool true) ∧ w = w') := Lib.hid fun w => rusesB_any _ w
    have K : ∀ nq, Hid (Calls Tryd.prog 153 #[.int .i64 25] (W.drewN nq) fun e w' => e = .returned (.bool true) ∧ w' = W.drewN nq) := fun nq => Lib.hid ((UB.out _).mono (by rintro e w' ⟨h, rfl⟩; exact ⟨h, rfl⟩))
    by_cases hA0 : A < 0
    · have t1 : decide (A < 0) = true := by simpa using hA0
      have HNB : Hid (∀ x y, (namedB nc nm x y 25 A B) = (inside A nc && inside B (y A.toNat))) := Lib.hid fun x y => rfl
      go_enter Tryd.func104, Tryd.ntmps104
      go_wp2_with fail
      go_quiet ((go_at_call 153; exact Calls.quiet_of_same (K _).out))
      go_wp2_with (first | (go_at_call 154; refine (UA.out _).mono ?_; rintro e w' ⟨rfl, rfl⟩) | (go_at_call 153; refine (UB.out _).mono ?_; rintro e w' ⟨rfl, rfl⟩))
      all_goals
        go_ret
        try simp only at *
        first
          | exact ⟨icleaf HR (ic_named (by omega) (by rw [HNB.out]; simp [inside]; omega)), by first | exact HB.out | exact below_drewN HB.out _⟩
          | exact ⟨icleaf HR (ic_use (by omega) (by rw [HNB.out]; simp [inside]; omega) (by rintro ⟨h, _⟩; omega) (by simp [useA, useB, useN]; omega)), by first | exact HB.out | exact below_drewN HB.out _⟩
          | exact ⟨icleaf HR (ic_fine (by omega) (by rw [HNB.out]; simp [inside]; omega) (by rintro ⟨h, _⟩; omega) (by simp [useA, useB, useN]; omega)), by first | exact HB.out | exact below_drewN HB.out _⟩
    · have t1 : decide (A < 0) = false := by simp; omega
      obtain ⟨k, rfl⟩ : ∃ k : Nat, A = k := ⟨A.toNat, by omega⟩
      by_cases hA1 : k < nc
      · obtain ⟨b, off, rfl, hblt, hc⟩ := Cls_at HC.out (by omega)
        have hck := hc k hA1
        have t2 : decide (nc ≤ k) = false := by simp; omega
        have t2' : decide ((nc : Int) ≤ (k : Int)) = false := by simp; omega
        obtain ⟨s, hs⟩ : ∃ s, f k = s := ⟨_, rfl⟩
        rw [hs] at hck
        have HNB : Hid (namedB nc nm ((ps.size : Int) + ls.size) (fun i => (f i).size) 25 k B = (inside k nc && inside B s.size)) := Lib.hid (by rw [← hs]; rfl)
        clear hc hs
        by_cases hB0 : B < 0
        · have t3 : decide (B < 0) = true := by simpa using hB0
          go_enter Tryd.func104, Tryd.ntmps104
          go_wp2_with fail
          go_quiet ((go_at_call 153; exact Calls.quiet_of_same (K _).out))
          go_wp2_with (first | (go_at_call 154; refine (UA.out _).mono ?_; rintro e w' ⟨rfl, rfl⟩) | (go_at_call 153; refine (UB.out _).mono ?_; rintro e w' ⟨rfl, rfl⟩))
          all_goals
            go_ret
            try simp only at *
            first
              | exact ⟨icleaf HR (ic_named (by omega) (by rw [HNB.out]; simp [inside]; omega)), by first | exact HB.out | exact below_drewN HB.out _⟩
              | exact ⟨icleaf HR (ic_use (by omega) (by rw [HNB.out]; simp [inside]; omega) (by rintro ⟨h, _⟩; omega) (by simp [useA, useB, useN]; omega)), by first | exact HB.out | exact below_drewN HB.out _⟩
              | exact ⟨icleaf HR (ic_fine (by omega) (by rw [HNB.out]; simp [inside]; omega) (by rintro ⟨h, _⟩; omega) (by simp [useA, useB, useN]; omega)), by first | exact HB.out | exact below_drewN HB.out _⟩
        · have t3 : decide (B < 0) = false := by simp; omega
          by_cases hB1 : (s.size : Int) ≤ B
          · have t4 : decide ((s.size : Int) ≤ B) = true := by simpa using hB1
            go_enter Tryd.func104, Tryd.ntmps104
            go_wp2_with fail
            go_quiet ((go_at_call 153; exact Calls.quiet_of_same (K _).out))
            go_wp2_with (first | (go_at_call 154; refine (UA.out _).mono ?_; rintro e w' ⟨rfl, rfl⟩) | (go_at_call 153; refine (UB.out _).mono ?_; rintro e w' ⟨rfl, rfl⟩))
            all_goals
              go_ret
              try simp only at *
              first
                | exact ⟨icleaf HR (ic_named (by omega) (by rw [HNB.out]; simp [inside]; omega)), by first | exact HB.out | exact below_drewN HB.out _⟩
                | exact ⟨icleaf HR (ic_use (by omega) (by rw [HNB.out]; simp [inside]; omega) (by rintro ⟨h, _⟩; omega) (by simp [useA, useB, useN]; omega)), by first | exact HB.out | exact below_drewN HB.out _⟩
                | exact ⟨icleaf HR (ic_fine (by omega) (by rw [HNB.out]; simp [inside]; omega) (by rintro ⟨h, _⟩; omega) (by simp [useA, useB, useN]; omega)), by first | exact HB.out | exact below_drewN HB.out _⟩
          · have t4 : decide ((s.size : Int) ≤ B) = false := by simp; omega
            go_enter Tryd.func104, Tryd.ntmps104
            go_wp2_with fail
            go_quiet ((go_at_call 153; exact Calls.quiet_of_same (K _).out))
            go_wp2_with (first | (go_at_call 154; refine (UA.out _).mono ?_; rintro e w' ⟨rfl, rfl⟩) | (go_at_call 153; refine (UB.out _).mono ?_; rintro e w' ⟨rfl, rfl⟩))
            all_goals
              go_ret
              try simp only [bne_iff_ne, bne_eq_false_iff_eq, ne_eq] at *
              first
                | exact ⟨icleaf HR (ic_named (by omega) (by rw [HNB.out]; simp [inside]; omega)), by first | exact HB.out | exact below_drewN HB.out _⟩
                | exact ⟨icleaf HR (ic_use (by omega) (by rw [HNB.out]; simp [inside]; omega) (by rintro ⟨h, _⟩; omega) (by simp [useA, useB, useN]; omega)), by first | exact HB.out | exact below_drewN HB.out _⟩
                | exact ⟨icleaf HR (ic_fine (by omega) (by rw [HNB.out]; simp [inside]; omega) (by rintro ⟨h, _⟩; omega) (by simp [useA, useB, useN]; omega)), by first | exact HB.out | exact below_drewN HB.out _⟩
      · have t2 : decide (nc ≤ k) = true := by simp; omega
        have t2' : decide ((nc : Int) ≤ (k : Int)) = true := by simp; omega
        have HNB : Hid (∀ x y, (namedB nc nm x y 25 k B) = (inside k nc && inside B (y ((k : Nat) : Int).toNat))) := Lib.hid fun x y => rfl
        go_enter Tryd.func104, Tryd.ntmps104
        go_wp2_with fail
        go_quiet ((go_at_call 153; exact Calls.quiet_of_same (K _).out))
        go_wp2_with (first | (go_at_call 154; refine (UA.out _).mono ?_; rintro e w' ⟨rfl, rfl⟩) | (go_at_call 153; refine (UB.out _).mono ?_; rintro e w' ⟨rfl, rfl⟩))
        all_goals
          go_ret
          try simp only at *
          first
            | exact ⟨icleaf HR (ic_named (by omega) (by rw [HNB.out]; simp [inside]; omega)), by first | exact HB.out | exact below_drewN HB.out _⟩
            | exact ⟨icleaf HR (ic_use (by omega) (by rw [HNB.out]; simp [inside]; omega) (by rintro ⟨h, _⟩; omega) (by simp [useA, useB, useN]; omega)), by first | exact HB.out | exact below_drewN HB.out _⟩
            | exact ⟨icleaf HR (ic_fine (by omega) (by rw [HNB.out]; simp [inside]; omega) (by rintro ⟨h, _⟩; omega) (by simp [useA, useB, useN]; omega)), by first | exact HB.out | exact below_drewN HB.out _⟩
  · have UA : Hid (∀ w, Calls Tryd.prog 154 #[.int .i64 26] w fun e w' => e = .returned (.bool true) ∧ w = w') := Lib.hid fun w => rusesA_any _ w
    have UB : Hid (∀ w, Calls Tryd.prog 153 #[.int .i64 26] w fun e w' => e = .returned (.bool true) ∧ w = w') := Lib.hid fun w => rusesB_any _ w
    have K : ∀ nq, Hid (Calls Tryd.prog 153 #[.int .i64 26] (W.drewN nq) fun e w' => e = .returned (.bool true) ∧ w' = W.drewN nq) := fun nq => Lib.hid ((UB.out _).mono (by rintro e w' ⟨h, rfl⟩; exact ⟨h, rfl⟩))
    by_cases hA0 : A < 0
    · have t1 : decide (A < 0) = true := by simpa using hA0
      have HNB : Hid (∀ x y, (namedB nc nm x y 26 A B) = (inside A nc && inside B (y A.toNat))) := Lib.hid fun x y => rfl
      go_enter Tryd.func104, Tryd.ntmps104
      go_wp2_with fail
      go_quiet ((go_at_call 153; exact Calls.quiet_of_same (K _).out))
      go_wp2_with (first | (go_at_call 154; refine (UA.out _).mono ?_; rintro e w' ⟨rfl, rfl⟩) | (go_at_call 153; refine (UB.out _).mono ?_; rintro e w' ⟨rfl, rfl⟩))
      all_goals
        go_ret
        try simp only at *
        first
          | exact ⟨icleaf HR (ic_named (by omega) (by rw [HNB.out]; simp [inside]; omega)), by first | exact HB.out | exact below_drewN HB.out _⟩
          | exact ⟨icleaf HR (ic_use (by omega) (by rw [HNB.out]; simp [inside]; omega) (by rintro ⟨h, _⟩; omega) (by simp [useA, useB, useN]; omega)), by first | exact HB.out | exact below_drewN HB.out _⟩
          | exact ⟨icleaf HR (ic_fine (by omega) (by rw [HNB.out]; simp [inside]; omega) (by rintro ⟨h, _⟩; omega) (by simp [useA, useB, useN]; omega)), by first | exact HB.out | exact below_drewN HB.out _⟩
    · have t1 : decide (A < 0) = false := by simp; omega
      obtain ⟨k, rfl⟩ : ∃ k : Nat, A = k := ⟨A.toNat, by omega⟩
      by_cases hA1 : k < nc
      · obtain ⟨b, off, rfl, hblt, hc⟩ := Cls_at HC.out (by omega)
        have hck := hc k hA1
        have t2 : decide (nc ≤ k) = false := by simp; omega
        have t2' : decide ((nc : Int) ≤ (k : Int)) = false := by simp; omega
        obtain ⟨s, hs⟩ : ∃ s, f k = s := ⟨_, rfl⟩
        rw [hs] at hck
        have HNB : Hid (namedB nc nm ((ps.size : Int) + ls.size) (fun i => (f i).size) 26 k B = (inside k nc && inside B s.size)) := Lib.hid (by rw [← hs]; rfl)
        clear hc hs
        by_cases hB0 : B < 0
        · have t3 : decide (B < 0) = true := by simpa using hB0
          go_enter Tryd.func104, Tryd.ntmps104
          go_wp2_with fail
          go_quiet ((go_at_call 153; exact Calls.quiet_of_same (K _).out))
          go_wp2_with (first | (go_at_call 154; refine (UA.out _).mono ?_; rintro e w' ⟨rfl, rfl⟩) | (go_at_call 153; refine (UB.out _).mono ?_; rintro e w' ⟨rfl, rfl⟩))
          all_goals
            go_ret
            try simp only at *
            first
              | exact ⟨icleaf HR (ic_named (by omega) (by rw [HNB.out]; simp [inside]; omega)), by first | exact HB.out | exact below_drewN HB.out _⟩
              | exact ⟨icleaf HR (ic_use (by omega) (by rw [HNB.out]; simp [inside]; omega) (by rintro ⟨h, _⟩; omega) (by simp [useA, useB, useN]; omega)), by first | exact HB.out | exact below_drewN HB.out _⟩
              | exact ⟨icleaf HR (ic_fine (by omega) (by rw [HNB.out]; simp [inside]; omega) (by rintro ⟨h, _⟩; omega) (by simp [useA, useB, useN]; omega)), by first | exact HB.out | exact below_drewN HB.out _⟩
        · have t3 : decide (B < 0) = false := by simp; omega
          by_cases hB1 : (s.size : Int) ≤ B
          · have t4 : decide ((s.size : Int) ≤ B) = true := by simpa using hB1
            go_enter Tryd.func104, Tryd.ntmps104
            go_wp2_with fail
            go_quiet ((go_at_call 153; exact Calls.quiet_of_same (K _).out))
            go_wp2_with (first | (go_at_call 154; refine (UA.out _).mono ?_; rintro e w' ⟨rfl, rfl⟩) | (go_at_call 153; refine (UB.out _).mono ?_; rintro e w' ⟨rfl, rfl⟩))
            all_goals
              go_ret
              try simp only at *
              first
                | exact ⟨icleaf HR (ic_named (by omega) (by rw [HNB.out]; simp [inside]; omega)), by first | exact HB.out | exact below_drewN HB.out _⟩
                | exact ⟨icleaf HR (ic_use (by omega) (by rw [HNB.out]; simp [inside]; omega) (by rintro ⟨h, _⟩; omega) (by simp [useA, useB, useN]; omega)), by first | exact HB.out | exact below_drewN HB.out _⟩
                | exact ⟨icleaf HR (ic_fine (by omega) (by rw [HNB.out]; simp [inside]; omega) (by rintro ⟨h, _⟩; omega) (by simp [useA, useB, useN]; omega)), by first | exact HB.out | exact below_drewN HB.out _⟩
          · have t4 : decide ((s.size : Int) ≤ B) = false := by simp; omega
            go_enter Tryd.func104, Tryd.ntmps104
            go_wp2_with fail
            go_quiet ((go_at_call 153; exact Calls.quiet_of_same (K _).out))
            go_wp2_with (first | (go_at_call 154; refine (UA.out _).mono ?_; rintro e w' ⟨rfl, rfl⟩) | (go_at_call 153; refine (UB.out _).mono ?_; rintro e w' ⟨rfl, rfl⟩))
            all_goals
              go_ret
              try simp only [bne_iff_ne, bne_eq_false_iff_eq, ne_eq] at *
              first
                | exact ⟨icleaf HR (ic_named (by omega) (by rw [HNB.out]; simp [inside]; omega)), by first | exact HB.out | exact below_drewN HB.out _⟩
                | exact ⟨icleaf HR (ic_use (by omega) (by rw [HNB.out]; simp [inside]; omega) (by rintro ⟨h, _⟩; omega) (by simp [useA, useB, useN]; omega)), by first | exact HB.out | exact below_drewN HB.out _⟩
                | exact ⟨icleaf HR (ic_fine (by omega) (by rw [HNB.out]; simp [inside]; omega) (by rintro ⟨h, _⟩; omega) (by simp [useA, useB, useN]; omega)), by first | exact HB.out | exact below_drewN HB.out _⟩
      · have t2 : decide (nc ≤ k) = true := by simp; omega
        have t2' : decide ((nc : Int) ≤ (k : Int)) = true := by simp; omega
        have HNB : Hid (∀ x y, (namedB nc nm x y 26 k B) = (inside k nc && inside B (y ((k : Nat) : Int).toNat))) := Lib.hid fun x y => rfl
        go_enter Tryd.func104, Tryd.ntmps104
        go_wp2_with fail
        go_quiet ((go_at_call 153; exact Calls.quiet_of_same (K _).out))
        go_wp2_with (first | (go_at_call 154; refine (UA.out _).mono ?_; rintro e w' ⟨rfl, rfl⟩) | (go_at_call 153; refine (UB.out _).mono ?_; rintro e w' ⟨rfl, rfl⟩))
        all_goals
          go_ret
          try simp only at *
          first
            | exact ⟨icleaf HR (ic_named (by omega) (by rw [HNB.out]; simp [inside]; omega)), by first | exact HB.out | exact below_drewN HB.out _⟩
            | exact ⟨icleaf HR (ic_use (by omega) (by rw [HNB.out]; simp [inside]; omega) (by rintro ⟨h, _⟩; omega) (by simp [useA, useB, useN]; omega)), by first | exact HB.out | exact below_drewN HB.out _⟩
            | exact ⟨icleaf HR (ic_fine (by omega) (by rw [HNB.out]; simp [inside]; omega) (by rintro ⟨h, _⟩; omega) (by simp [useA, useB, useN]; omega)), by first | exact HB.out | exact below_drewN HB.out _⟩

set_option maxHeartbeats 4000000 in
set_option maxRecDepth 100000 in
theorem rinstr_rest (ca : Option Addr) (nc cc : Nat) (ma : Option Addr) (nm mc : Nat) (f : Nat → ByteArray) (ps ls rt : ByteArray) (co : Option Addr) (cl cp : Nat) (op A B N : Int) (w : World) (h1 : ps.size ≤ 1000000) (h2 : ls.size ≤ 1000000) (_h3 : nc ≤ 1000000) (hC : Cls w ca nc cc f) (h35 : ¬ (op < 1 ∨ 35 < op)) (hop : op ≠ 3 ∧ op ≠ 4 ∧ op ≠ 22 ∧ op ≠ 23 ∧ op ≠ 24 ∧ op ≠ 25 ∧ op ≠ 26 ∧ op ≠ 27 ∧ op ≠ 28 ∧ op ≠ 29 ∧ op ≠ 30 ∧ op ≠ 32) :
    Calls Tryd.prog 104 #[.agg #[.slice ca nc cc, .slice ma nm mc], .agg #[.string ps, .string ls, .string rt, .slice co cl cp], .agg #[.int .i64 op, .int .i64 A, .int .i64 B, .int .i64 N]] w (RInt (icode (instrC (namedB nc nm ((ps.size : Int) + ls.size) (fun i => (f i).size) op A B) cl op A B N)) w) := by
  have hb := boxes3_below ca nc cc ma nm mc ps ls rt co cl cp op A B N w
  obtain ⟨W, hW⟩ : ∃ W, boxes3 ca nc cc ma nm mc ps ls rt co cl cp op A B N w = W := ⟨_, rfl⟩
  obtain ⟨⟨p0, p1⟩, ⟨m0, m1, m3⟩, i0, i1, i2, i3⟩ := boxes3_all hW
  rw [hW] at hb
  have HC := Lib.hid (hC.below hb)
  have HB := Lib.hid hb
  unfold boxes3 at hW
  clear hb hC
  obtain ⟨R, hR⟩ : ∃ R, icode (instrC (namedB nc nm ((ps.size : Int) + ls.size) (fun i => (f i).size) op A B) cl op A B N) = R := ⟨_, rfl⟩
  have HR := Lib.hid hR
  rw [hR]
  clear hR
  obtain ⟨n3, n4, n22, n23, n24, n25, n26, n27, n28, n29, n30, n32⟩ := hop
  have t3 : (op == 3) = false := by simpa using n3
  have t4 : (op == 4) = false := by simpa using n4
  have t22 : (op == 22) = false := by simpa using n22
  have t23 : (op == 23) = false := by simpa using n23
  have t24 : (op == 24) = false := by simpa using n24
  have t25 : (op == 25) = false := by simpa using n25
  have t26 : (op == 26) = false := by simpa using n26
  have t27 : (op == 27) = false := by simpa using n27
  have t28 : (op == 28) = false := by simpa using n28
  have t29 : (op == 29) = false := by simpa using n29
  have t30 : (op == 30) = false := by simpa using n30
  have t32 : (op == 32) = false := by simpa using n32
  have ka : useA op = false := by simp [useA, t3, t4, t22, t23, t24, t25, t26, t27, t28, t29, t30, t32]
  have kb : useB op = false := by simp [useB, t25, t26]
  have KA := Lib.hid ka
  have KB := Lib.hid kb
  have HNB : Hid (∀ x y, namedB nc nm x y op A B = true) := Lib.hid fun x y => by unfold namedB; rw [if_neg (by omega), if_neg (by omega), if_neg (by omega), if_neg (by omega), if_neg (by omega)]
  have UA : Hid (∀ w, Calls Tryd.prog 154 #[.int .i64 op] w fun e w' => e = .returned (.bool false) ∧ w = w') := Lib.hid fun w => by rw [← ka]; exact rusesA_any _ w
  have UB : Hid (∀ w, Calls Tryd.prog 153 #[.int .i64 op] w fun e w' => e = .returned (.bool false) ∧ w = w') := Lib.hid fun w => by rw [← kb]; exact rusesB_any _ w
  have u1 : decide (op < 1) = false := by simp; omega
  have u2 : decide (35 < op) = false := by simp; omega
  have HOP : Hid (¬ (op < 1 ∨ 35 < op) ∧ ¬ (op = 22 ∨ op = 23)) := Lib.hid (by omega)
  clear ka kb n3 n4 n22 n23 n24 n25 n26 n27 n28 n29 n30 n32
  go_enter Tryd.func104, Tryd.ntmps104
  go_wp2_with (first | (go_at_call 154; refine (UA.out _).mono ?_; rintro e w' ⟨rfl, rfl⟩) | (go_at_call 153; refine (UB.out _).mono ?_; rintro e w' ⟨rfl, rfl⟩))
  all_goals
    go_ret
    try simp only [bne_iff_ne, bne_eq_false_iff_eq, ne_eq] at *
    first
      | exact ⟨icleaf HR (ic_use HOP.out.1 (HNB.out _ _) (fun h => HOP.out.2 h.1) (by rw [KA.out, KB.out]; simp [useN]; simp_all; try omega)), by first | exact HB.out | exact below_drewN HB.out _⟩
      | exact ⟨icleaf HR (ic_fine HOP.out.1 (HNB.out _ _) (fun h => HOP.out.2 h.1) (by rw [KA.out, KB.out]; simp [useN]; simp_all; try omega)), by first | exact HB.out | exact below_drewN HB.out _⟩

theorem rinstr_any (ca : Option Addr) (nc cc : Nat) (ma : Option Addr) (nm mc : Nat) (f : Nat → ByteArray) (ps ls rt : ByteArray) (co : Option Addr) (cl cp : Nat) (op A B N : Int) (w : World) (h1 : ps.size ≤ 1000000) (h2 : ls.size ≤ 1000000) (h3 : nc ≤ 1000000) (hC : Cls w ca nc cc f) :
    Calls Tryd.prog 104 #[.agg #[.slice ca nc cc, .slice ma nm mc], .agg #[.string ps, .string ls, .string rt, .slice co cl cp], .agg #[.int .i64 op, .int .i64 A, .int .i64 B, .int .i64 N]] w (RInt (icode (instrC (namedB nc nm ((ps.size : Int) + ls.size) (fun i => (f i).size) op A B) cl op A B N)) w) := by
  by_cases h0 : op < 1 ∨ 35 < op
  · exact rinstr_kind ca nc cc ma nm mc f ps ls rt co cl cp op A B N w h1 h2 h3 hC h0
  by_cases a1 : op = 3 ∨ op = 4
  · exact rinstr_ls ca nc cc ma nm mc f ps ls rt co cl cp op A B N w h1 h2 h3 hC a1
  by_cases a2 : op = 28 ∨ op = 29 ∨ op = 30
  · exact rinstr_arr ca nc cc ma nm mc f ps ls rt co cl cp op A B N w h1 h2 h3 hC a2
  by_cases a3 : op = 32
  · exact rinstr_call ca nc cc ma nm mc f ps ls rt co cl cp op A B N w h1 h2 h3 hC a3
  by_cases a4 : op = 22 ∨ op = 23
  · exact rinstr_jump ca nc cc ma nm mc f ps ls rt co cl cp op A B N w h1 h2 h3 hC a4
  by_cases a5 : op = 24 ∨ op = 27
  · exact rinstr_cls ca nc cc ma nm mc f ps ls rt co cl cp op A B N w h1 h2 h3 hC a5
  by_cases a6 : op = 25 ∨ op = 26
  · exact rinstr_fld ca nc cc ma nm mc f ps ls rt co cl cp op A B N w h1 h2 h3 hC a6
  exact rinstr_rest ca nc cc ma nm mc f ps ls rt co cl cp op A B N w h1 h2 h3 hC h0 (by omega)

theorem rnone_any (w : World) : Calls Tryd.prog 99 #[] w (PlainPost 0 w) := by
  go_enter Tryd.func99, Tryd.ntmps99
  go_wp2
  exact bodyPost_ret (v := .agg #[.int .i64 0, .slice none 0 0]) (by simp [results, Tryd.results99, go_sem]) rfl ⟨rfl, (Below.refl _ _).alloc (Nat.le_refl _) _⟩

def ThereAt (c x y : Int) (w : World) (e : Ending) (w' : World) : Prop := ∃ g, e = .returned (.agg #[.int .i64 c, .slice (some ⟨g, 0, none⟩) 2 2]) ∧ w.heap.size ≤ g ∧ w'.cell? ⟨g, 0, none⟩ = some (.int .i64 x) ∧ w'.cell? ⟨g, 1, none⟩ = some (.int .i64 y) ∧ Below w.heap.size w w'

theorem there_at (c x y : Int) (w : World) :
    Calls Tryd.prog 102 #[.int .i64 c, .int .i64 x, .int .i64 y] w (ThereAt c x y w) := by
  go_enter Tryd.func102, Tryd.ntmps102
  go_wp2_with fail
  have hX := heap_alloc_new w (Obj.cells #[Value.int IntKind.i64 c, Value.slice (some ⟨w.heap.size + 1, 0, none⟩) 2 2] 67)
  have hs : (w.alloc (Obj.cells #[Value.int IntKind.i64 c, Value.slice (some ⟨w.heap.size + 1, 0, none⟩) 2 2] 67)).heap.size = w.heap.size + 1 := by simp
  have hY := heap_alloc_new (w.alloc (Obj.cells #[Value.int IntKind.i64 c, Value.slice (some ⟨w.heap.size + 1, 0, none⟩) 2 2] 67)) (Obj.cells #[Value.int IntKind.i64 x, Value.int IntKind.i64 y] 3)
  rw [hs] at hY
  have hb : Below w.heap.size w ((w.alloc (Obj.cells #[Value.int IntKind.i64 c, Value.slice (some ⟨w.heap.size + 1, 0, none⟩) 2 2] 67)).alloc (Obj.cells #[Value.int IntKind.i64 x, Value.int IntKind.i64 y] 3)) := ((Below.refl _ _).alloc (Nat.le_refl _) _).alloc (by simp) _
  have hX2 : ((w.alloc (Obj.cells #[Value.int IntKind.i64 c, Value.slice (some ⟨w.heap.size + 1, 0, none⟩) 2 2] 67)).alloc (Obj.cells #[Value.int IntKind.i64 x, Value.int IntKind.i64 y] 3)).heap[w.heap.size]? = _ := (Below.heap_alloc _ _ _ (by simp)).trans hX
  have f0 := (cell_of_row _ w.heap.size 0 _ 67 (0, 0) hX2).trans rfl
  have f1 := (cell_of_row _ w.heap.size 1 _ 67 (0, 0) hX2).trans rfl
  exact bodyPost_ret (v := .agg #[.int .i64 c, .slice (some ⟨w.heap.size + 1, 0, none⟩) 2 2]) (by simp [results, Tryd.results102, go_sem, f0, f1]) rfl ⟨_, rfl, by omega, (cell_of_row _ (w.heap.size + 1) 0 _ 3 (0, 0) hY).trans rfl, (cell_of_row _ (w.heap.size + 1) 1 _ 3 (0, 0) hY).trans rfl, hb⟩

/-- What the document's May answers. -/
def RefPost (v : Option (Nat × Int × Int)) (w : World) (e : Ending) (w' : World) : Prop :=
  Below w.heap.size w w' ∧ match v with
    | none => e = .returned (.agg #[.int .i64 0, .slice none 0 0])
    | some (c, m, pc) => ∃ g, e = .returned (.agg #[.int .i64 ((101 + c : Nat) : Int), .slice (some ⟨g, 0, none⟩) 2 2]) ∧ w'.cell? ⟨g, 0, none⟩ = some (.int .i64 m) ∧ w'.cell? ⟨g, 1, none⟩ = some (.int .i64 pc)

/-- A place, as it is handed back. -/
def ThereRet (C m pc : Int) (w : World) (e : Ending) (w' : World) : Prop :=
  Below w.heap.size w w' ∧ ∃ g, e = .returned (.agg #[.int .i64 C, .slice (some ⟨g, 0, none⟩) 2 2]) ∧ w'.cell? ⟨g, 0, none⟩ = some (.int .i64 m) ∧ w'.cell? ⟨g, 1, none⟩ = some (.int .i64 pc)

def rmW (ca : Option Addr) (nc cc : Nat) (ma : Option Addr) (nm mc : Nat) (w : World) : World :=
  (w.alloc (.cells #[.slice ca nc cc, .slice ma nm mc] 50)).alloc (Obj.cells #[Value.int IntKind.i64 0, Value.slice none 0 0] 67)

theorem rmW_below (ca : Option Addr) (nc cc : Nat) (ma : Option Addr) (nm mc : Nat) (w : World) : Below w.heap.size w (rmW ca nc cc ma nm mc w) := ((Below.refl _ _).alloc (Nat.le_refl _) _).alloc (by simp) _

theorem rmW_size (ca : Option Addr) (nc cc : Nat) (ma : Option Addr) (nm mc : Nat) (w : World) : (rmW ca nc cc ma nm mc w).heap.size = w.heap.size + 1 + 1 := by simp [rmW]

theorem rmW_prog {ca : Option Addr} {nc cc : Nat} {ma : Option Addr} {nm mc : Nat} {w w' : World} (hb : Below (rmW ca nc cc ma nm mc w).heap.size (rmW ca nc cc ma nm mc w) w') : w'.cell? ⟨w.heap.size, 0, none⟩ = some (.slice ca nc cc) ∧ w'.cell? ⟨w.heap.size, 1, none⟩ = some (.slice ma nm mc) := by
  have hr : (rmW ca nc cc ma nm mc w).heap[w.heap.size]? = some (.cells #[.slice ca nc cc, .slice ma nm mc] 50 (0, 0)) := by
    unfold rmW
    rw [Below.heap_alloc _ _ _ (by simp)]
    exact heap_alloc_new w _
  have h2 := (hb.block w.heap.size (by rw [rmW_size]; omega)).trans hr
  exact ⟨(cell_of_row _ _ 0 _ 50 (0, 0) h2).trans rfl, (cell_of_row _ _ 1 _ 50 (0, 0) h2).trans rfl⟩

theorem grown_storeR (w : World) (g j : Nat) (v : Value) : w.grownBy (w.setCell ⟨g, j, none⟩ v) (some g) :=
  ⟨rfl, rfl, rfl, by simp, fun k _ hk => heap_setCell_other w ⟨g, j, none⟩ k v (fun e => hk (by simp [e]))⟩

theorem rm_fin {ca : Option Addr} {nc cc : Nat} {ma : Option Addr} {nm mc : Nat} {w w2 : World} (hb : Below (rmW ca nc cc ma nm mc w).heap.size (rmW ca nc cc ma nm mc w) w2) (C m pc : Int) (g : Nat) (hg : (rmW ca nc cc ma nm mc w).heap.size ≤ g) (c0 : w2.cell? ⟨g, 0, none⟩ = some (.int .i64 m)) (c1 : w2.cell? ⟨g, 1, none⟩ = some (.int .i64 pc)) :
    ThereRet C m pc w (.returned (.agg #[.int .i64 C, .slice (some ⟨g, 0, none⟩) 2 2])) ((w2.setCell ⟨(w.alloc (.cells #[.slice ca nc cc, .slice ma nm mc] 50)).heap.size, 0, none⟩ (.int .i64 C)).setCell ⟨(w.alloc (.cells #[.slice ca nc cc, .slice ma nm mc] 50)).heap.size, 1, none⟩ (.slice (some ⟨g, 0, none⟩) 2 2)) := by
  have hB := (rmW_below ca nc cc ma nm mc w).trans (hb.mono (rmW_below ca nc cc ma nm mc w).size)
  have hs := rmW_size ca nc cc ma nm mc w
  have hgl := World.block_lt_of_cell? w2 _ c0
  have e1 : (w.alloc (.cells #[.slice ca nc cc, .slice ma nm mc] 50)).heap.size = w.heap.size + 1 := by simp
  rw [e1]
  have k : ((w2.setCell ⟨w.heap.size + 1, 0, none⟩ (.int .i64 C)).setCell ⟨w.heap.size + 1, 1, none⟩ (.slice (some ⟨g, 0, none⟩) 2 2)).heap[g]? = w2.heap[g]? := by
    have a1 := (grown_storeR w2 (w.heap.size + 1) 0 (.int .i64 C)).block g hgl (fun e => by cases e; omega)
    have a2 := (grown_storeR (w2.setCell ⟨w.heap.size + 1, 0, none⟩ (.int .i64 C)) (w.heap.size + 1) 1 (.slice (some ⟨g, 0, none⟩) 2 2)).block g (Nat.lt_of_lt_of_le hgl (grown_storeR w2 (w.heap.size + 1) 0 (.int .i64 C)).size) (fun e => by cases e; omega)
    exact a2.trans a1
  exact ⟨(hB.setCell (by show w.heap.size ≤ w.heap.size + 1; omega) _).setCell (by show w.heap.size ≤ w.heap.size + 1; omega) _, g, rfl, (World.cell?_of_block (w := w2) (a := ⟨g, 0, none⟩) k).trans c0, (World.cell?_of_block (w := w2) (a := ⟨g, 1, none⟩) k).trans c1⟩

theorem ref_some {c : Nat} {C m pc : Int} {w : World} {e : Ending} {w' : World} (hC : C = ((101 + c : Nat) : Int)) (h : ThereRet C m pc w e w') : RefPost (some (c, m, pc)) w e w' := by
  subst hC
  exact h

def RRel (ca : Option Addr) (nc cc : Nat) (ma : Option Addr) (nm mc : Nat) (w : World) (n : Nat) (si : Value) (wr : World) : Prop := ∃ k : Nat, k ≤ n ∧ si = .int .i64 k ∧ Below (rmW ca nc cc ma nm mc w).heap.size (rmW ca nc cc ma nm mc w) wr

def RRel3 (ca : Option Addr) (nc cc : Nat) (ma : Option Addr) (nm mc : Nat) (w wM : World) (n : Nat) (si : Value) (wr : World) : Prop := ∃ k : Nat, k ≤ n ∧ si = .int .i64 k ∧ Below (rmW ca nc cc ma nm mc w).heap.size (rmW ca nc cc ma nm mc w) wr ∧ Below wM.heap.size wM wr

theorem retK_ways (rt : ByteArray) : rt = ⟨#[]⟩ ∨ rt = ⟨#[73]⟩ ∨ rt = ⟨#[82]⟩ ∨ (retK rt = 3 ∧ rt ≠ ⟨#[]⟩ ∧ rt ≠ ⟨#[73]⟩ ∧ rt ≠ ⟨#[82]⟩) := by
  by_cases h0 : rt = ⟨#[]⟩
  · exact .inl h0
  · by_cases h1 : rt = ⟨#[73]⟩
    · exact .inr (.inl h1)
    · by_cases h2 : rt = ⟨#[82]⟩
      · exact .inr (.inr (.inl h2))
      · exact .inr (.inr (.inr ⟨by unfold retK; rw [if_neg h0, if_neg h1, if_neg h2], h0, h1, h2⟩))

theorem str_eq {s : ByteArray} {l : List UInt8} : s.toList = l ↔ s = ⟨l.toArray⟩ := by
  rw [ByteArray.toList_eq]
  constructor
  · intro e
    apply ByteArray.ext
    apply Array.ext'
    simpa using e
  · intro e
    subst e
    rfl

theorem str_no {s : ByteArray} {l : List UInt8} (h : s ≠ ⟨l.toArray⟩) : ¬ s.toList = l := fun e => h (str_eq.1 e)

theorem str_isEmpty {s : ByteArray} (h : s ≠ ⟨#[]⟩) : s.toList.isEmpty = false := by
  have := str_no (l := []) h
  cases hs : s.toList with
  | nil => exact absurd hs this
  | cons a l => rfl

def MBox (ps ls rt : ByteArray) (co : Option Addr) (len cp b : Nat) (w' : World) : Prop :=
  w'.cell? ⟨b, 0, none⟩ = some (.string ps) ∧ w'.cell? ⟨b, 1, none⟩ = some (.string ls) ∧ w'.cell? ⟨b, 2, none⟩ = some (.string rt) ∧ w'.cell? ⟨b, 3, none⟩ = some (.slice co len cp)

theorem mbox_of (ps ls rt : ByteArray) (co : Option Addr) (len cp : Nat) (wr w' : World) (hb : Below (wr.alloc (.cells #[.string ps, .string ls, .string rt, .slice co len cp] 46)).heap.size (wr.alloc (.cells #[.string ps, .string ls, .string rt, .slice co len cp] 46)) w') : MBox ps ls rt co len cp wr.heap.size w' := by
  have h2 := (hb.block wr.heap.size (by simp)).trans (heap_alloc_new wr _)
  exact ⟨(cell_of_row _ _ 0 _ 46 (0, 0) h2).trans rfl, (cell_of_row _ _ 1 _ 46 (0, 0) h2).trans rfl, (cell_of_row _ _ 2 _ 46 (0, 0) h2).trans rfl, (cell_of_row _ _ 3 _ 46 (0, 0) h2).trans rfl⟩

set_option maxHeartbeats 16000000 in
set_option maxRecDepth 100000 in
theorem rMay_any (ca : Option Addr) (nc cc : Nat) (f : Nat → ByteArray) (ma : Option Addr) (nm mc : Nat) (ms : Nat → Meth) (w : World) (h1 : nc ≤ 12) (h2 : 1 ≤ nm) (h3 : nm ≤ 12) (hP : Prg w ca nc cc f ma nm mc ms) (hS : Sml nc f nm ms) :
    Calls Tryd.prog 44 #[.agg #[.slice ca nc cc, .slice ma nm mc]] w (RefPost (verdict nc nm f ms) w) := by
  have HP := Lib.hid hP
  have HS := Lib.hid hS
  have PB : Hid (∀ w', Below (rmW ca nc cc ma nm mc w).heap.size (rmW ca nc cc ma nm mc w) w' → w'.cell? ⟨w.heap.size, 0, none⟩ = some (.slice ca nc cc) ∧ w'.cell? ⟨w.heap.size, 1, none⟩ = some (.slice ma nm mc)) := Lib.hid fun w' hb => rmW_prog hb
  have BW : Hid (∀ w', Below (rmW ca nc cc ma nm mc w).heap.size (rmW ca nc cc ma nm mc w) w' → Below w.heap.size w w') := Lib.hid fun w' hb => (rmW_below ca nc cc ma nm mc w).trans (hb.mono (rmW_below ca nc cc ma nm mc w).size)
  have LT : Hid (∀ s w, s.size ≤ maxLen → Calls Tryd.prog 103 #[.string s] w (LetPost s w)) := Lib.hid fun s w h => rletters_any s w h
  have t1 : decide (12 < (nc : Int)) = false := by simp; omega
  have t2 : decide ((nm : Int) < 1) = false := by simp; omega
  have t3 : decide (12 < (nm : Int)) = false := by simp; omega
  have R0 : Hid (RRel ca nc cc ma nm mc w (goodC nc f) (.int .i64 ((0 : Nat) : Int)) (rmW ca nc cc ma nm mc w)) := Lib.hid ⟨0, Nat.zero_le _, rfl, Below.refl _ _⟩
  have hsz := rmW_size ca nc cc ma nm mc w
  clear hP hS
  go_enter Tryd.func44, Tryd.ntmps44
  go_wp2_with fail
  go_loopw [3] (fun si wr => RRel ca nc cc ma nm mc w (goodC nc f) si wr) (fun si _ => nc - (intOf si).toNat)
  case atStart => exact R0.out
  case round =>
    obtain ⟨k, hk, rfl, hb⟩ := hrel
    clear R0 t1 t2 t3
    have HB := Lib.hid hb
    obtain ⟨p0, p1⟩ := PB.out wr hb
    by_cases hlt : k < nc
    · have tk : decide (k < nc) = true := by simpa using hlt
      obtain ⟨lb, lo, rfl, hlb, hcl⟩ := Cls_at HP.out.cls (by omega)
      have hcell : wr.cell? ⟨lb, lo + k, none⟩ = some (.string (f k)) := ((BW.out wr hb).cell (p := ⟨lb, lo + k, none⟩) hlb).trans (hcl k hlt)
      have hfs := HS.out.fs k hlt
      have HFS := Lib.hid hfs
      unfold maxLen at hfs
      by_cases hbad : clsC (f k) = 0
      · have hkn : k < goodC nc f := by
          rcases Nat.lt_or_ge k (goodC nc f) with h | h
          · exact h
          · obtain rfl : k = goodC nc f := by omega
            exact absurd hbad (goodC_bad hlt)
        have HKN := Lib.hid hkn
        have hfair : fairB (f k) = true ∧ (f k).size ≤ 10 := by
          unfold clsC at hbad
          split at hbad
          · cases hbad
          · split at hbad
            · exact ⟨by assumption, by omega⟩
            · cases hbad
        obtain ⟨hfr, hf10⟩ := hfair
        have HFR := Lib.hid hfr
        have L1 : Hid (∀ w, Calls Tryd.prog 103 #[.string (f k)] w (fun e w' => e = .returned (.bool true) ∧ w = w')) := Lib.hid fun w => (LT.out _ w HFS.out).mono (by rintro e w' ⟨rfl, rfl⟩; exact ⟨by rw [HFR.out], rfl⟩)
        have t4 : decide (10 < (f k).size) = false := by simp; omega
        have t4' : decide (10 < ((f k).size : Int)) = false := by simp; omega
        clear hcl hb hkn hbad hfr hf10
        generalize f k = s at *
        go_wp2_with (go_at_call 103; refine (L1.out _).mono ?_; rintro e w' ⟨rfl, rfl⟩)
        go_roundw
        case rel => exact ⟨k + 1, by have := HKN.out; omega, by go_num, HB.out⟩
        case measure => simp [intOf]; omega
      · have hke : k = goodC nc f := by
          rcases Nat.lt_or_ge k (goodC nc f) with h | h
          · exact absurd (goodC_ok h) hbad
          · omega
        have hvd : verdict nc nm f ms = some (clsC (f k) - 1, (k : Int), -1) := by
          unfold verdict progW
          rw [if_pos (by omega), ← hke]
        by_cases h10 : 10 < (f k).size
        · have VD0 : Hid (verdict nc nm f ms = some (0, (k : Int), -1)) := Lib.hid (by rw [hvd, clsC, if_pos h10])
          have VD : Hid (RefPost (verdict nc nm f ms) w = RefPost (some (0, (k : Int), -1)) w) := Lib.hid (by rw [VD0.out])
          have t4 : decide (10 < (f k).size) = true := by simpa using h10
          have t4' : decide (10 < ((f k).size : Int)) = true := by simp; omega
          clear hcl hb hke hbad hvd VD0
          generalize f k = s at *
          go_wp2_with fail
          refine (there_at 101 k (-1) _).mono ?_
          rintro e w2 ⟨g, rfl, hg, c0, c1, hb2⟩
          have hbx := HB.out.trans (hb2.mono HB.out.size)
          obtain ⟨f0, f1, g0, g1, hsz⟩ := boxed _ 67 hbx
          have HFIN := Lib.hid (rm_fin hbx 101 k (-1) g (Nat.le_trans HB.out.size hg) c0 c1)
          rw [World.size_alloc] at f0 f1 g0 g1 HFIN
          clear hb2 hbx c0 c1 hg hsz
          go_wp2_with fail
          exact bodyPost_ret (v := .agg #[.int .i64 101, .slice (some ⟨g, 0, none⟩) 2 2]) (by simp [results, Tryd.results44, go_sem, f0, f1]) rfl (by rw [VD.out]; exact ref_some rfl HFIN.out)
        · have hfr : fairB (f k) = false := by
            unfold clsC at hbad
            rw [if_neg h10] at hbad
            cases h : fairB (f k) with
            | false => rfl
            | true => rw [h] at hbad; simp at hbad
          have VD0 : Hid (verdict nc nm f ms = some (1, (k : Int), -1)) := Lib.hid (by rw [hvd, clsC, if_neg h10, hfr]; rfl)
          have VD : Hid (RefPost (verdict nc nm f ms) w = RefPost (some (1, (k : Int), -1)) w) := Lib.hid (by rw [VD0.out])
          have HFR := Lib.hid hfr
          have L1 : Hid (∀ w, Calls Tryd.prog 103 #[.string (f k)] w (fun e w' => e = .returned (.bool false) ∧ w = w')) := Lib.hid fun w => (LT.out _ w HFS.out).mono (by rintro e w' ⟨rfl, rfl⟩; exact ⟨by rw [HFR.out], rfl⟩)
          have t4 : decide (10 < (f k).size) = false := by simp; omega
          have t4' : decide (10 < ((f k).size : Int)) = false := by simp; omega
          clear hcl hb hke hbad hvd VD0 h10 hfr
          generalize f k = s at *
          go_wp2_with (go_at_call 103; refine (L1.out _).mono ?_; rintro e w' ⟨rfl, rfl⟩)
          refine (there_at 102 k (-1) _).mono ?_
          rintro e w2 ⟨g, rfl, hg, c0, c1, hb2⟩
          have hbx := HB.out.trans (hb2.mono HB.out.size)
          obtain ⟨f0, f1, g0, g1, hsz⟩ := boxed _ 67 hbx
          have HFIN := Lib.hid (rm_fin hbx 102 k (-1) g (Nat.le_trans HB.out.size hg) c0 c1)
          rw [World.size_alloc] at f0 f1 g0 g1 HFIN
          clear hb2 hbx c0 c1 hg hsz
          go_wp2_with fail
          exact bodyPost_ret (v := .agg #[.int .i64 102, .slice (some ⟨g, 0, none⟩) 2 2]) (by simp [results, Tryd.results44, go_sem, f0, f1]) rfl (by rw [VD.out]; exact ref_some rfl HFIN.out)
    · have tk : decide (k < nc) = false := by simpa using hlt
      obtain rfl : k = nc := by have := goodC_le (nc := nc) (f := f); omega
      have hgc : goodC k f = k := by have := goodC_le (nc := k) (f := f); omega
      have HGC := Lib.hid hgc
      have HVN : Hid (∀ m, m = goodM k nm f ms → m < nm → verdict k nm f ms = mthV k nm f ms m) := Lib.hid fun m hm hlt => by
        unfold verdict progW
        rw [if_neg (by omega), if_pos (by omega), ← hm]
      have HVE : Hid (goodM k nm f ms = nm → verdict k nm f ms = none) := Lib.hid fun hm => by
        unfold verdict progW
        rw [if_neg (by omega), if_neg (by omega)]
      have R1 : Hid (RRel ca k cc ma nm mc w (goodM k nm f ms) (.int .i64 ((0 : Nat) : Int)) wr) := Lib.hid ⟨0, Nat.zero_le _, rfl, hb⟩
      obtain ⟨mb, mo, rfl, hmb, hmc⟩ := Prg_at HP.out (by omega)
      have HMC := Lib.hid hmc
      have HMB := Lib.hid hmb
      clear hb HB hgc hmc hmb
      go_wp2_with fail
      clear p0 p1
      go_loopw [5] (fun si wr => RRel ca k cc (some ⟨mb, mo, none⟩) nm mc w (goodM k nm f ms) si wr) (fun si _ => nm - (intOf si).toNat)
      case atStart => exact R1.out
      case round =>
        obtain ⟨m, hm, rfl, hb⟩ := hrel
        clear R1
        obtain ⟨p0, p1⟩ := PB.out wr hb
        by_cases hml : m < nm
        · have tm : decide (m < nm) = true := by simpa using hml
          have hbw := BW.out wr hb
          obtain ⟨x0', x1', x2', x3'⟩ := HMC.out m hml
          have x0 := (hbw.cell (p := ⟨mb, mo + m * 4, none⟩) HMB.out).trans x0'
          have x1 := (hbw.cell (p := ⟨mb, mo + m * 4 + 1, none⟩) HMB.out).trans x1'
          have x2 := (hbw.cell (p := ⟨mb, mo + m * 4 + 2, none⟩) HMB.out).trans x2'
          have x3 := (hbw.cell (p := ⟨mb, mo + m * 4 + 3, none⟩) HMB.out).trans x3'
          clear x0' x1' x2' x3'
          have HVM := HVN.out m
          have hmv : mthV k nm f ms m = methW (headA (decide (m = 0)) (ms m).ps (ms m).ls (ms m).rt (ms m).len) m (ms m).len (firstBad (fun i => decide (icA k nm f (ms m) i ≠ 0)) (ms m).len) (icA k nm f (ms m)) := rfl
          have q1 := HS.out.ps m hml
          have q2 := HS.out.ls m hml
          have q3 := HS.out.rt m hml
          have q4 := HS.out.len m hml
          have HCD := Lib.hid (HP.out.code m hml)
          have HX := Lib.hid (show ∀ i, icA k nm f (ms m) i = icOf k nm ((ms m).ps.size + (ms m).ls.size) f (ms m).len (ms m).gv i from fun i => rfl)
          have HIL := Lib.hid (goodI_le (nc := k) (nm := nm) (f := f) (ms m))
          have HIO := Lib.hid (fun i => goodI_ok (nc := k) (nm := nm) (f := f) (ms m) (i := i))
          have HIB := Lib.hid (goodI_bad (nc := k) (nm := nm) (f := f) (ms m))
          have HGM : Hid ((mthV k nm f ms m = none → m < goodM k nm f ms) ∧ (mthV k nm f ms m ≠ none → m = goodM k nm f ms)) := Lib.hid ⟨fun h => by
            rcases Nat.lt_or_ge m (goodM k nm f ms) with h9 | h9
            · exact h9
            · obtain rfl : m = goodM k nm f ms := by omega
              exact absurd h (goodM_bad hml), fun h => by
            rcases Nat.lt_or_ge m (goodM k nm f ms) with h9 | h9
            · exact absurd (goodM_ok h9) h
            · omega⟩
          generalize icA k nm f (ms m) = ic at *
          generalize (ms m).ps = ps at *
          generalize (ms m).ls = ls at *
          generalize (ms m).rt = rt at *
          generalize (ms m).co = co at *
          generalize (ms m).len = len at *
          generalize (ms m).cp = cp at *
          generalize (ms m).gv = gv at *
          generalize mthV k nm f ms m = mv at *
          have HMV := Lib.hid hmv
          have HVM2 := Lib.hid HVM
          -- the head's verdict
          have HHD : Hid (∀ c : Nat, headA (decide (m = 0)) ps ls rt len = c + 1 → RefPost (verdict k nm f ms) w = RefPost (some (c, (m : Int), -1)) w) := Lib.hid fun c hc => by
            have e1 : mv = some (c, (m : Int), -1) := by rw [HMV.out, methW, if_pos (by omega), hc]; rfl
            rw [HVM2.out (HGM.out.2 (by rw [e1]; simp)) hml, e1]
          have hbM : Below (rmW ca k cc (some ⟨mb, mo, none⟩) nm mc w).heap.size (rmW ca k cc (some ⟨mb, mo, none⟩) nm mc w) (wr.alloc (.cells #[.string ps, .string ls, .string rt, .slice co len cp] 46)) := hb.alloc hb.size _
          have HBM := Lib.hid hbM
          clear hmv HVM hb hbw hbM
          have MB : Hid (∀ w', Below (wr.alloc (.cells #[.string ps, .string ls, .string rt, .slice co len cp] 46)).heap.size (wr.alloc (.cells #[.string ps, .string ls, .string rt, .slice co len cp] 46)) w' → MBox ps ls rt co len cp wr.heap.size w') := Lib.hid fun w' hb => mbox_of ps ls rt co len cp wr w' hb
          obtain ⟨GI, hGI⟩ : ∃ GI, firstBad (fun i => decide (ic i ≠ 0)) len = GI := ⟨_, rfl⟩
          rw [hGI] at HIL HIO HIB HMV
          clear hGI
          by_cases hS : 12 < ps.size + ls.size ∨ len = 0 ∨ 120 < len
          · have VD := Lib.hid (HHD.out 0 (by rw [headA, if_pos hS]))
            by_cases a1 : 12 < ps.size
            · have u1 : decide (12 < ps.size) = true := by simpa using a1
              have u1' : decide (12 < (ps.size : Int)) = true := by simp; omega
              clear hS a1
              go_wp2_with fail
              refine (there_at 101 m (-1) _).mono ?_
              rintro e w2 ⟨g, rfl, hg, c0, c1, hb2⟩
              have hbx := HBM.out.trans (hb2.mono HBM.out.size)
              obtain ⟨f0, f1, g0, g1, hsz⟩ := boxed _ 67 hbx
              have HFIN := Lib.hid (rm_fin hbx 101 m (-1) g (Nat.le_trans HBM.out.size hg) c0 c1)
              rw [World.size_alloc] at f0 f1 g0 g1 HFIN
              clear hb2 hbx c0 c1 hg hsz
              go_wp2_with fail
              exact bodyPost_ret (v := .agg #[.int .i64 101, .slice (some ⟨g, 0, none⟩) 2 2]) (by simp [results, Tryd.results44, go_sem, f0, f1]) rfl (by rw [VD.out]; exact ref_some rfl HFIN.out)
            · have u1 : decide (12 < ps.size) = false := by simpa using a1
              have u1' : decide (12 < (ps.size : Int)) = false := by simp; omega
              by_cases a2 : 12 < ps.size + ls.size
              · have u2 : decide (12 - (ps.size : Int) < (ls.size : Int)) = true := by simp; omega
                clear hS a1 a2
                go_wp2_with fail
                refine (there_at 101 m (-1) _).mono ?_
                rintro e w2 ⟨g, rfl, hg, c0, c1, hb2⟩
                have hbx := HBM.out.trans (hb2.mono HBM.out.size)
                obtain ⟨f0, f1, g0, g1, hsz⟩ := boxed _ 67 hbx
                have HFIN := Lib.hid (rm_fin hbx 101 m (-1) g (Nat.le_trans HBM.out.size hg) c0 c1)
                rw [World.size_alloc] at f0 f1 g0 g1 HFIN
                clear hb2 hbx c0 c1 hg hsz
                go_wp2_with fail
                exact bodyPost_ret (v := .agg #[.int .i64 101, .slice (some ⟨g, 0, none⟩) 2 2]) (by simp [results, Tryd.results44, go_sem, f0, f1]) rfl (by rw [VD.out]; exact ref_some rfl HFIN.out)
              · have u2 : decide (12 - (ps.size : Int) < (ls.size : Int)) = false := by simp; omega
                by_cases a3 : len = 0
                · have u3 : decide ((len : Int) < 1) = true := by simp; omega
                  clear hS a1 a2 a3
                  go_wp2_with fail
                  refine (there_at 101 m (-1) _).mono ?_
                  rintro e w2 ⟨g, rfl, hg, c0, c1, hb2⟩
                  have hbx := HBM.out.trans (hb2.mono HBM.out.size)
                  obtain ⟨f0, f1, g0, g1, hsz⟩ := boxed _ 67 hbx
                  have HFIN := Lib.hid (rm_fin hbx 101 m (-1) g (Nat.le_trans HBM.out.size hg) c0 c1)
                  rw [World.size_alloc] at f0 f1 g0 g1 HFIN
                  clear hb2 hbx c0 c1 hg hsz
                  go_wp2_with fail
                  exact bodyPost_ret (v := .agg #[.int .i64 101, .slice (some ⟨g, 0, none⟩) 2 2]) (by simp [results, Tryd.results44, go_sem, f0, f1]) rfl (by rw [VD.out]; exact ref_some rfl HFIN.out)
                · have u3 : decide ((len : Int) < 1) = false := by simp; omega
                  have u4 : decide (120 < (len : Int)) = true := by simp; omega
                  have u4' : decide (120 < len) = true := by simp; omega
                  clear hS a1 a2 a3
                  go_wp2_with fail
                  refine (there_at 101 m (-1) _).mono ?_
                  rintro e w2 ⟨g, rfl, hg, c0, c1, hb2⟩
                  have hbx := HBM.out.trans (hb2.mono HBM.out.size)
                  obtain ⟨f0, f1, g0, g1, hsz⟩ := boxed _ 67 hbx
                  have HFIN := Lib.hid (rm_fin hbx 101 m (-1) g (Nat.le_trans HBM.out.size hg) c0 c1)
                  rw [World.size_alloc] at f0 f1 g0 g1 HFIN
                  clear hb2 hbx c0 c1 hg hsz
                  go_wp2_with fail
                  exact bodyPost_ret (v := .agg #[.int .i64 101, .slice (some ⟨g, 0, none⟩) 2 2]) (by simp [results, Tryd.results44, go_sem, f0, f1]) rfl (by rw [VD.out]; exact ref_some rfl HFIN.out)
          · have u1 : decide (12 < ps.size) = false := by simp; omega
            have u1' : decide (12 < (ps.size : Int)) = false := by simp; omega
            have u2 : decide (12 - (ps.size : Int) < (ls.size : Int)) = false := by simp; omega
            have u3 : decide ((len : Int) < 1) = false := by simp; omega
            have u4 : decide (120 < (len : Int)) = false := by simp; omega
            have u4' : decide (120 < len) = false := by simp; omega
            have HSS := Lib.hid hS
            clear hS
            cases hf1 : fairB ps with
            | false =>
              have VD := Lib.hid (HHD.out 1 (by rw [headA, if_neg HSS.out, if_pos (.inl hf1)]))
              have LP : Hid (∀ s w, s.size ≤ 1000 → s = ps → Calls Tryd.prog 103 #[.string s] w (fun e w' => e = .returned (.bool false) ∧ w = w')) := Lib.hid fun s w h hs => (LT.out s w (by unfold maxLen; omega)).mono (by rintro e w' ⟨rfl, rfl⟩; exact ⟨by rw [hs, hf1], rfl⟩)
              clear hf1
              go_wp2_with (go_at_call 103; refine (LP.out _ _ (by assumption) rfl).mono ?_; rintro e w' ⟨rfl, rfl⟩)
              all_goals
                refine (there_at 102 m (-1) _).mono ?_
                rintro e w2 ⟨g, rfl, hg, c0, c1, hb2⟩
                have hbx := HBM.out.trans (hb2.mono HBM.out.size)
                obtain ⟨f0, f1, g0, g1, hsz⟩ := boxed _ 67 hbx
                have HFIN := Lib.hid (rm_fin hbx 102 m (-1) g (Nat.le_trans HBM.out.size hg) c0 c1)
                rw [World.size_alloc] at f0 f1 g0 g1 HFIN
                clear hb2 hbx c0 c1 hg hsz
                go_wp2_with fail
                exact bodyPost_ret (v := .agg #[.int .i64 102, .slice (some ⟨g, 0, none⟩) 2 2]) (by simp [results, Tryd.results44, go_sem, f0, f1]) rfl (by rw [VD.out]; exact ref_some rfl HFIN.out)
            | true =>
              cases hf2 : fairB ls with
              | false =>
                have VD := Lib.hid (HHD.out 1 (by rw [headA, if_neg HSS.out, if_pos (.inr (.inl hf2))]))
                have LP1 : Hid (∀ w, Calls Tryd.prog 103 #[.string ps] w (fun e w' => e = .returned (.bool true) ∧ w = w')) := Lib.hid fun w => (LT.out ps w (by unfold maxLen; omega)).mono (by rintro e w' ⟨rfl, rfl⟩; exact ⟨by rw [hf1], rfl⟩)
                have LP2 : Hid (∀ w, Calls Tryd.prog 103 #[.string ls] w (fun e w' => e = .returned (.bool false) ∧ w = w')) := Lib.hid fun w => (LT.out ls w (by unfold maxLen; omega)).mono (by rintro e w' ⟨rfl, rfl⟩; exact ⟨by rw [hf2], rfl⟩)
                clear hf1 hf2
                go_wp2_with (first | (go_at_call 103; (with_reducible refine (LP1.out _).mono ?_); rintro e w' ⟨rfl, rfl⟩) | (go_at_call 103; (with_reducible refine (LP2.out _).mono ?_); rintro e w' ⟨rfl, rfl⟩))
                all_goals
                  refine (there_at 102 m (-1) _).mono ?_
                  rintro e w2 ⟨g, rfl, hg, c0, c1, hb2⟩
                  have hbx := HBM.out.trans (hb2.mono HBM.out.size)
                  obtain ⟨f0, f1, g0, g1, hsz⟩ := boxed _ 67 hbx
                  have HFIN := Lib.hid (rm_fin hbx 102 m (-1) g (Nat.le_trans HBM.out.size hg) c0 c1)
                  rw [World.size_alloc] at f0 f1 g0 g1 HFIN
                  clear hb2 hbx c0 c1 hg hsz
                  go_wp2_with fail
                  exact bodyPost_ret (v := .agg #[.int .i64 102, .slice (some ⟨g, 0, none⟩) 2 2]) (by simp [results, Tryd.results44, go_sem, f0, f1]) rfl (by rw [VD.out]; exact ref_some rfl HFIN.out)
              | true =>
                have LP1 : Hid (∀ w, Calls Tryd.prog 103 #[.string ps] w (fun e w' => e = .returned (.bool true) ∧ w = w')) := Lib.hid fun w => (LT.out ps w (by unfold maxLen; omega)).mono (by rintro e w' ⟨rfl, rfl⟩; exact ⟨by rw [hf1], rfl⟩)
                have LP2 : Hid (∀ w, Calls Tryd.prog 103 #[.string ls] w (fun e w' => e = .returned (.bool true) ∧ w = w')) := Lib.hid fun w => (LT.out ls w (by unfold maxLen; omega)).mono (by rintro e w' ⟨rfl, rfl⟩; exact ⟨by rw [hf2], rfl⟩)
                rcases retK_ways rt with hr | hr | hr | ⟨h3, n0, n1, n2⟩
                · have hl : rt.toList = [] := str_eq.2 hr
                  have hk3 : retK rt = 0 := by rw [hr]; decide
                  clear hr
                  by_cases hm0 : m = 0
                  · have tm : ((m : Int) == 0) = true := by simp; omega
                    by_cases hps : ps = ⟨#[]⟩
                    · have he : ps.toList = [] := str_eq.2 hps
                      have HZ : Hid (headA (decide (m = 0)) ps ls rt len = 0) := Lib.hid (by rw [headA, if_neg HSS.out, if_neg (by rw [hf1, hf2, hk3]; simp [hps])])
                      clear hf1 hf2 hk3 hm0 hps
                      have HMW : Hid (mv = if GI < len then some (ic GI - 1, (m : Int), (GI : Int)) else none) := Lib.hid (by rw [HMV.out, methW, HZ.out, if_neg (by simp)])
                      go_wp2_with (first | (go_at_call 103; (with_reducible refine (LP1.out _).mono ?_); rintro e w' ⟨rfl, rfl⟩) | (go_at_call 103; (with_reducible refine (LP2.out _).mono ?_); rintro e w' ⟨rfl, rfl⟩))
                      generalize (wr.alloc (.cells #[.string ps, .string ls, .string rt, .slice co len cp] 46)) = wM at *
                      have R3 : Hid (RRel3 ca k cc (some ⟨mb, mo, none⟩) nm mc w wM GI (.int .i64 ((0 : Nat) : Int)) wM) := Lib.hid ⟨0, Nat.zero_le _, rfl, HBM.out, Below.refl _ _⟩
                      clear p0 p1 x0 x1 x2 x3
                      go_loopw [8] (fun si wi => RRel3 ca k cc (some ⟨mb, mo, none⟩) nm mc w wM GI si wi) (fun si _ => len - (intOf si).toNat)
                      case atStart => exact R3.out
                      case round =>
                        clear R3
                        obtain ⟨i, hi, rfl, hb, hbm⟩ := hrel
                        obtain ⟨p0, p1⟩ := PB.out _ hb
                        obtain ⟨m0, m1, m2, m3⟩ := MB.out _ hbm
                        have HB := Lib.hid hb
                        have HBm := Lib.hid hbm
                        by_cases hil : i < len
                        · have ti : decide (i < len) = true := by simpa using hil
                          obtain ⟨lb, lo, rfl, hlb, hcl⟩ := Picks_at HCD.out (by omega)
                          have hcell : ∀ j, j < 4 → _ = _ := fun j hj => ((BW.out _ hb).cell (p := ⟨lb, lo + (i * 4 + j), none⟩) hlb).trans (hcl i j hil hj)
                          have k0 := hcell 0 (by omega)
                          have k1 := hcell 1 (by omega)
                          have k2 := hcell 2 (by omega)
                          have k3 := hcell 3 (by omega)
                          have KI : Hid (∀ w', Below w.heap.size w w' → Calls Tryd.prog 104 #[.agg #[.slice ca k cc, .slice (some ⟨mb, mo, none⟩) nm mc], .agg #[.string ps, .string ls, .string rt, .slice (some ⟨lb, lo, none⟩) len cp], .agg #[.int .i64 (gv i 0), .int .i64 (gv i 1), .int .i64 (gv i 2), .int .i64 (gv i 3)]] w' (RInt (icode (ic i)) w')) := Lib.hid fun w' hb' => by
                            rw [HX.out i]
                            exact rinstr_any ca k cc (some ⟨mb, mo, none⟩) nm mc f ps ls rt (some ⟨lb, lo, none⟩) len cp (gv i 0) (gv i 1) (gv i 2) (gv i 3) w' (by omega) (by omega) (by omega) (HP.out.cls.below hb')
                          clear hcell hcl hb hbm
                          generalize gv i 0 = T at *
                          generalize gv i 1 = K at *
                          generalize gv i 2 = A at *
                          generalize gv i 3 = B at *
                          rw [Nat.add_zero] at k0
                          rw [← Nat.add_assoc] at k1 k2 k3
                          rename_i wi
                          go_wp2_with fail
                          go_still_tail 7, (by kernel_rfl)
                          change wpList _ _ _ _ _ (World.drew _)
                          have HA2 := Lib.hid (below_drew HB.out)
                          have HM2 := Lib.hid (below_drew HBm.out)
                          clear p0 p1 m0 m1 m2 m3 k0 k1 k2 k3 HB HBm
                          generalize (World.drew _) = w2 at *
                          go_wp2_with fail
                          refine (KI.out _ (BW.out _ HA2.out)).mono ?_
                          rintro e w3 ⟨rfl, hb3⟩
                          have HA3 := Lib.hid (HA2.out.trans (hb3.mono HA2.out.size))
                          have HM3 := Lib.hid (HM2.out.trans (hb3.mono HM2.out.size))
                          clear hb3 HA2 HM2
                          by_cases hgi : i < GI
                          · have hz := HIO.out i hgi
                            have h0 : icode 0 = 0 := rfl
                            rw [hz, h0]
                            clear hz h0
                            go_wp2_with fail
                            go_roundw
                            case rel => exact ⟨i + 1, by omega, by go_num, HA3.out, HM3.out⟩
                            case measure => simp [intOf]; omega
                          · obtain rfl : i = GI := by omega
                            obtain ⟨c, hc⟩ : ∃ c, ic i = c + 1 := ⟨ic i - 1, by have := HIB.out hil; omega⟩
                            have hmv2 : mv = some (c, (m : Int), (i : Int)) := by rw [HMW.out, if_pos hil, hc]; rfl
                            have VD : Hid (RefPost (verdict k nm f ms) w = RefPost (some (c, (m : Int), (i : Int))) w) := Lib.hid (by rw [HVM2.out (HGM.out.2 (by rw [hmv2]; simp)) hml, hmv2])
                            obtain ⟨C, hC⟩ : ∃ C : Int, icode (ic i) = C := ⟨_, rfl⟩
                            have hCc : C = ((101 + c : Nat) : Int) := by rw [← hC, hc, icode, if_neg (by omega)]; omega
                            have tc : (C != 0) = true := by simp; omega
                            rw [hC]
                            have HCC := Lib.hid hCc
                            clear hc hmv2 hC hCc
                            go_wp2_with fail
                            refine (there_at C m i _).mono ?_
                            rintro e w2 ⟨g, rfl, hg, c0, c1, hb2⟩
                            have hbx := HA3.trans (hb2.mono HA3.size)
                            obtain ⟨f0, f1, g0, g1, hsz⟩ := boxed _ 67 hbx
                            have HFIN := Lib.hid (rm_fin hbx C m i g (Nat.le_trans HA3.size hg) c0 c1)
                            rw [World.size_alloc] at f0 f1 g0 g1 HFIN
                            clear hb2 hbx c0 c1 hg hsz
                            go_wp2_with fail
                            exact bodyPost_ret (v := .agg #[.int .i64 C, .slice (some ⟨g, 0, none⟩) 2 2]) (by simp [results, Tryd.results44, go_sem, f0, f1]) rfl (by rw [VD.out]; exact ref_some HCC.out HFIN.out)
                        · obtain rfl : i = len := by have := HIL.out; omega
                          have hmn : mv = none := by rw [HMW.out, if_neg (by have := HIL.out; omega)]
                          have HMM := Lib.hid (HGM.out.1 hmn)
                          have ti : decide (i < i) = false := by simp
                          clear hmn hb hbm
                          go_wp2_with fail
                          go_roundw
                          case rel => exact ⟨m + 1, by have := HMM.out; omega, by go_num, HB.out⟩
                          case measure => simp [intOf]; omega
                    · have VD := Lib.hid (HHD.out 1 (by rw [headA, if_neg HSS.out, if_pos (.inr (.inr (.inr ⟨by simpa using hm0, .inl hps⟩)))]))
                      have he := str_isEmpty hps
                      have he' := str_no (l := []) hps
                      clear hf1 hf2 hk3 hm0 hps
                      go_wp2_with (first | (go_at_call 103; (with_reducible refine (LP1.out _).mono ?_); rintro e w' ⟨rfl, rfl⟩) | (go_at_call 103; (with_reducible refine (LP2.out _).mono ?_); rintro e w' ⟨rfl, rfl⟩))
                      all_goals
                        refine (there_at 102 m (-1) _).mono ?_
                        rintro e w2 ⟨g, rfl, hg, c0, c1, hb2⟩
                        have hbx := HBM.out.trans (hb2.mono HBM.out.size)
                        obtain ⟨f0, f1, g0, g1, hsz⟩ := boxed _ 67 hbx
                        have HFIN := Lib.hid (rm_fin hbx 102 m (-1) g (Nat.le_trans HBM.out.size hg) c0 c1)
                        rw [World.size_alloc] at f0 f1 g0 g1 HFIN
                        clear hb2 hbx c0 c1 hg hsz
                        go_wp2_with fail
                        exact bodyPost_ret (v := .agg #[.int .i64 102, .slice (some ⟨g, 0, none⟩) 2 2]) (by simp [results, Tryd.results44, go_sem, f0, f1]) rfl (by rw [VD.out]; exact ref_some rfl HFIN.out)
                  · have tm : ((m : Int) == 0) = false := by simp; omega
                    have HZ : Hid (headA (decide (m = 0)) ps ls rt len = 0) := Lib.hid (by rw [headA, if_neg HSS.out, if_neg (by rw [hf1, hf2, hk3]; simp [hm0])])
                    clear hf1 hf2 hk3 hm0
                    have HMW : Hid (mv = if GI < len then some (ic GI - 1, (m : Int), (GI : Int)) else none) := Lib.hid (by rw [HMV.out, methW, HZ.out, if_neg (by simp)])
                    go_wp2_with (first | (go_at_call 103; (with_reducible refine (LP1.out _).mono ?_); rintro e w' ⟨rfl, rfl⟩) | (go_at_call 103; (with_reducible refine (LP2.out _).mono ?_); rintro e w' ⟨rfl, rfl⟩))
                    generalize (wr.alloc (.cells #[.string ps, .string ls, .string rt, .slice co len cp] 46)) = wM at *
                    have R3 : Hid (RRel3 ca k cc (some ⟨mb, mo, none⟩) nm mc w wM GI (.int .i64 ((0 : Nat) : Int)) wM) := Lib.hid ⟨0, Nat.zero_le _, rfl, HBM.out, Below.refl _ _⟩
                    clear p0 p1 x0 x1 x2 x3
                    go_loopw [8] (fun si wi => RRel3 ca k cc (some ⟨mb, mo, none⟩) nm mc w wM GI si wi) (fun si _ => len - (intOf si).toNat)
                    case atStart => exact R3.out
                    case round =>
                      clear R3
                      obtain ⟨i, hi, rfl, hb, hbm⟩ := hrel
                      obtain ⟨p0, p1⟩ := PB.out _ hb
                      obtain ⟨m0, m1, m2, m3⟩ := MB.out _ hbm
                      have HB := Lib.hid hb
                      have HBm := Lib.hid hbm
                      by_cases hil : i < len
                      · have ti : decide (i < len) = true := by simpa using hil
                        obtain ⟨lb, lo, rfl, hlb, hcl⟩ := Picks_at HCD.out (by omega)
                        have hcell : ∀ j, j < 4 → _ = _ := fun j hj => ((BW.out _ hb).cell (p := ⟨lb, lo + (i * 4 + j), none⟩) hlb).trans (hcl i j hil hj)
                        have k0 := hcell 0 (by omega)
                        have k1 := hcell 1 (by omega)
                        have k2 := hcell 2 (by omega)
                        have k3 := hcell 3 (by omega)
                        have KI : Hid (∀ w', Below w.heap.size w w' → Calls Tryd.prog 104 #[.agg #[.slice ca k cc, .slice (some ⟨mb, mo, none⟩) nm mc], .agg #[.string ps, .string ls, .string rt, .slice (some ⟨lb, lo, none⟩) len cp], .agg #[.int .i64 (gv i 0), .int .i64 (gv i 1), .int .i64 (gv i 2), .int .i64 (gv i 3)]] w' (RInt (icode (ic i)) w')) := Lib.hid fun w' hb' => by
                          rw [HX.out i]
                          exact rinstr_any ca k cc (some ⟨mb, mo, none⟩) nm mc f ps ls rt (some ⟨lb, lo, none⟩) len cp (gv i 0) (gv i 1) (gv i 2) (gv i 3) w' (by omega) (by omega) (by omega) (HP.out.cls.below hb')
                        clear hcell hcl hb hbm
                        generalize gv i 0 = T at *
                        generalize gv i 1 = K at *
                        generalize gv i 2 = A at *
                        generalize gv i 3 = B at *
                        rw [Nat.add_zero] at k0
                        rw [← Nat.add_assoc] at k1 k2 k3
                        rename_i wi
                        go_wp2_with fail
                        go_still_tail 7, (by kernel_rfl)
                        change wpList _ _ _ _ _ (World.drew _)
                        have HA2 := Lib.hid (below_drew HB.out)
                        have HM2 := Lib.hid (below_drew HBm.out)
                        clear p0 p1 m0 m1 m2 m3 k0 k1 k2 k3 HB HBm
                        generalize (World.drew _) = w2 at *
                        go_wp2_with fail
                        refine (KI.out _ (BW.out _ HA2.out)).mono ?_
                        rintro e w3 ⟨rfl, hb3⟩
                        have HA3 := Lib.hid (HA2.out.trans (hb3.mono HA2.out.size))
                        have HM3 := Lib.hid (HM2.out.trans (hb3.mono HM2.out.size))
                        clear hb3 HA2 HM2
                        by_cases hgi : i < GI
                        · have hz := HIO.out i hgi
                          have h0 : icode 0 = 0 := rfl
                          rw [hz, h0]
                          clear hz h0
                          go_wp2_with fail
                          go_roundw
                          case rel => exact ⟨i + 1, by omega, by go_num, HA3.out, HM3.out⟩
                          case measure => simp [intOf]; omega
                        · obtain rfl : i = GI := by omega
                          obtain ⟨c, hc⟩ : ∃ c, ic i = c + 1 := ⟨ic i - 1, by have := HIB.out hil; omega⟩
                          have hmv2 : mv = some (c, (m : Int), (i : Int)) := by rw [HMW.out, if_pos hil, hc]; rfl
                          have VD : Hid (RefPost (verdict k nm f ms) w = RefPost (some (c, (m : Int), (i : Int))) w) := Lib.hid (by rw [HVM2.out (HGM.out.2 (by rw [hmv2]; simp)) hml, hmv2])
                          obtain ⟨C, hC⟩ : ∃ C : Int, icode (ic i) = C := ⟨_, rfl⟩
                          have hCc : C = ((101 + c : Nat) : Int) := by rw [← hC, hc, icode, if_neg (by omega)]; omega
                          have tc : (C != 0) = true := by simp; omega
                          rw [hC]
                          have HCC := Lib.hid hCc
                          clear hc hmv2 hC hCc
                          go_wp2_with fail
                          refine (there_at C m i _).mono ?_
                          rintro e w2 ⟨g, rfl, hg, c0, c1, hb2⟩
                          have hbx := HA3.trans (hb2.mono HA3.size)
                          obtain ⟨f0, f1, g0, g1, hsz⟩ := boxed _ 67 hbx
                          have HFIN := Lib.hid (rm_fin hbx C m i g (Nat.le_trans HA3.size hg) c0 c1)
                          rw [World.size_alloc] at f0 f1 g0 g1 HFIN
                          clear hb2 hbx c0 c1 hg hsz
                          go_wp2_with fail
                          exact bodyPost_ret (v := .agg #[.int .i64 C, .slice (some ⟨g, 0, none⟩) 2 2]) (by simp [results, Tryd.results44, go_sem, f0, f1]) rfl (by rw [VD.out]; exact ref_some HCC.out HFIN.out)
                      · obtain rfl : i = len := by have := HIL.out; omega
                        have hmn : mv = none := by rw [HMW.out, if_neg (by have := HIL.out; omega)]
                        have HMM := Lib.hid (HGM.out.1 hmn)
                        have ti : decide (i < i) = false := by simp
                        clear hmn hb hbm
                        go_wp2_with fail
                        go_roundw
                        case rel => exact ⟨m + 1, by have := HMM.out; omega, by go_num, HB.out⟩
                        case measure => simp [intOf]; omega
                · have hl : rt.toList = [73] := str_eq.2 hr
                  have hk3 : retK rt = 1 := by rw [hr]; decide
                  clear hr
                  by_cases hm0 : m = 0
                  · have tm : ((m : Int) == 0) = true := by simp; omega
                    by_cases hps : ps = ⟨#[]⟩
                    · have he : ps.toList = [] := str_eq.2 hps
                      have HZ : Hid (headA (decide (m = 0)) ps ls rt len = 0) := Lib.hid (by rw [headA, if_neg HSS.out, if_neg (by rw [hf1, hf2, hk3]; simp [hps])])
                      clear hf1 hf2 hk3 hm0 hps
                      have HMW : Hid (mv = if GI < len then some (ic GI - 1, (m : Int), (GI : Int)) else none) := Lib.hid (by rw [HMV.out, methW, HZ.out, if_neg (by simp)])
                      go_wp2_with (first | (go_at_call 103; (with_reducible refine (LP1.out _).mono ?_); rintro e w' ⟨rfl, rfl⟩) | (go_at_call 103; (with_reducible refine (LP2.out _).mono ?_); rintro e w' ⟨rfl, rfl⟩))
                      generalize (wr.alloc (.cells #[.string ps, .string ls, .string rt, .slice co len cp] 46)) = wM at *
                      have R3 : Hid (RRel3 ca k cc (some ⟨mb, mo, none⟩) nm mc w wM GI (.int .i64 ((0 : Nat) : Int)) wM) := Lib.hid ⟨0, Nat.zero_le _, rfl, HBM.out, Below.refl _ _⟩
                      clear p0 p1 x0 x1 x2 x3
                      go_loopw [8] (fun si wi => RRel3 ca k cc (some ⟨mb, mo, none⟩) nm mc w wM GI si wi) (fun si _ => len - (intOf si).toNat)
                      case atStart => exact R3.out
                      case round =>
                        clear R3
                        obtain ⟨i, hi, rfl, hb, hbm⟩ := hrel
                        obtain ⟨p0, p1⟩ := PB.out _ hb
                        obtain ⟨m0, m1, m2, m3⟩ := MB.out _ hbm
                        have HB := Lib.hid hb
                        have HBm := Lib.hid hbm
                        by_cases hil : i < len
                        · have ti : decide (i < len) = true := by simpa using hil
                          obtain ⟨lb, lo, rfl, hlb, hcl⟩ := Picks_at HCD.out (by omega)
                          have hcell : ∀ j, j < 4 → _ = _ := fun j hj => ((BW.out _ hb).cell (p := ⟨lb, lo + (i * 4 + j), none⟩) hlb).trans (hcl i j hil hj)
                          have k0 := hcell 0 (by omega)
                          have k1 := hcell 1 (by omega)
                          have k2 := hcell 2 (by omega)
                          have k3 := hcell 3 (by omega)
                          have KI : Hid (∀ w', Below w.heap.size w w' → Calls Tryd.prog 104 #[.agg #[.slice ca k cc, .slice (some ⟨mb, mo, none⟩) nm mc], .agg #[.string ps, .string ls, .string rt, .slice (some ⟨lb, lo, none⟩) len cp], .agg #[.int .i64 (gv i 0), .int .i64 (gv i 1), .int .i64 (gv i 2), .int .i64 (gv i 3)]] w' (RInt (icode (ic i)) w')) := Lib.hid fun w' hb' => by
                            rw [HX.out i]
                            exact rinstr_any ca k cc (some ⟨mb, mo, none⟩) nm mc f ps ls rt (some ⟨lb, lo, none⟩) len cp (gv i 0) (gv i 1) (gv i 2) (gv i 3) w' (by omega) (by omega) (by omega) (HP.out.cls.below hb')
                          clear hcell hcl hb hbm
                          generalize gv i 0 = T at *
                          generalize gv i 1 = K at *
                          generalize gv i 2 = A at *
                          generalize gv i 3 = B at *
                          rw [Nat.add_zero] at k0
                          rw [← Nat.add_assoc] at k1 k2 k3
                          rename_i wi
                          go_wp2_with fail
                          go_still_tail 7, (by kernel_rfl)
                          change wpList _ _ _ _ _ (World.drew _)
                          have HA2 := Lib.hid (below_drew HB.out)
                          have HM2 := Lib.hid (below_drew HBm.out)
                          clear p0 p1 m0 m1 m2 m3 k0 k1 k2 k3 HB HBm
                          generalize (World.drew _) = w2 at *
                          go_wp2_with fail
                          refine (KI.out _ (BW.out _ HA2.out)).mono ?_
                          rintro e w3 ⟨rfl, hb3⟩
                          have HA3 := Lib.hid (HA2.out.trans (hb3.mono HA2.out.size))
                          have HM3 := Lib.hid (HM2.out.trans (hb3.mono HM2.out.size))
                          clear hb3 HA2 HM2
                          by_cases hgi : i < GI
                          · have hz := HIO.out i hgi
                            have h0 : icode 0 = 0 := rfl
                            rw [hz, h0]
                            clear hz h0
                            go_wp2_with fail
                            go_roundw
                            case rel => exact ⟨i + 1, by omega, by go_num, HA3.out, HM3.out⟩
                            case measure => simp [intOf]; omega
                          · obtain rfl : i = GI := by omega
                            obtain ⟨c, hc⟩ : ∃ c, ic i = c + 1 := ⟨ic i - 1, by have := HIB.out hil; omega⟩
                            have hmv2 : mv = some (c, (m : Int), (i : Int)) := by rw [HMW.out, if_pos hil, hc]; rfl
                            have VD : Hid (RefPost (verdict k nm f ms) w = RefPost (some (c, (m : Int), (i : Int))) w) := Lib.hid (by rw [HVM2.out (HGM.out.2 (by rw [hmv2]; simp)) hml, hmv2])
                            obtain ⟨C, hC⟩ : ∃ C : Int, icode (ic i) = C := ⟨_, rfl⟩
                            have hCc : C = ((101 + c : Nat) : Int) := by rw [← hC, hc, icode, if_neg (by omega)]; omega
                            have tc : (C != 0) = true := by simp; omega
                            rw [hC]
                            have HCC := Lib.hid hCc
                            clear hc hmv2 hC hCc
                            go_wp2_with fail
                            refine (there_at C m i _).mono ?_
                            rintro e w2 ⟨g, rfl, hg, c0, c1, hb2⟩
                            have hbx := HA3.trans (hb2.mono HA3.size)
                            obtain ⟨f0, f1, g0, g1, hsz⟩ := boxed _ 67 hbx
                            have HFIN := Lib.hid (rm_fin hbx C m i g (Nat.le_trans HA3.size hg) c0 c1)
                            rw [World.size_alloc] at f0 f1 g0 g1 HFIN
                            clear hb2 hbx c0 c1 hg hsz
                            go_wp2_with fail
                            exact bodyPost_ret (v := .agg #[.int .i64 C, .slice (some ⟨g, 0, none⟩) 2 2]) (by simp [results, Tryd.results44, go_sem, f0, f1]) rfl (by rw [VD.out]; exact ref_some HCC.out HFIN.out)
                        · obtain rfl : i = len := by have := HIL.out; omega
                          have hmn : mv = none := by rw [HMW.out, if_neg (by have := HIL.out; omega)]
                          have HMM := Lib.hid (HGM.out.1 hmn)
                          have ti : decide (i < i) = false := by simp
                          clear hmn hb hbm
                          go_wp2_with fail
                          go_roundw
                          case rel => exact ⟨m + 1, by have := HMM.out; omega, by go_num, HB.out⟩
                          case measure => simp [intOf]; omega
                    · have VD := Lib.hid (HHD.out 1 (by rw [headA, if_neg HSS.out, if_pos (.inr (.inr (.inr ⟨by simpa using hm0, .inl hps⟩)))]))
                      have he := str_isEmpty hps
                      have he' := str_no (l := []) hps
                      clear hf1 hf2 hk3 hm0 hps
                      go_wp2_with (first | (go_at_call 103; (with_reducible refine (LP1.out _).mono ?_); rintro e w' ⟨rfl, rfl⟩) | (go_at_call 103; (with_reducible refine (LP2.out _).mono ?_); rintro e w' ⟨rfl, rfl⟩))
                      all_goals
                        refine (there_at 102 m (-1) _).mono ?_
                        rintro e w2 ⟨g, rfl, hg, c0, c1, hb2⟩
                        have hbx := HBM.out.trans (hb2.mono HBM.out.size)
                        obtain ⟨f0, f1, g0, g1, hsz⟩ := boxed _ 67 hbx
                        have HFIN := Lib.hid (rm_fin hbx 102 m (-1) g (Nat.le_trans HBM.out.size hg) c0 c1)
                        rw [World.size_alloc] at f0 f1 g0 g1 HFIN
                        clear hb2 hbx c0 c1 hg hsz
                        go_wp2_with fail
                        exact bodyPost_ret (v := .agg #[.int .i64 102, .slice (some ⟨g, 0, none⟩) 2 2]) (by simp [results, Tryd.results44, go_sem, f0, f1]) rfl (by rw [VD.out]; exact ref_some rfl HFIN.out)
                  · have tm : ((m : Int) == 0) = false := by simp; omega
                    have HZ : Hid (headA (decide (m = 0)) ps ls rt len = 0) := Lib.hid (by rw [headA, if_neg HSS.out, if_neg (by rw [hf1, hf2, hk3]; simp [hm0])])
                    clear hf1 hf2 hk3 hm0
                    have HMW : Hid (mv = if GI < len then some (ic GI - 1, (m : Int), (GI : Int)) else none) := Lib.hid (by rw [HMV.out, methW, HZ.out, if_neg (by simp)])
                    go_wp2_with (first | (go_at_call 103; (with_reducible refine (LP1.out _).mono ?_); rintro e w' ⟨rfl, rfl⟩) | (go_at_call 103; (with_reducible refine (LP2.out _).mono ?_); rintro e w' ⟨rfl, rfl⟩))
                    generalize (wr.alloc (.cells #[.string ps, .string ls, .string rt, .slice co len cp] 46)) = wM at *
                    have R3 : Hid (RRel3 ca k cc (some ⟨mb, mo, none⟩) nm mc w wM GI (.int .i64 ((0 : Nat) : Int)) wM) := Lib.hid ⟨0, Nat.zero_le _, rfl, HBM.out, Below.refl _ _⟩
                    clear p0 p1 x0 x1 x2 x3
                    go_loopw [8] (fun si wi => RRel3 ca k cc (some ⟨mb, mo, none⟩) nm mc w wM GI si wi) (fun si _ => len - (intOf si).toNat)
                    case atStart => exact R3.out
                    case round =>
                      clear R3
                      obtain ⟨i, hi, rfl, hb, hbm⟩ := hrel
                      obtain ⟨p0, p1⟩ := PB.out _ hb
                      obtain ⟨m0, m1, m2, m3⟩ := MB.out _ hbm
                      have HB := Lib.hid hb
                      have HBm := Lib.hid hbm
                      by_cases hil : i < len
                      · have ti : decide (i < len) = true := by simpa using hil
                        obtain ⟨lb, lo, rfl, hlb, hcl⟩ := Picks_at HCD.out (by omega)
                        have hcell : ∀ j, j < 4 → _ = _ := fun j hj => ((BW.out _ hb).cell (p := ⟨lb, lo + (i * 4 + j), none⟩) hlb).trans (hcl i j hil hj)
                        have k0 := hcell 0 (by omega)
                        have k1 := hcell 1 (by omega)
                        have k2 := hcell 2 (by omega)
                        have k3 := hcell 3 (by omega)
                        have KI : Hid (∀ w', Below w.heap.size w w' → Calls Tryd.prog 104 #[.agg #[.slice ca k cc, .slice (some ⟨mb, mo, none⟩) nm mc], .agg #[.string ps, .string ls, .string rt, .slice (some ⟨lb, lo, none⟩) len cp], .agg #[.int .i64 (gv i 0), .int .i64 (gv i 1), .int .i64 (gv i 2), .int .i64 (gv i 3)]] w' (RInt (icode (ic i)) w')) := Lib.hid fun w' hb' => by
                          rw [HX.out i]
                          exact rinstr_any ca k cc (some ⟨mb, mo, none⟩) nm mc f ps ls rt (some ⟨lb, lo, none⟩) len cp (gv i 0) (gv i 1) (gv i 2) (gv i 3) w' (by omega) (by omega) (by omega) (HP.out.cls.below hb')
                        clear hcell hcl hb hbm
                        generalize gv i 0 = T at *
                        generalize gv i 1 = K at *
                        generalize gv i 2 = A at *
                        generalize gv i 3 = B at *
                        rw [Nat.add_zero] at k0
                        rw [← Nat.add_assoc] at k1 k2 k3
                        rename_i wi
                        go_wp2_with fail
                        go_still_tail 7, (by kernel_rfl)
                        change wpList _ _ _ _ _ (World.drew _)
                        have HA2 := Lib.hid (below_drew HB.out)
                        have HM2 := Lib.hid (below_drew HBm.out)
                        clear p0 p1 m0 m1 m2 m3 k0 k1 k2 k3 HB HBm
                        generalize (World.drew _) = w2 at *
                        go_wp2_with fail
                        refine (KI.out _ (BW.out _ HA2.out)).mono ?_
                        rintro e w3 ⟨rfl, hb3⟩
                        have HA3 := Lib.hid (HA2.out.trans (hb3.mono HA2.out.size))
                        have HM3 := Lib.hid (HM2.out.trans (hb3.mono HM2.out.size))
                        clear hb3 HA2 HM2
                        by_cases hgi : i < GI
                        · have hz := HIO.out i hgi
                          have h0 : icode 0 = 0 := rfl
                          rw [hz, h0]
                          clear hz h0
                          go_wp2_with fail
                          go_roundw
                          case rel => exact ⟨i + 1, by omega, by go_num, HA3.out, HM3.out⟩
                          case measure => simp [intOf]; omega
                        · obtain rfl : i = GI := by omega
                          obtain ⟨c, hc⟩ : ∃ c, ic i = c + 1 := ⟨ic i - 1, by have := HIB.out hil; omega⟩
                          have hmv2 : mv = some (c, (m : Int), (i : Int)) := by rw [HMW.out, if_pos hil, hc]; rfl
                          have VD : Hid (RefPost (verdict k nm f ms) w = RefPost (some (c, (m : Int), (i : Int))) w) := Lib.hid (by rw [HVM2.out (HGM.out.2 (by rw [hmv2]; simp)) hml, hmv2])
                          obtain ⟨C, hC⟩ : ∃ C : Int, icode (ic i) = C := ⟨_, rfl⟩
                          have hCc : C = ((101 + c : Nat) : Int) := by rw [← hC, hc, icode, if_neg (by omega)]; omega
                          have tc : (C != 0) = true := by simp; omega
                          rw [hC]
                          have HCC := Lib.hid hCc
                          clear hc hmv2 hC hCc
                          go_wp2_with fail
                          refine (there_at C m i _).mono ?_
                          rintro e w2 ⟨g, rfl, hg, c0, c1, hb2⟩
                          have hbx := HA3.trans (hb2.mono HA3.size)
                          obtain ⟨f0, f1, g0, g1, hsz⟩ := boxed _ 67 hbx
                          have HFIN := Lib.hid (rm_fin hbx C m i g (Nat.le_trans HA3.size hg) c0 c1)
                          rw [World.size_alloc] at f0 f1 g0 g1 HFIN
                          clear hb2 hbx c0 c1 hg hsz
                          go_wp2_with fail
                          exact bodyPost_ret (v := .agg #[.int .i64 C, .slice (some ⟨g, 0, none⟩) 2 2]) (by simp [results, Tryd.results44, go_sem, f0, f1]) rfl (by rw [VD.out]; exact ref_some HCC.out HFIN.out)
                      · obtain rfl : i = len := by have := HIL.out; omega
                        have hmn : mv = none := by rw [HMW.out, if_neg (by have := HIL.out; omega)]
                        have HMM := Lib.hid (HGM.out.1 hmn)
                        have ti : decide (i < i) = false := by simp
                        clear hmn hb hbm
                        go_wp2_with fail
                        go_roundw
                        case rel => exact ⟨m + 1, by have := HMM.out; omega, by go_num, HB.out⟩
                        case measure => simp [intOf]; omega
                · have hl : rt.toList = [82] := str_eq.2 hr
                  have hk3 : retK rt = 2 := by rw [hr]; decide
                  clear hr
                  by_cases hm0 : m = 0
                  · have tm : ((m : Int) == 0) = true := by simp; omega
                    by_cases hps : ps = ⟨#[]⟩
                    · have he : ps.toList = [] := str_eq.2 hps
                      have VD := Lib.hid (HHD.out 1 (by rw [headA, if_neg HSS.out, if_pos (.inr (.inr (.inr ⟨by simpa using hm0, .inr hk3⟩)))]))
                      clear hf1 hf2 hk3 hm0 hps
                      go_wp2_with (first | (go_at_call 103; (with_reducible refine (LP1.out _).mono ?_); rintro e w' ⟨rfl, rfl⟩) | (go_at_call 103; (with_reducible refine (LP2.out _).mono ?_); rintro e w' ⟨rfl, rfl⟩))
                      all_goals
                        refine (there_at 102 m (-1) _).mono ?_
                        rintro e w2 ⟨g, rfl, hg, c0, c1, hb2⟩
                        have hbx := HBM.out.trans (hb2.mono HBM.out.size)
                        obtain ⟨f0, f1, g0, g1, hsz⟩ := boxed _ 67 hbx
                        have HFIN := Lib.hid (rm_fin hbx 102 m (-1) g (Nat.le_trans HBM.out.size hg) c0 c1)
                        rw [World.size_alloc] at f0 f1 g0 g1 HFIN
                        clear hb2 hbx c0 c1 hg hsz
                        go_wp2_with fail
                        exact bodyPost_ret (v := .agg #[.int .i64 102, .slice (some ⟨g, 0, none⟩) 2 2]) (by simp [results, Tryd.results44, go_sem, f0, f1]) rfl (by rw [VD.out]; exact ref_some rfl HFIN.out)
                    · have VD := Lib.hid (HHD.out 1 (by rw [headA, if_neg HSS.out, if_pos (.inr (.inr (.inr ⟨by simpa using hm0, .inl hps⟩)))]))
                      have he := str_isEmpty hps
                      have he' := str_no (l := []) hps
                      clear hf1 hf2 hk3 hm0 hps
                      go_wp2_with (first | (go_at_call 103; (with_reducible refine (LP1.out _).mono ?_); rintro e w' ⟨rfl, rfl⟩) | (go_at_call 103; (with_reducible refine (LP2.out _).mono ?_); rintro e w' ⟨rfl, rfl⟩))
                      all_goals
                        refine (there_at 102 m (-1) _).mono ?_
                        rintro e w2 ⟨g, rfl, hg, c0, c1, hb2⟩
                        have hbx := HBM.out.trans (hb2.mono HBM.out.size)
                        obtain ⟨f0, f1, g0, g1, hsz⟩ := boxed _ 67 hbx
                        have HFIN := Lib.hid (rm_fin hbx 102 m (-1) g (Nat.le_trans HBM.out.size hg) c0 c1)
                        rw [World.size_alloc] at f0 f1 g0 g1 HFIN
                        clear hb2 hbx c0 c1 hg hsz
                        go_wp2_with fail
                        exact bodyPost_ret (v := .agg #[.int .i64 102, .slice (some ⟨g, 0, none⟩) 2 2]) (by simp [results, Tryd.results44, go_sem, f0, f1]) rfl (by rw [VD.out]; exact ref_some rfl HFIN.out)
                  · have tm : ((m : Int) == 0) = false := by simp; omega
                    have HZ : Hid (headA (decide (m = 0)) ps ls rt len = 0) := Lib.hid (by rw [headA, if_neg HSS.out, if_neg (by rw [hf1, hf2, hk3]; simp [hm0])])
                    clear hf1 hf2 hk3 hm0
                    have HMW : Hid (mv = if GI < len then some (ic GI - 1, (m : Int), (GI : Int)) else none) := Lib.hid (by rw [HMV.out, methW, HZ.out, if_neg (by simp)])
                    go_wp2_with (first | (go_at_call 103; (with_reducible refine (LP1.out _).mono ?_); rintro e w' ⟨rfl, rfl⟩) | (go_at_call 103; (with_reducible refine (LP2.out _).mono ?_); rintro e w' ⟨rfl, rfl⟩))
                    generalize (wr.alloc (.cells #[.string ps, .string ls, .string rt, .slice co len cp] 46)) = wM at *
                    have R3 : Hid (RRel3 ca k cc (some ⟨mb, mo, none⟩) nm mc w wM GI (.int .i64 ((0 : Nat) : Int)) wM) := Lib.hid ⟨0, Nat.zero_le _, rfl, HBM.out, Below.refl _ _⟩
                    clear p0 p1 x0 x1 x2 x3
                    go_loopw [8] (fun si wi => RRel3 ca k cc (some ⟨mb, mo, none⟩) nm mc w wM GI si wi) (fun si _ => len - (intOf si).toNat)
                    case atStart => exact R3.out
                    case round =>
                      clear R3
                      obtain ⟨i, hi, rfl, hb, hbm⟩ := hrel
                      obtain ⟨p0, p1⟩ := PB.out _ hb
                      obtain ⟨m0, m1, m2, m3⟩ := MB.out _ hbm
                      have HB := Lib.hid hb
                      have HBm := Lib.hid hbm
                      by_cases hil : i < len
                      · have ti : decide (i < len) = true := by simpa using hil
                        obtain ⟨lb, lo, rfl, hlb, hcl⟩ := Picks_at HCD.out (by omega)
                        have hcell : ∀ j, j < 4 → _ = _ := fun j hj => ((BW.out _ hb).cell (p := ⟨lb, lo + (i * 4 + j), none⟩) hlb).trans (hcl i j hil hj)
                        have k0 := hcell 0 (by omega)
                        have k1 := hcell 1 (by omega)
                        have k2 := hcell 2 (by omega)
                        have k3 := hcell 3 (by omega)
                        have KI : Hid (∀ w', Below w.heap.size w w' → Calls Tryd.prog 104 #[.agg #[.slice ca k cc, .slice (some ⟨mb, mo, none⟩) nm mc], .agg #[.string ps, .string ls, .string rt, .slice (some ⟨lb, lo, none⟩) len cp], .agg #[.int .i64 (gv i 0), .int .i64 (gv i 1), .int .i64 (gv i 2), .int .i64 (gv i 3)]] w' (RInt (icode (ic i)) w')) := Lib.hid fun w' hb' => by
                          rw [HX.out i]
                          exact rinstr_any ca k cc (some ⟨mb, mo, none⟩) nm mc f ps ls rt (some ⟨lb, lo, none⟩) len cp (gv i 0) (gv i 1) (gv i 2) (gv i 3) w' (by omega) (by omega) (by omega) (HP.out.cls.below hb')
                        clear hcell hcl hb hbm
                        generalize gv i 0 = T at *
                        generalize gv i 1 = K at *
                        generalize gv i 2 = A at *
                        generalize gv i 3 = B at *
                        rw [Nat.add_zero] at k0
                        rw [← Nat.add_assoc] at k1 k2 k3
                        rename_i wi
                        go_wp2_with fail
                        go_still_tail 7, (by kernel_rfl)
                        change wpList _ _ _ _ _ (World.drew _)
                        have HA2 := Lib.hid (below_drew HB.out)
                        have HM2 := Lib.hid (below_drew HBm.out)
                        clear p0 p1 m0 m1 m2 m3 k0 k1 k2 k3 HB HBm
                        generalize (World.drew _) = w2 at *
                        go_wp2_with fail
                        refine (KI.out _ (BW.out _ HA2.out)).mono ?_
                        rintro e w3 ⟨rfl, hb3⟩
                        have HA3 := Lib.hid (HA2.out.trans (hb3.mono HA2.out.size))
                        have HM3 := Lib.hid (HM2.out.trans (hb3.mono HM2.out.size))
                        clear hb3 HA2 HM2
                        by_cases hgi : i < GI
                        · have hz := HIO.out i hgi
                          have h0 : icode 0 = 0 := rfl
                          rw [hz, h0]
                          clear hz h0
                          go_wp2_with fail
                          go_roundw
                          case rel => exact ⟨i + 1, by omega, by go_num, HA3.out, HM3.out⟩
                          case measure => simp [intOf]; omega
                        · obtain rfl : i = GI := by omega
                          obtain ⟨c, hc⟩ : ∃ c, ic i = c + 1 := ⟨ic i - 1, by have := HIB.out hil; omega⟩
                          have hmv2 : mv = some (c, (m : Int), (i : Int)) := by rw [HMW.out, if_pos hil, hc]; rfl
                          have VD : Hid (RefPost (verdict k nm f ms) w = RefPost (some (c, (m : Int), (i : Int))) w) := Lib.hid (by rw [HVM2.out (HGM.out.2 (by rw [hmv2]; simp)) hml, hmv2])
                          obtain ⟨C, hC⟩ : ∃ C : Int, icode (ic i) = C := ⟨_, rfl⟩
                          have hCc : C = ((101 + c : Nat) : Int) := by rw [← hC, hc, icode, if_neg (by omega)]; omega
                          have tc : (C != 0) = true := by simp; omega
                          rw [hC]
                          have HCC := Lib.hid hCc
                          clear hc hmv2 hC hCc
                          go_wp2_with fail
                          refine (there_at C m i _).mono ?_
                          rintro e w2 ⟨g, rfl, hg, c0, c1, hb2⟩
                          have hbx := HA3.trans (hb2.mono HA3.size)
                          obtain ⟨f0, f1, g0, g1, hsz⟩ := boxed _ 67 hbx
                          have HFIN := Lib.hid (rm_fin hbx C m i g (Nat.le_trans HA3.size hg) c0 c1)
                          rw [World.size_alloc] at f0 f1 g0 g1 HFIN
                          clear hb2 hbx c0 c1 hg hsz
                          go_wp2_with fail
                          exact bodyPost_ret (v := .agg #[.int .i64 C, .slice (some ⟨g, 0, none⟩) 2 2]) (by simp [results, Tryd.results44, go_sem, f0, f1]) rfl (by rw [VD.out]; exact ref_some HCC.out HFIN.out)
                      · obtain rfl : i = len := by have := HIL.out; omega
                        have hmn : mv = none := by rw [HMW.out, if_neg (by have := HIL.out; omega)]
                        have HMM := Lib.hid (HGM.out.1 hmn)
                        have ti : decide (i < i) = false := by simp
                        clear hmn hb hbm
                        go_wp2_with fail
                        go_roundw
                        case rel => exact ⟨m + 1, by have := HMM.out; omega, by go_num, HB.out⟩
                        case measure => simp [intOf]; omega
                · have VD := Lib.hid (HHD.out 1 (by rw [headA, if_neg HSS.out, if_pos (.inr (.inr (.inl h3)))]))
                  have r0 := str_isEmpty n0
                  have r0' := str_no (l := []) n0
                  have r1' := str_no (l := [73]) n1
                  have r2' := str_no (l := [82]) n2
                  have r1 : (rt.toList == [73]) = false := by simpa using r1'
                  have r2 : (rt.toList == [82]) = false := by simpa using r2'
                  clear hf1 hf2 h3 n0 n1 n2
                  go_wp2_with (first | (go_at_call 103; (with_reducible refine (LP1.out _).mono ?_); rintro e w' ⟨rfl, rfl⟩) | (go_at_call 103; (with_reducible refine (LP2.out _).mono ?_); rintro e w' ⟨rfl, rfl⟩))
                  all_goals
                    refine (there_at 102 m (-1) _).mono ?_
                    rintro e w2 ⟨g, rfl, hg, c0, c1, hb2⟩
                    have hbx := HBM.out.trans (hb2.mono HBM.out.size)
                    obtain ⟨f0, f1, g0, g1, hsz⟩ := boxed _ 67 hbx
                    have HFIN := Lib.hid (rm_fin hbx 102 m (-1) g (Nat.le_trans HBM.out.size hg) c0 c1)
                    rw [World.size_alloc] at f0 f1 g0 g1 HFIN
                    clear hb2 hbx c0 c1 hg hsz
                    go_wp2_with fail
                    exact bodyPost_ret (v := .agg #[.int .i64 102, .slice (some ⟨g, 0, none⟩) 2 2]) (by simp [results, Tryd.results44, go_sem, f0, f1]) rfl (by rw [VD.out]; exact ref_some rfl HFIN.out)
        · have tm : decide (m < nm) = false := by simpa using hml
          have VD : Hid (verdict k nm f ms = none) := Lib.hid (HVE.out (by have := goodM_le (nc := k) (nm := nm) (f := f) (ms := ms); omega))
          have HB := Lib.hid hb
          clear hb
          go_wp2_with fail
          refine (rnone_any _).mono ?_
          rintro e w2 ⟨rfl, hb2⟩
          have hbx := HB.out.trans (hb2.mono HB.out.size)
          obtain ⟨f0, f1, g0, g1, hsz2⟩ := boxed _ 67 hbx
          rw [World.size_alloc] at f0 f1 g0 g1
          have HX := Lib.hid (BW.out w2 hbx)
          clear hb2 hbx hsz2
          go_wp2_with fail
          exact bodyPost_ret (v := .agg #[.int .i64 0, .slice none 0 0]) (by simp [results, Tryd.results44, go_sem, f0, f1]) rfl (by rw [VD.out]; exact ⟨(HX.out.setCell (by show w.heap.size ≤ w.heap.size + 1; omega) _).setCell (by show w.heap.size ≤ w.heap.size + 1; omega) _, rfl⟩)

/-- Texts are no longer than texts can be. -/
structure Wid (nc : Nat) (f : Nat → ByteArray) (nm : Nat) (ms : Nat → Meth) : Prop where
  fs : ∀ i, i < nc → (f i).size ≤ maxLen
  ps : ∀ i, i < nm → (ms i).ps.size ≤ maxLen
  ls : ∀ i, i < nm → (ms i).ls.size ≤ maxLen
  rt : ∀ i, i < nm → (ms i).rt.size ≤ maxLen

def lgtM (x : Meth) : Prop := x.ps.size ≤ 30 ∧ x.ls.size ≤ 30 ∧ x.rt.size ≤ 30 ∧ x.len ≤ 140

def lightP (nc : Nat) (f : Nat → ByteArray) (nm : Nat) (ms : Nat → Meth) : Prop := nc ≤ 20 ∧ nm ≤ 20 ∧ (∀ i, i < nc → (f i).size ≤ 30) ∧ ∀ i, i < nm → lgtM (ms i)

theorem light_sml {nc : Nat} {f : Nat → ByteArray} {nm : Nat} {ms : Nat → Meth} (h : lightP nc f nm ms) : Sml nc f nm ms :=
  ⟨fun i hi => by have := h.2.2.1 i hi; unfold maxLen; omega, fun i hi => by have := (h.2.2.2 i hi).1; omega, fun i hi => by have := (h.2.2.2 i hi).2.1; omega, fun i hi => by have := (h.2.2.2 i hi).2.2.1; omega, fun i hi => by have := (h.2.2.2 i hi).2.2.2; omega⟩

def progW1 (ca : Option Addr) (nc cc : Nat) (ma : Option Addr) (nm mc : Nat) (w : World) : World := w.alloc (.cells #[.slice ca nc cc, .slice ma nm mc] 50)

theorem progW1_below {ca : Option Addr} {nc cc : Nat} {ma : Option Addr} {nm mc : Nat} {w : World} : Below w.heap.size w (progW1 ca nc cc ma nm mc w) := (Below.refl _ _).alloc (Nat.le_refl _) _

theorem progW1_cells {ca : Option Addr} {nc cc : Nat} {ma : Option Addr} {nm mc : Nat} {w w' : World} (hb : Below (progW1 ca nc cc ma nm mc w).heap.size (progW1 ca nc cc ma nm mc w) w') : w'.cell? ⟨w.heap.size, 0, none⟩ = some (.slice ca nc cc) ∧ w'.cell? ⟨w.heap.size, 1, none⟩ = some (.slice ma nm mc) := by
  have h2 := (hb.block w.heap.size (by simp [progW1])).trans (heap_alloc_new w (.cells #[.slice ca nc cc, .slice ma nm mc] 50))
  exact ⟨(cell_of_row _ _ 0 _ 50 (0, 0) h2).trans rfl, (cell_of_row _ _ 1 _ 50 (0, 0) h2).trans rfl⟩

def LgtRel (p : Nat → Prop) (n : Nat) (W0 : World) (si : Value) (wr : World) : Prop := ∃ k : Nat, k ≤ n ∧ si = .int .i64 k ∧ (∀ i, i < k → p i) ∧ Below W0.heap.size W0 wr

set_option maxHeartbeats 8000000 in
set_option maxRecDepth 100000 in
theorem light_any (ca : Option Addr) (nc cc : Nat) (f : Nat → ByteArray) (ma : Option Addr) (nm mc : Nat) (ms : Nat → Meth) (w : World) (hP : Prg w ca nc cc f ma nm mc ms) (hW : Wid nc f nm ms) :
    Calls Tryd.prog 43 #[.agg #[.slice ca nc cc, .slice ma nm mc]] w (SmB (pB (lightP nc f nm ms)) w) := by
  have HP := Lib.hid hP
  have HW := Lib.hid hW
  have BW := Lib.hid (progW1_below (ca := ca) (nc := nc) (cc := cc) (ma := ma) (nm := nm) (mc := mc) (w := w))
  have CM : Hid (∀ w', Below (progW1 ca nc cc ma nm mc w).heap.size (progW1 ca nc cc ma nm mc w) w' → (w'.cell? ⟨w.heap.size, 0, none⟩ = some (.slice ca nc cc) ∧ w'.cell? ⟨w.heap.size, 1, none⟩ = some (.slice ma nm mc))) := Lib.hid fun w' h => progW1_cells h
  have hx1 : nc ≤ 9223372036854775807 := by have h1 := hP.cls.le; have h2 := hP.cls.max; unfold maxLen at h2; omega
  have hx2 : nm ≤ 9223372036854775807 := by have h1 := hP.le; have h2 := hP.max; unfold maxLen at h2; omega
  clear hP hW
  by_cases h1 : nc ≤ 20
  · by_cases h2 : nm ≤ 20
    · have t1 : decide (20 < nc) = false := by simp; omega
      have t1' : decide (20 < (nc : Int)) = false := by simp; omega
      have t2 : decide (20 < nm) = false := by simp; omega
      have t2' : decide (20 < (nm : Int)) = false := by simp; omega
      have FC : Hid (∀ i, i < nc → ¬ (f i).size ≤ 30 → pB (lightP nc f nm ms) = false) := Lib.hid fun i hi h => pB_no fun e => h (e.2.2.1 i hi)
      have FM : Hid (∀ i, i < nm → ¬ lgtM (ms i) → pB (lightP nc f nm ms) = false) := Lib.hid fun i hi h => pB_no fun e => h (e.2.2.2 i hi)
      have FT : Hid ((∀ i, i < nc → (f i).size ≤ 30) → (∀ i, i < nm → lgtM (ms i)) → pB (lightP nc f nm ms) = true) := Lib.hid fun a b => pB_yes ⟨h1, h2, a, b⟩
      have R0 : Hid (LgtRel (fun i => (f i).size ≤ 30) nc (progW1 ca nc cc ma nm mc w) (.int .i64 ((0 : Nat) : Int)) (progW1 ca nc cc ma nm mc w)) := Lib.hid ⟨0, Nat.zero_le _, rfl, fun i h => absurd h (Nat.not_lt_zero _), Below.refl _ _⟩
      obtain ⟨W0, hW0⟩ : ∃ W0, progW1 ca nc cc ma nm mc w = W0 := ⟨_, rfl⟩
      rw [hW0] at R0 CM BW
      unfold progW1 at hW0
      clear hx1 hx2
      go_enter Tryd.func43, Tryd.ntmps43
      obtain ⟨p0, p1⟩ := CM.out W0 (Below.refl _ _)
      go_wp2_with fail
      clear p0 p1 t1 t1' t2 t2'
      go_loopw [3] (fun si wr => LgtRel (fun i => (f i).size ≤ 30) nc W0 si wr) (fun si _ => nc - (intOf si).toNat)
      case atStart => first | exact R0.out | (rw [hW0]; exact R0.out)
      case round =>
        clear R0
        obtain ⟨k, hk, rfl, hp, hb⟩ := hrel
        have HB := Lib.hid hb
        obtain ⟨p0, p1⟩ := CM.out wr hb
        by_cases hlt : k < nc
        · have tk : decide (k < nc) = true := by simpa using hlt
          obtain ⟨lb, lo, rfl, hlb, hcl⟩ := Cls_at HP.out.cls (by omega)
          have hbw := BW.out.trans (hb.mono BW.out.size)
          have c0 := (hbw.cell (p := ⟨lb, lo + k, none⟩) hlb).trans (hcl k hlt)
          have hfs := HW.out.fs k hlt
          unfold maxLen at hfs
          have HPP := Lib.hid hp
          by_cases h30 : (f k).size ≤ 30
          · have HN := Lib.hid (sm_next (p := fun i => (f i).size ≤ 30) hp h30)
            have t3 : decide (30 < (f k).size) = false := by simp; omega
            have t3' : decide (30 < ((f k).size : Int)) = false := by simp; omega
            clear hcl hbw hp hb h30
            generalize f k = s at *
            go_wp2_with fail
            go_roundw
            case rel => exact ⟨k + 1, by omega, by go_num, HN.out, HB.out⟩
            case measure => simp [intOf]; omega
          · have HF := Lib.hid (FC.out k hlt h30)
            have HBX : Hid (Below w.heap.size w wr) := Lib.hid hbw
            have t3 : decide (30 < (f k).size) = true := by simp; omega
            have t3' : decide (30 < ((f k).size : Int)) = true := by simp; omega
            clear hcl hbw hp hb h30
            generalize f k = s at *
            go_wp2_with fail
            go_ret
            exact ⟨by rw [HF.out]; rfl, HBX.out⟩
        · have tk : decide (k < nc) = false := by simpa using hlt
          have HAC : Hid (∀ i, i < nc → (f i).size ≤ 30) := Lib.hid fun i hi => hp i (by omega)
          have R1 : Hid (LgtRel (fun i => lgtM (ms i)) nm W0 (.int .i64 ((0 : Nat) : Int)) wr) := Lib.hid ⟨0, Nat.zero_le _, rfl, fun i h => absurd h (Nat.not_lt_zero _), hb⟩
          clear hp hb
          go_wp2_with fail
          clear p0 p1
          go_loopw [4] (fun si wr => LgtRel (fun i => lgtM (ms i)) nm W0 si wr) (fun si _ => nm - (intOf si).toNat)
          case atStart => exact R1.out
          case round =>
            clear R1
            obtain ⟨m, hm, rfl, hp, hb⟩ := hrel
            have HBm := Lib.hid hb
            obtain ⟨p0, p1⟩ := CM.out _ hb
            rename_i wm
            by_cases hml : m < nm
            · have tm : decide (m < nm) = true := by simpa using hml
              obtain ⟨mb, mo, rfl, hmb, hmc⟩ := Prg_at HP.out (by omega)
              have hbw := BW.out.trans (hb.mono BW.out.size)
              obtain ⟨y0, y1, y2, y3⟩ := hmc m hml
              have x0 := (hbw.cell (p := ⟨mb, mo + m * 4, none⟩) hmb).trans y0
              have x1 := (hbw.cell (p := ⟨mb, mo + m * 4 + 1, none⟩) hmb).trans y1
              have x2 := (hbw.cell (p := ⟨mb, mo + m * 4 + 2, none⟩) hmb).trans y2
              have x3 := (hbw.cell (p := ⟨mb, mo + m * 4 + 3, none⟩) hmb).trans y3
              have q1 := HW.out.ps m hml
              have q2 := HW.out.ls m hml
              have q3 := HW.out.rt m hml
              have q4 : (ms m).len ≤ 9223372036854775807 := by have a := (HP.out.code m hml).le; have b := (HP.out.code m hml).max; unfold maxLen at b; omega
              unfold maxLen at q1 q2 q3
              have HN : Hid (lgtM (ms m) → ∀ i, i < m + 1 → lgtM (ms i)) := Lib.hid fun h => sm_next (p := fun i => lgtM (ms i)) hp h
              have HF : Hid (¬ lgtM (ms m) → pB (lightP nc f nm ms) = false) := Lib.hid fun h => FM.out m hml h
              have HLM := Lib.hid (show lgtM (ms m) ↔ ((ms m).ps.size ≤ 30 ∧ (ms m).ls.size ≤ 30 ∧ (ms m).rt.size ≤ 30 ∧ (ms m).len ≤ 140) from Iff.rfl)
              have HBA := Lib.hid (hb.alloc hb.size (.cells #[.string (ms m).ps, .string (ms m).ls, .string (ms m).rt, .slice (ms m).co (ms m).len (ms m).cp] 46))
              have HBX := Lib.hid (hbw.alloc hbw.size (.cells #[.string (ms m).ps, .string (ms m).ls, .string (ms m).rt, .slice (ms m).co (ms m).len (ms m).cp] 46))
              clear hmc hbw y0 y1 y2 y3 hp hb
              generalize lgtM (ms m) = P at *
              generalize (ms m).ps = ps at *
              generalize (ms m).ls = ls at *
              generalize (ms m).rt = rt at *
              generalize (ms m).co = co at *
              generalize (ms m).len = len at *
              generalize (ms m).cp = cp at *
              by_cases h : ps.size ≤ 30 ∧ ls.size ≤ 30 ∧ rt.size ≤ 30 ∧ len ≤ 140
              · have HN2 := Lib.hid (HN.out (HLM.out.2 h))
                have u1 : decide (30 < ps.size) = false := by simp; omega
                have u1' : decide (30 < (ps.size : Int)) = false := by simp; omega
                have u2 : decide (30 < ls.size) = false := by simp; omega
                have u2' : decide (30 < (ls.size : Int)) = false := by simp; omega
                have u3 : decide (30 < rt.size) = false := by simp; omega
                have u3' : decide (30 < (rt.size : Int)) = false := by simp; omega
                have u4 : decide (140 < len) = false := by simp; omega
                have u4' : decide (140 < (len : Int)) = false := by simp; omega
                clear h
                go_wp2_with fail
                go_roundw
                case rel => exact ⟨m + 1, by omega, by go_num, HN2.out, HBA.out⟩
                case measure => simp [intOf]; omega
              · have HF2 := Lib.hid (HF.out fun e => h (HLM.out.1 e))
                have HH := Lib.hid h
                clear h
                go_wp2_with fail
                all_goals first
                  | (exfalso; have := HH.out; simp at *; omega)
                  | (go_ret; exact ⟨by rw [HF2.out]; rfl, HBX.out⟩)
                  | (exfalso; have := HH.out; omega)
            · have tm : decide (m < nm) = false := by simpa using hml
              have HFT := Lib.hid (FT.out HAC.out fun i hi => hp i (by omega))
              have HBX := Lib.hid (BW.out.trans (hb.mono BW.out.size))
              clear hp hb
              go_wp2_with fail
              go_ret
              exact ⟨by rw [HFT.out]; rfl, HBX.out⟩
    · have HF := Lib.hid (pB_no (p := lightP nc f nm ms) fun e => h2 e.2.1)
      have t1 : decide (20 < nc) = false := by simp; omega
      have t1' : decide (20 < (nc : Int)) = false := by simp; omega
      have t2 : decide (20 < nm) = true := by simp; omega
      have t2' : decide (20 < (nm : Int)) = true := by simp; omega
      unfold progW1 at BW CM
      clear h1 h2
      go_enter Tryd.func43, Tryd.ntmps43
      go_wp2_with fail
      go_ret
      exact ⟨by rw [HF.out]; rfl, BW.out⟩
  · have HF := Lib.hid (pB_no (p := lightP nc f nm ms) fun e => h1 e.1)
    have t1 : decide (20 < nc) = true := by simp; omega
    have t1' : decide (20 < (nc : Int)) = true := by simp; omega
    unfold progW1 at BW CM
    clear h1
    go_enter Tryd.func43, Tryd.ntmps43
    go_wp2_with fail
    go_ret
    exact ⟨by rw [HF.out]; rfl, BW.out⟩

set_option maxRecDepth 100000 in
theorem rmay_bare (ca : Option Addr) (nc cc : Nat) (ma : Option Addr) (nm mc : Nat) (w : World) (hs : nc ≤ 1000000 ∧ nm ≤ 1000000) (hm : 12 < nc ∨ nm = 0 ∨ 12 < nm) :
    Calls Tryd.prog 44 #[.agg #[.slice ca nc cc, .slice ma nm mc]] w (PlainPost 101 w) := by
  have hbl := rmW_below ca nc cc ma nm mc w
  have HB := Lib.hid hbl
  have BW : Hid (∀ w', Below (rmW ca nc cc ma nm mc w).heap.size (rmW ca nc cc ma nm mc w) w' → Below w.heap.size w w') := Lib.hid fun w' hb => (rmW_below ca nc cc ma nm mc w).trans (hb.mono (rmW_below ca nc cc ma nm mc w).size)
  clear hbl
  by_cases h1 : 12 < nc
  · have t1 : decide (12 < (nc : Int)) = true := by simp; omega
    have t1' : decide (12 < nc) = true := by simp; omega
    clear hm h1
    go_enter Tryd.func44, Tryd.ntmps44
    go_wp2_with fail
    refine (bare_any 101 _).mono ?_
    rintro e w2 ⟨rfl, hb2⟩
    obtain ⟨f0, f1, g0, g1, hlt⟩ := boxed _ 67 hb2
    rw [World.size_alloc] at f0 f1 g0 g1
    have HX := Lib.hid (BW.out w2 hb2)
    clear hb2 hlt
    go_wp2_with fail
    exact bodyPost_ret (v := .agg #[.int .i64 101, .slice none 0 0]) (by simp [results, Tryd.results44, go_sem, f0, f1]) rfl ⟨rfl, (HX.out.setCell (by show w.heap.size ≤ w.heap.size + 1; omega) _).setCell (by show w.heap.size ≤ w.heap.size + 1; omega) _⟩
  · have t1 : decide (12 < (nc : Int)) = false := by simp; omega
    have t1' : decide (12 < nc) = false := by simp; omega
    by_cases h2 : nm = 0
    · have t2 : decide ((nm : Int) < 1) = true := by simp; omega
      clear hm h1 h2
      go_enter Tryd.func44, Tryd.ntmps44
      go_wp2_with fail
      refine (bare_any 101 _).mono ?_
      rintro e w2 ⟨rfl, hb2⟩
      obtain ⟨f0, f1, g0, g1, hlt⟩ := boxed _ 67 hb2
      rw [World.size_alloc] at f0 f1 g0 g1
      have HX := Lib.hid (BW.out w2 hb2)
      clear hb2 hlt
      go_wp2_with fail
      exact bodyPost_ret (v := .agg #[.int .i64 101, .slice none 0 0]) (by simp [results, Tryd.results44, go_sem, f0, f1]) rfl ⟨rfl, (HX.out.setCell (by show w.heap.size ≤ w.heap.size + 1; omega) _).setCell (by show w.heap.size ≤ w.heap.size + 1; omega) _⟩
    · have t2 : decide ((nm : Int) < 1) = false := by simp; omega
      have t3 : decide (12 < (nm : Int)) = true := by simp; omega
      have t3' : decide (12 < nm) = true := by simp; omega
      clear hm h1 h2
      go_enter Tryd.func44, Tryd.ntmps44
      go_wp2_with fail
      refine (bare_any 101 _).mono ?_
      rintro e w2 ⟨rfl, hb2⟩
      obtain ⟨f0, f1, g0, g1, hlt⟩ := boxed _ 67 hb2
      rw [World.size_alloc] at f0 f1 g0 g1
      have HX := Lib.hid (BW.out w2 hb2)
      clear hb2 hlt
      go_wp2_with fail
      exact bodyPost_ret (v := .agg #[.int .i64 101, .slice none 0 0]) (by simp [results, Tryd.results44, go_sem, f0, f1]) rfl ⟨rfl, (HX.out.setCell (by show w.heap.size ≤ w.heap.size + 1; omega) _).setCell (by show w.heap.size ≤ w.heap.size + 1; omega) _⟩

theorem wf64y {x : Int} (h0 : -9223372036854775808 ≤ x) (h1 : x ≤ 9223372036854775807) : (Lit.int .i64 x).wf = true := by
  simp [Lit.wf, IntKind.min, IntKind.max, IntKind.signed, IntKind.bits]
  omega

def BelB (W0 w' : World) : Prop := Below W0.heap.size W0 w'

/-- What each method of a program that may be keeps. -/
def FineM (nc nm : Nat) (f : Nat → ByteArray) (x : Meth) : Prop :=
  x.len ≤ 120 ∧ ∀ i, i < x.len → (1 ≤ x.gv i 0 ∧ x.gv i 0 ≤ 35) ∧ namedB nc nm ((x.ps.size : Int) + x.ls.size) (fun i => (f i).size) (x.gv i 0) (x.gv i 1) (x.gv i 2) = true ∧ (x.gv i 0 = 22 ∨ x.gv i 0 = 23 → (Lit.int .i64 (x.gv i 1)).wf = true)

theorem instrC_fine {nb : Bool} {cl : Nat} {op A B N : Int} (h : instrC nb cl op A B N = 0) (hl : cl ≤ 120) : (1 ≤ op ∧ op ≤ 35) ∧ nb = true ∧ (op = 22 ∨ op = 23 → (Lit.int .i64 A).wf = true) := by
  unfold instrC at h
  split at h
  · cases h
  · split at h
    · cases h
    · split at h
      · cases h
      · rename_i h1 h2 h3
        refine ⟨by omega, by simpa using h2, fun e => ?_⟩
        have h4 : ¬ inside A cl = false := fun h5 => h3 ⟨e, h5⟩
        have h6 : 0 ≤ A ∧ A < (cl : Int) := by simpa [inside] using h4
        exact wf64y (by omega) (by omega)

theorem verdict_fine {nc nm : Nat} {f : Nat → ByteArray} {ms : Nat → Meth} (h : verdict nc nm f ms = none) {m : Nat} (hm : m < nm) : FineM nc nm f (ms m) := by
  unfold verdict progW at h
  split at h
  · cases h
  · split at h
    · rename_i h1 h2
      exact absurd h (goodM_bad h2)
    · rename_i h1 h2
      have h3 := goodM_ok (nc := nc) (nm := nm) (f := f) (ms := ms) (i := m) (by omega)
      unfold mthV methW at h3
      split at h3
      · cases h3
      · split at h3
        · cases h3
        · rename_i h4 h5
          have h6 : (ms m).len ≤ 120 := by
            rcases Nat.lt_or_ge 120 (ms m).len with h7 | h7
            · exact absurd (by rw [headA, if_pos (.inr (.inr h7))]; omega) h4
            · exact h7
          refine ⟨h6, fun i hi => ?_⟩
          have h8 := goodI_ok (nc := nc) (nm := nm) (f := f) (ms m) (i := i) (by omega)
          unfold icA icOf at h8
          have h9 := instrC_fine h8 h6
          refine ⟨h9.1, ?_, h9.2.2⟩
          have := h9.2.1
          rw [show (((ms m).ps.size + (ms m).ls.size : Nat) : Int) = ((ms m).ps.size : Int) + (ms m).ls.size by omega] at this
          exact this

/-- What the document's May answers: its number; none: each method is fine. -/
def MayF (nc nm : Nat) (f : Nat → ByteArray) (ms : Nat → Meth) (B : World) (e : Ending) (w2 : World) : Prop :=
  ∃ (C : Int) (ad : Option Addr) (n c : Nat), e = .returned (.agg #[.int .i64 C, .slice ad n c]) ∧ BelB B w2 ∧ (C = 0 → ∀ m, m < nm → FineM nc nm f (ms m))

theorem mayF_of (ca : Option Addr) (nc cc : Nat) (f : Nat → ByteArray) (ma : Option Addr) (nm mc : Nat) (ms : Nat → Meth) (B w' : World) (h : BelB B w') (hP : Prg w' ca nc cc f ma nm mc ms) (hS : Sml nc f nm ms) (hc : nc ≤ 20) (hm : nm ≤ 20) :
    Calls Tryd.prog 44 #[.agg #[.slice ca nc cc, .slice ma nm mc]] w' (MayF nc nm f ms B) := by
  by_cases hbare : 12 < nc ∨ nm = 0 ∨ 12 < nm
  · exact (rmay_bare ca nc cc ma nm mc w' (by omega) hbare).mono (by rintro e w2 ⟨rfl, h2⟩; exact ⟨101, none, 0, 0, rfl, Below.trans h (Below.mono h2 h.size), fun e => by cases e⟩)
  · refine (rMay_any ca nc cc f ma nm mc ms w' (by omega) (by omega) (by omega) hP hS).mono ?_
    cases hv : verdict nc nm f ms with
    | none =>
      rintro e w2 ⟨h2, rfl⟩
      exact ⟨0, none, 0, 0, rfl, Below.trans h (Below.mono h2 h.size), fun _ m hm => verdict_fine hv hm⟩
    | some x =>
      obtain ⟨c, m, pc⟩ := x
      rintro e w2 ⟨h2, g, rfl, y0, y1⟩
      exact ⟨_, _, 2, 2, rfl, Below.trans h (Below.mono h2 h.size), fun e => by omega⟩

theorem cells_instr : Tryd.prog.cellsOf 52 = 4 := by kernel_rfl

theorem cells_class : Tryd.prog.cellsOf 105 = 1 := by kernel_rfl

theorem cells_meth : Tryd.prog.cellsOf 46 = 4 := by kernel_rfl

theorem cells_prog : Tryd.prog.cellsOf 50 = 2 := by kernel_rfl

theorem cells_int1 : Tryd.prog.cellsOf 3 = 1 := by kernel_rfl

theorem cells_long1 : Tryd.prog.cellsOf 2 = 1 := by kernel_rfl

theorem cells_str1 : Tryd.prog.cellsOf 9 = 1 := by kernel_rfl

theorem cells_instrs : Tryd.prog.cellsOf 44 = 1 := by kernel_rfl

theorem cells_classes : Tryd.prog.cellsOf 48 = 1 := by kernel_rfl

theorem cells_meths : Tryd.prog.cellsOf 47 = 1 := by kernel_rfl

theorem one_of {l : List Value} {o : Nat} {v : Value} (ho : o < l.length) (h : (l.drop o).take 1 = [v]) : l[o]? = some v := by
  rw [List.drop_eq_getElem_cons ho, List.take_succ_cons, List.take_zero] at h
  rw [List.getElem?_eq_getElem ho]
  exact congrArg some (List.cons.inj h).1

section

variable {H : Type} {enc : TypeId × Value → H} {W : World} {base : Nat} {spare : Nat → Bool} {held : Bool} {fuel : Nat}

theorem instrs_ofT {len cap : Nat} {a : Option Addr} {x : DataW H × List MemPlace}
    (h : DataW.trod enc Tryd.prog W base spare held fuel 44 [.slice a len cap] = some x) : ∃ gv, Picks W a len cap gv := by
  rcases open_slice Tryd.underlying44 h with ⟨hcs, _⟩ | ⟨ad, l, c, m, fl, D, Pl, hcs, _, hl, hm, hmm, _, hel⟩
  · simp at hcs
    obtain ⟨rfl, rfl, rfl⟩ := hcs
    exact ⟨fun _ _ => 0, ⟨Nat.le_refl _, Nat.zero_le _, fun _ => rfl, fun ad h => (by cases h)⟩⟩
  · simp at hcs
    obtain ⟨rfl, rfl, rfl⟩ := hcs
    have hlm : len ≤ m := by rw [hmm]; split <;> omega
    have key : ∀ i j, i < len → j < 4 → ∃ z : Int, W.cell? (ad.add (i * 4 + j)) = some (.int .i64 z) := by
      intro i j hi hj
      obtain ⟨cs', hc, ht⟩ := hel i (by omega)
      rw [cells_instr] at hc
      obtain ⟨xs, n, _, _, hlen, hxl, hf⟩ := DataW.trod_struct Tryd.underlying52 ht
      rw [cells_instr] at hlen
      obtain ⟨_, hcl, hat⟩ := World.cells?_some hc
      have hcell := hat j hj
      rw [add_add] at hcell
      have fin : ∀ (t : TypeId) (o : Nat), Tryd.prog.underlying t = some (.int .i64) → Tryd.prog.cellsOf t = 1 → o = j → (∃ y, DataW.trod enc Tryd.prog W base spare held n t ((cs'.drop o).take (Tryd.prog.cellsOf t)) = some y) → ∃ z : Int, W.cell? (ad.add (i * 4 + j)) = some (.int .i64 z) := by
        rintro t o hu h1 rfl ⟨y, hy⟩
        rw [h1] at hy
        obtain ⟨z, hz, _, _⟩ := DataW.trod_int hu hy
        exact ⟨z, by rw [hcell]; exact one_of (by omega) hz⟩
      have hxs : ∀ k, k < 4 → ∃ y, xs[k]? = some y := fun k hk => ⟨_, List.getElem?_eq_getElem (by rw [hxl]; exact hk)⟩
      match j, hj with
      | 0, _ => obtain ⟨y, hy⟩ := hxs 0 (by omega); exact fin _ 0 Tryd.underlying3 cells_int1 rfl ⟨y, (hf 0 _ rfl).trans hy⟩
      | 1, _ => obtain ⟨y, hy⟩ := hxs 1 (by omega); exact fin _ 1 Tryd.underlying3 cells_int1 rfl ⟨y, (hf 1 _ rfl).trans hy⟩
      | 2, _ => obtain ⟨y, hy⟩ := hxs 2 (by omega); exact fin _ 2 Tryd.underlying3 cells_int1 rfl ⟨y, (hf 2 _ rfl).trans hy⟩
      | 3, _ => obtain ⟨y, hy⟩ := hxs 3 (by omega); exact fin _ 3 Tryd.underlying2 cells_long1 rfl ⟨y, (hf 3 _ rfl).trans hy⟩
    refine ⟨fun i j => if h : i < len ∧ j < 4 then (key i j h.1 h.2).choose else 0, ⟨hl, hm, fun e => (by cases e), fun ad' had i j hi hj => ?_⟩⟩
    cases had
    simp only [hi, hj, and_self, dite_true]
    exact (key i j hi hj).choose_spec

theorem classes_ofT {len cap : Nat} {a : Option Addr} {x : DataW H × List MemPlace}
    (h : DataW.trod enc Tryd.prog W base spare held fuel 48 [.slice a len cap] = some x) : ∃ f, Cls W a len cap f ∧ ∀ i, i < len → (f i).size ≤ maxLen := by
  rcases open_slice Tryd.underlying48 h with ⟨hcs, _⟩ | ⟨ad, l, c, m, fl, D, Pl, hcs, _, hl, hm, hmm, _, hel⟩
  · simp at hcs
    obtain ⟨rfl, rfl, rfl⟩ := hcs
    exact ⟨fun _ => ⟨#[]⟩, ⟨Nat.le_refl _, Nat.zero_le _, fun _ => rfl, fun ad h => (by cases h)⟩, fun i hi => absurd hi (Nat.not_lt_zero _)⟩
  · simp at hcs
    obtain ⟨rfl, rfl, rfl⟩ := hcs
    have hlm : len ≤ m := by rw [hmm]; split <;> omega
    have key : ∀ i, i < len → ∃ s : ByteArray, W.cell? (ad.add i) = some (.string s) ∧ s.size ≤ maxLen := by
      intro i hi
      obtain ⟨cs', hc, ht⟩ := hel i (by omega)
      rw [cells_class, Nat.mul_one] at hc
      obtain ⟨xs, n, _, _, hlen, hxl, hf⟩ := DataW.trod_struct Tryd.underlying105 ht
      rw [cells_class] at hlen
      obtain ⟨_, hcl, hat⟩ := World.cells?_some hc
      have hcell := hat 0 (by omega)
      rw [add_add, Nat.add_zero] at hcell
      obtain ⟨y, hy⟩ : ∃ y, xs[0]? = some y := ⟨_, List.getElem?_eq_getElem (by rw [hxl]; decide)⟩
      have hz : DataW.trod enc Tryd.prog W base spare held n 9 ((cs'.drop 0).take (Tryd.prog.cellsOf 9)) = some y := (hf 0 _ rfl).trans hy
      rw [cells_str1] at hz
      obtain ⟨s, hs, _, hsz⟩ := DataW.trod_string Tryd.underlying9 hz
      exact ⟨s, by rw [hcell]; exact one_of (by omega) hs, hsz⟩
    refine ⟨fun i => if h : i < len then (key i h).choose else ⟨#[]⟩, ⟨hl, hm, fun e => (by cases e), fun ad' had i hi => ?_⟩, fun i hi => ?_⟩
    · cases had
      simp only [hi, dite_true]
      exact (key i hi).choose_spec.1
    · simp only [hi, dite_true]
      exact (key i hi).choose_spec.2

structure MethIn (W : World) (ad : Addr) (i : Nat) (x : Meth) : Prop where
  c0 : W.cell? (ad.add (i * 4)) = some (.string x.ps)
  c1 : W.cell? (ad.add (i * 4 + 1)) = some (.string x.ls)
  c2 : W.cell? (ad.add (i * 4 + 2)) = some (.string x.rt)
  c3 : W.cell? (ad.add (i * 4 + 3)) = some (.slice x.co x.len x.cp)
  code : Picks W x.co x.len x.cp x.gv
  s0 : x.ps.size ≤ maxLen
  s1 : x.ls.size ≤ maxLen
  s2 : x.rt.size ≤ maxLen

theorem slice_one {t e : TypeId} {cs : List Value} {x : DataW H × List MemPlace} {n : Nat} (hu : Tryd.prog.underlying t = some (.slice e)) (h : DataW.trod enc Tryd.prog W base spare held n t cs = some x) : ∃ a l c, cs = [.slice a l c] := by
  rcases open_slice hu h with ⟨hcs, _⟩ | ⟨ad, l, c, m, fl, D, Pl, hcs, _⟩
  · exact ⟨none, 0, 0, hcs⟩
  · exact ⟨some ad, l, c, hcs⟩

theorem methods_ofT {len cap : Nat} {a : Option Addr} {x : DataW H × List MemPlace}
    (h : DataW.trod enc Tryd.prog W base spare held fuel 47 [.slice a len cap] = some x) : ∃ ms : Nat → Meth, (len ≤ cap ∧ cap ≤ maxLen ∧ (a = none → cap = 0)) ∧ ∀ ad, a = some ad → ∀ i, i < len → MethIn W ad i (ms i) := by
  rcases open_slice Tryd.underlying47 h with ⟨hcs, _⟩ | ⟨ad, l, c, m, fl, D, Pl, hcs, _, hl, hm, hmm, _, hel⟩
  · simp at hcs
    obtain ⟨rfl, rfl, rfl⟩ := hcs
    exact ⟨fun _ => ⟨⟨#[]⟩, ⟨#[]⟩, ⟨#[]⟩, none, 0, 0, fun _ _ => 0⟩, ⟨Nat.le_refl _, Nat.zero_le _, fun _ => rfl⟩, fun ad h => (by cases h)⟩
  · simp at hcs
    obtain ⟨rfl, rfl, rfl⟩ := hcs
    have hlm : len ≤ m := by rw [hmm]; split <;> omega
    have key : ∀ i, i < len → ∃ x : Meth, MethIn W ad i x := by
      intro i hi
      obtain ⟨cs', hc, ht⟩ := hel i (by omega)
      rw [cells_meth] at hc
      obtain ⟨xs, n, _, _, hlen, hxl, hf⟩ := DataW.trod_struct Tryd.underlying46 ht
      rw [cells_meth] at hlen
      obtain ⟨_, hcl, hat⟩ := World.cells?_some hc
      have hcell : ∀ j, j < 4 → W.cell? (ad.add (i * 4 + j)) = cs'[j]? := fun j hj => by have := hat j hj; rwa [add_add] at this
      have hxs : ∀ k, k < 4 → ∃ y, xs[k]? = some y := fun k hk => ⟨_, List.getElem?_eq_getElem (by rw [hxl]; exact hk)⟩
      obtain ⟨y0, e0⟩ := hxs 0 (by omega)
      obtain ⟨y1, e1⟩ := hxs 1 (by omega)
      obtain ⟨y2, e2⟩ := hxs 2 (by omega)
      obtain ⟨y3, e3⟩ := hxs 3 (by omega)
      have z0 : DataW.trod enc Tryd.prog W base spare held n 9 ((cs'.drop 0).take (Tryd.prog.cellsOf 9)) = some y0 := (hf 0 _ rfl).trans e0
      have z1 : DataW.trod enc Tryd.prog W base spare held n 9 ((cs'.drop 1).take (Tryd.prog.cellsOf 9)) = some y1 := (hf 1 _ rfl).trans e1
      have z2 : DataW.trod enc Tryd.prog W base spare held n 9 ((cs'.drop 2).take (Tryd.prog.cellsOf 9)) = some y2 := (hf 2 _ rfl).trans e2
      have z3 : DataW.trod enc Tryd.prog W base spare held n 44 ((cs'.drop 3).take (Tryd.prog.cellsOf 44)) = some y3 := (hf 3 _ rfl).trans e3
      rw [cells_str1] at z0 z1 z2
      rw [cells_instrs] at z3
      obtain ⟨p, hp, _, hps⟩ := DataW.trod_string Tryd.underlying9 z0
      obtain ⟨l, hl2, _, hls⟩ := DataW.trod_string Tryd.underlying9 z1
      obtain ⟨r, hr, _, hrs⟩ := DataW.trod_string Tryd.underlying9 z2
      obtain ⟨co, ln, cp, hco⟩ := slice_one Tryd.underlying44 z3
      rw [hco] at z3
      obtain ⟨gv, hgv⟩ := instrs_ofT z3
      exact ⟨⟨p, l, r, co, ln, cp, gv⟩, ⟨(hcell 0 (by omega)).trans (one_of (by omega) hp), (hcell 1 (by omega)).trans (one_of (by omega) hl2), (hcell 2 (by omega)).trans (one_of (by omega) hr), (hcell 3 (by omega)).trans (one_of (by omega) hco), hgv, hps, hls, hrs⟩⟩
    refine ⟨fun i => if h : i < len then (key i h).choose else ⟨⟨#[]⟩, ⟨#[]⟩, ⟨#[]⟩, none, 0, 0, fun _ _ => 0⟩, ⟨hl, hm, fun e => (by cases e)⟩, fun ad' had i hi => ?_⟩
    cases had
    simp only [hi, dite_true]
    exact (key i hi).choose_spec

set_option maxRecDepth 100000 in
theorem prog_ofT {cs : Array Value} {x : DataW H × List MemPlace}
    (h : DataW.trod enc Tryd.prog W base spare held fuel 50 cs.toList = some x) : ∃ (ca : Option Addr) (nc cc : Nat) (f : Nat → ByteArray) (ma : Option Addr) (nm mc : Nat) (ms : Nat → Meth), Value.agg cs = .agg #[.slice ca nc cc, .slice ma nm mc] ∧ Prg W ca nc cc f ma nm mc ms ∧ Wid nc f nm ms := by
  obtain ⟨l⟩ := cs
  obtain ⟨xs, n, _, _, hlen, hxl, hf⟩ := DataW.trod_struct Tryd.underlying50 h
  rw [cells_prog] at hlen
  obtain ⟨c0, c1, rfl⟩ : ∃ c0 c1, l = [c0, c1] := by
    match l, hlen with
    | [c0, c1], _ => exact ⟨c0, c1, rfl⟩
  have hxs : ∀ k, k < 2 → ∃ y, xs[k]? = some y := fun k hk => ⟨_, List.getElem?_eq_getElem (by rw [hxl]; exact hk)⟩
  obtain ⟨y0, e0⟩ := hxs 0 (by omega)
  obtain ⟨y1, e1⟩ := hxs 1 (by omega)
  have z0 : DataW.trod enc Tryd.prog W base spare held n 48 (([c0, c1].drop 0).take (Tryd.prog.cellsOf 48)) = some y0 := (hf 0 _ rfl).trans e0
  have z1 : DataW.trod enc Tryd.prog W base spare held n 47 (([c0, c1].drop 1).take (Tryd.prog.cellsOf 47)) = some y1 := (hf 1 _ rfl).trans e1
  rw [cells_classes] at z0
  rw [cells_meths] at z1
  have z0' : DataW.trod enc Tryd.prog W base spare held n 48 [c0] = some y0 := z0
  have z1' : DataW.trod enc Tryd.prog W base spare held n 47 [c1] = some y1 := z1
  obtain ⟨ca, nc, cc, h0⟩ := slice_one Tryd.underlying48 z0'
  obtain ⟨ma, nm, mc, h1⟩ := slice_one Tryd.underlying47 z1'
  obtain rfl : c0 = .slice ca nc cc := by simpa using h0
  obtain rfl : c1 = .slice ma nm mc := by simpa using h1
  obtain ⟨f, hC, hCs⟩ := classes_ofT z0'
  obtain ⟨ms, ⟨q1, q2, q3⟩, hM⟩ := methods_ofT z1'
  refine ⟨ca, nc, cc, f, ma, nm, mc, ms, rfl, ⟨hC, q1, q2, q3, fun ad had i hi => ⟨(hM ad had i hi).c0, (hM ad had i hi).c1, (hM ad had i hi).c2, (hM ad had i hi).c3⟩, fun i hi => ?_⟩, ⟨hCs, fun i hi => ?_, fun i hi => ?_, fun i hi => ?_⟩⟩
  all_goals
    cases ma with
    | none => have := q3 rfl; omega
    | some ad => first | exact (hM ad rfl i hi).code | exact (hM ad rfl i hi).s0 | exact (hM ad rfl i hi).s1 | exact (hM ad rfl i hi).s2

end

end Go.Proofs.YtchechdcebmoeaaDoor

/-
  What XOfP, XOfH stand on.
-/
import Derived.Test.YtchechdcebmoeaaDoorProg
import Derived.Test.YtchechdcebmoeaaDoorKit
import Derived.Test.YtchechdcebmoeaaDoorMem
import Derived.Test.YtchechdcebmoeaaDoorNxt
import Derived.BigQuiet
import Derived.Deep.RegionLaw
import Derived.IntWalk
import Derived.Laws.BitsAllLaws
import Derived.Laws.CopyOwn
import Derived.Lib.Hide
import Derived.Lib.TrailingZeros
import Derived.LoopIn
import Derived.LoopNIn
import Derived.Maps.AppendAt
import Derived.OwnWalkIn
import Derived.RangeFuncBound
import Derived.RangeFuncBox
import Derived.RangeFuncCalls
import Derived.RangeFuncLeaves
import Derived.RangeFuncNested
import Derived.Shelf.Abstract
import Derived.Shelf.RegionOpen
import Derived.TacticsInMore
import Derived.WalkKit
namespace Go.Proofs.YtchechdcebmoeaaDoor
open Go Go.RowKit Go.Shelf

theorem grown_store (w : World) (g j : Nat) (v : Value) : w.grownBy (w.setCell ⟨g, j, none⟩ v) (some g) :=
  ⟨rfl, rfl, rfl, by simp, fun k _ hk => heap_setCell_other w ⟨g, j, none⟩ k v (fun e => hk (by simp [e]))⟩

theorem row_full {w : World} {base e g n : Nat} {xs : List Value} (h : w.ownsRow base e 1 (.slice (some ⟨g, 0, none⟩) n n) n xs) : w.heap[g]? = some (.cells xs.toArray e (0, 0)) := by
  rcases h.2 with ⟨h', _⟩ | ⟨g', cap', cur, h', _, hg, _, _, hcs, htake⟩
  · simp at h'
  · simp only [Value.slice.injEq, Option.some.injEq, Addr.mk.injEq, and_true, true_and] at h'
    obtain ⟨rfl, rfl⟩ := h'
    rw [hg, ← htake, List.take_of_length_le (by simp; omega)]

/-- Is number i in? -/
def bitAt (ws : List Nat) (i : Nat) : Bool := (ws.getD (i / 64) 0).testBit (i % 64)

/-- The numbers of the bits of a word, rising. -/
def bitsOf (x : Nat) : List Nat := (List.range 64).filter x.testBit

theorem getD_set_same {ws : List Nat} {k : Nat} (x : Nat) (h : k < ws.length) : (ws.set k x).getD k 0 = x := by simp [List.getD, h]

theorem getD_set_other {ws : List Nat} {k j : Nat} (x : Nat) (h : j ≠ k) : (ws.set k x).getD j 0 = ws.getD j 0 := by
  simp [List.getD, Ne.symm h]

theorem bitAt_add (ws : List Nat) (i j : Nat) (h : i / 64 < ws.length) : bitAt (ws.set (i / 64) (ws.getD (i / 64) 0 ||| 2 ^ (i % 64))) j = (decide (j = i) || bitAt ws j) := by
  unfold bitAt
  by_cases hk : j / 64 = i / 64
  · rw [hk, getD_set_same _ h, Nat.testBit_or, Nat.testBit_two_pow, Bool.or_comm]
    congr 1
    by_cases e : i % 64 = j % 64
    · have : j = i := by omega
      simp [this]
    · have : ¬ j = i := by omega
      simp [this, e]
  · rw [getD_set_other _ hk]
    have : ¬ j = i := by omega
    simp [this]

theorem bitAt_zero (m i : Nat) : bitAt (List.replicate m 0) i = false := by
  unfold bitAt
  have : (List.replicate m 0).getD (i / 64) 0 = 0 := by
    simp only [List.getD, List.getElem?_replicate]
    split <;> rfl
  rw [this, Nat.zero_testBit]

theorem getD_lt {ws : List Nat} (h : ∀ x ∈ ws, x < 2 ^ 64) (k : Nat) : ws.getD k 0 < 2 ^ 64 := by
  by_cases hk : k < ws.length
  · have : ws.getD k 0 = ws[k] := by simp [List.getD, hk]
    rw [this]
    exact h _ (List.getElem_mem hk)
  · have : ws.getD k 0 = 0 := by simp [List.getD, List.getElem?_eq_none (Nat.le_of_not_lt hk)]
    rw [this]
    decide

/-! ### the lowest bit taken away -/

theorem low_spec (x : Nat) (h0 : 0 < x) (h : x < 2 ^ 64) : ∃ m, x = 2 ^ Lib.ctz 64 x * (2 * m + 1) ∧ Lib.ctz 64 x < 64 := by
  unfold Lib.ctz
  rw [if_neg (by omega)]
  exact Lib.ctzFrom_spec 64 x h0 h

theorem odd_testBit (c m j : Nat) : (2 ^ c * (2 * m + 1)).testBit j = (decide (j = c) || (decide (c < j) && m.testBit (j - c - 1))) := by
  rw [Nat.mul_comm, Nat.testBit_mul_two_pow]
  by_cases h : c ≤ j
  · by_cases e : j = c
    · subst e; simp
    · obtain ⟨d, rfl⟩ : ∃ d, j = c + (d + 1) := ⟨j - c - 1, by omega⟩
      have e1 : c + (d + 1) - c = d + 1 := by omega
      have e2 : c + (d + 1) - c - 1 = d := by omega
      rw [e1, Nat.testBit_succ, show (2 * m + 1) / 2 = m by omega]
      simp
  · have e : ¬ j = c := by omega
    have e2 : ¬ c < j := by omega
    simp [h, e, e2]

/-- x & (x - 1): all the bits but the lowest. -/
theorem clear_low (x : Nat) (h0 : 0 < x) (h : x < 2 ^ 64) (j : Nat) : (x &&& (x - 1)).testBit j = (x.testBit j && !decide (j = Lib.ctz 64 x)) := by
  obtain ⟨m, hm, hc⟩ := low_spec x h0 h
  generalize Lib.ctz 64 x = c at hm hc
  have e1 : x - 1 = 2 ^ c * (2 * m) + (2 ^ c - 1) := by
    have : 0 < 2 ^ c := Nat.two_pow_pos c
    rw [hm, Nat.mul_add]
    omega
  rw [Nat.testBit_and, e1, Nat.testBit_two_pow_mul_add _ (by have : 0 < 2 ^ c := Nat.two_pow_pos c; omega)]
  rw [hm, odd_testBit]
  by_cases hj : j < c
  · have e : ¬ j = c := by omega
    have e2 : ¬ c < j := by omega
    simp [hj, e, e2]
  · by_cases e : j = c
    · subst e; simp
    · obtain ⟨d, rfl⟩ : ∃ d, j = c + (d + 1) := ⟨j - c - 1, by omega⟩
      have e3 : c + (d + 1) - c = d + 1 := by omega
      have e4 : c + (d + 1) - c - 1 = d := by omega
      rw [if_neg hj, e3, Nat.testBit_succ, show (2 * m) / 2 = m by omega]
      simp

theorem clear_lt (x : Nat) (h0 : 0 < x) : x &&& (x - 1) < x := Nat.lt_of_le_of_lt Nat.and_le_right (by omega)

theorem low_bit (x : Nat) (h0 : 0 < x) (h : x < 2 ^ 64) (j : Nat) (hj : j ≤ Lib.ctz 64 x) : x.testBit j = decide (j = Lib.ctz 64 x) := by
  obtain ⟨m, hm, hc⟩ := low_spec x h0 h
  generalize Lib.ctz 64 x = c at hm hc hj
  rw [hm, odd_testBit]
  have : ¬ c < j := by omega
  simp [this]

theorem range_split (c : Nat) (h : c < 64) : List.range 64 = List.range c ++ c :: List.range' (c + 1) (63 - c) := by
  have e : List.range 64 = List.range' 0 64 := List.range_eq_range'
  have e2 : List.range c = List.range' 0 c := List.range_eq_range'
  rw [e, e2, show 64 = c + (1 + (63 - c)) by omega, ← List.range'_append_1, ← List.range'_append_1]
  simp

theorem bitsOf_zero : bitsOf 0 = [] := by decide

theorem bitsOf_step (x : Nat) (h0 : 0 < x) (h : x < 2 ^ 64) : bitsOf x = Lib.ctz 64 x :: bitsOf (x &&& (x - 1)) := by
  obtain ⟨_, _, hc⟩ := low_spec x h0 h
  have hl := low_bit x h0 h
  have hcl := clear_low x h0 h
  generalize Lib.ctz 64 x = c at hc hl hcl
  unfold bitsOf
  rw [range_split c hc, List.filter_append, List.filter_append]
  have a1 : (List.range c).filter x.testBit = [] := by
    rw [List.filter_eq_nil_iff]
    intro j hj
    have : j < c := List.mem_range.1 hj
    rw [hl j (by omega)]
    simp; omega
  have a2 : (List.range c).filter (x &&& (x - 1)).testBit = [] := by
    rw [List.filter_eq_nil_iff]
    intro j hj
    have : j < c := List.mem_range.1 hj
    rw [hcl j, hl j (by omega)]
    simp
  rw [a1, a2, List.nil_append, List.nil_append, List.filter_cons, List.filter_cons, hl c (Nat.le_refl _), hcl c]
  simp only [decide_true, Bool.not_true, Bool.and_false, if_true, Bool.false_eq_true, if_false]
  congr 1
  apply List.filter_congr
  intro j hj
  have : c < j := by have := (List.mem_range'_1.1 hj).1; omega
  rw [hcl j]
  have : ¬ j = c := by omega
  simp [this]

/-! ### what a row of words tells -/

/-- From word k on, what is in, rising. -/
def tellFrom (ws : List Nat) (k : Nat) : List Nat := (List.range' k (ws.length - k)).flatMap fun q => (bitsOf (ws.getD q 0)).map (64 * q + ·)

theorem tellFrom_step (ws : List Nat) (k : Nat) (h : k < ws.length) : tellFrom ws k = (bitsOf (ws.getD k 0)).map (64 * k + ·) ++ tellFrom ws (k + 1) := by
  unfold tellFrom
  rw [show ws.length - k = (ws.length - (k + 1)) + 1 by omega, List.range'_succ]
  simp

theorem tellFrom_end (ws : List Nat) (k : Nat) (h : ws.length ≤ k) : tellFrom ws k = [] := by
  unfold tellFrom
  rw [show ws.length - k = 0 by omega]
  rfl

theorem range'_map_add (a b m : Nat) : (List.range' b m).map (a + ·) = List.range' (a + b) m := by
  apply List.ext_getElem
  · simp
  · intro i h1 h2
    simp
    omega

theorem filter_word (ws : List Nat) (k : Nat) : (bitsOf (ws.getD k 0)).map (64 * k + ·) = (List.range' (64 * k) 64).filter (bitAt ws) := by
  unfold bitsOf
  have e : List.range' (64 * k) 64 = (List.range 64).map (64 * k + ·) := by
    rw [List.range_eq_range', range'_map_add]
    rfl
  rw [e, List.filter_map]
  congr 1
  apply List.filter_congr
  intro j hj
  have : j < 64 := List.mem_range.1 hj
  show _ = bitAt ws (64 * k + j)
  unfold bitAt
  rw [show (64 * k + j) / 64 = k by omega, show (64 * k + j) % 64 = j by omega]

theorem tellFrom_eq (ws : List Nat) : ∀ d k, k + d = ws.length → tellFrom ws k = (List.range' (64 * k) (64 * d)).filter (bitAt ws)
  | 0, k, h => by rw [tellFrom_end ws k (by omega)]; rfl
  | d + 1, k, h => by
    rw [tellFrom_step ws k (by omega), tellFrom_eq ws d (k + 1) (by omega), filter_word, ← List.filter_append]
    congr 1

/-- All that is in, rising: the numbers below n whose bit is set. -/
theorem tell_eq (ws : List Nat) (n : Nat) (hl : ws.length = (n + 63) / 64) (ht : ∀ i, n ≤ i → bitAt ws i = false) : tellFrom ws 0 = (List.range n).filter (bitAt ws) := by
  rw [tellFrom_eq ws ws.length 0 (by omega)]
  have e : 64 * ws.length = n + (64 * ws.length - n) := by omega
  rw [e, ← List.range'_append_1, List.filter_append, List.range_eq_range', Nat.mul_zero]
  rw [show (List.range' (0 + n) (64 * ws.length - n)).filter (bitAt ws) = [] from List.filter_eq_nil_iff.2 fun j hj => by
    have := (List.mem_range'_1.1 hj).1
    rw [ht j (by omega)]
    simp]
  simp

/-- A set: its box s, its words' block r. -/
structure SetW (B s r n : Nat) (ws : List Nat) (w : World) : Prop where
  len : ws.length = (n + 63) / 64
  small : ∀ x ∈ ws, x < 2 ^ 64
  top : ∀ i, n ≤ i → bitAt ws i = false
  nle : n ≤ 1048576
  box : w.heap[s]? = some (.cells #[.int .i64 n, .slice (some ⟨r, 0, none⟩) ws.length ws.length] 132 (0, 0))
  row : w.heap[r]? = some (.cells (ws.map fun x : Nat => Value.int .u64 (x : Int)).toArray 55 (0, 0))
  ne : s ≠ r
  los : B ≤ s
  lor : B ≤ r

theorem SetW.cells {B s r n : Nat} {ws : List Nat} {w : World} (h : SetW B s r n ws w) : w.cell? ⟨s, 0, none⟩ = some (.int .i64 n) ∧ w.cell? ⟨s, 1, none⟩ = some (.slice (some ⟨r, 0, none⟩) ws.length ws.length) := by
  refine ⟨?_, ?_⟩ <;> (rw [cell_of_row w s _ _ 132 (0, 0) h.box]; rfl)

theorem SetW.cell {B s r n : Nat} {ws : List Nat} {w : World} (h : SetW B s r n ws w) (k : Nat) (hk : k < ws.length) : w.cell? ⟨r, k, none⟩ = some (.int .u64 (ws.getD k 0 : Nat)) := by
  rw [cell_of_row w r k _ 55 (0, 0) h.row]
  simp [List.getD, hk]

theorem SetW.frozen {B s r n : Nat} {ws : List Nat} {w : World} (h : SetW B s r n ws w) (k : Nat) : w.frozen? ⟨r, k, none⟩ = false := frozen_of_row w r k _ 55 h.row

theorem SetW.kept {B s r n : Nat} {ws : List Nat} {w w' : World} (h : SetW B s r n ws w) (hs : w'.heap[s]? = w.heap[s]?) (hr : w'.heap[r]? = w.heap[r]?) : SetW B s r n ws w' :=
  ⟨h.len, h.small, h.top, h.nle, hs.trans h.box, hr.trans h.row, h.ne, h.los, h.lor⟩

theorem SetW.lt {B s r n : Nat} {ws : List Nat} {w : World} (h : SetW B s r n ws w) : s < w.heap.size ∧ r < w.heap.size :=
  ⟨(Array.getElem?_eq_some_iff.1 h.box).1, (Array.getElem?_eq_some_iff.1 h.row).1⟩

theorem grown_drew {w w' : World} {r : Option Nat} (h : w.grownBy w' r) : w.grownBy w'.drew r := ⟨h.os, h.tape, h.output, h.size, h.block⟩

theorem may_in {B s r n : Nat} {ws : List Nat} (i : Nat) (w : World) (h : SetW B s r n ws w) (hi : i < n) :
    Calls Tryd.prog 78 #[.pointer (some ⟨s, 0, none⟩), .int .i64 i] w fun e w' => e = .returned (.bool true) ∧ w = w' := by
  obtain ⟨c0, c1⟩ := h.cells
  have hn := h.nle
  clear h c1
  have d1 : decide ((0 : Int) ≤ (i : Int)) = true := by simp
  have d2 : decide (i < n) = true := by simpa using hi
  go_enter Tryd.func78, Tryd.ntmps78
  go_wp2
  go_ret
  exact ⟨rfl, rfl⟩

theorem may_out {B s r n : Nat} {ws : List Nat} (i : Int) (w : World) (h : SetW B s r n ws w) (hi : ¬ (0 ≤ i ∧ i < n)) :
    Calls Tryd.prog 78 #[.pointer (some ⟨s, 0, none⟩), .int .i64 i] w fun e w' => e = .returned (.bool false) ∧ w = w' := by
  obtain ⟨c0, c1⟩ := h.cells
  have hn := h.nle
  clear h c1
  by_cases h0 : 0 ≤ i
  · have d1 : decide ((0 : Int) ≤ i) = true := by simpa using h0
    have d2 : decide (i < (n : Int)) = false := by simp; omega
    clear hi
    go_enter Tryd.func78, Tryd.ntmps78
    go_wp2
    go_ret
    exact ⟨rfl, rfl⟩
  · have d1 : decide ((0 : Int) ≤ i) = false := by simpa using h0
    clear hi
    go_enter Tryd.func78, Tryd.ntmps78
    go_wp2
    go_ret
    exact ⟨rfl, rfl⟩

theorem div_pow_cast (x k : Nat) : (x : Int) / 2 ^ k = ((x / 2 ^ k : Nat) : Int) := by push_cast; rfl

theorem has_word (x k : Nat) (hx : x < 2 ^ 64) : (bits BinOp.and IntKind.u64 ((x : Int) / 2 ^ k) 1 == 1) = x.testBit k := by
  have hd : x / 2 ^ k < 18446744073709551616 := Nat.lt_of_le_of_lt (Nat.div_le_self _ _) hx
  rw [div_pow_cast, show (1 : Int) = ((1 : Nat) : Int) from rfl, u64_and_nat _ 1 hd (by decide), Nat.and_one_is_mod, Nat.testBit_eq_decide_div_mod_eq]
  generalize x / 2 ^ k = y
  rw [Bool.eq_iff_iff, beq_iff_eq, decide_eq_true_iff]
  constructor
  · intro h; exact_mod_cast h
  · intro h; exact_mod_cast h

theorem SetW.word_lt {B s r n : Nat} {ws : List Nat} {w : World} (h : SetW B s r n ws w) (k : Nat) : ws.getD k 0 < 2 ^ 64 := getD_lt h.small k

theorem has_in {B s r n : Nat} {ws : List Nat} (i : Nat) (w : World) (h : SetW B s r n ws w) (hi : i < n) :
    Calls Tryd.prog 31 #[.pointer (some ⟨s, 0, none⟩), .int .i64 i] w fun e w' => e = .returned (.bool (bitAt ws i)) ∧ w = w' := by
  obtain ⟨c0, c1⟩ := h.cells
  have hn := h.nle
  have hl := h.len
  have hk : i / 64 < ws.length := by omega
  have cw := h.cell (i / 64) hk
  have hx := has_word (ws.getD (i / 64) 0) (i % 64) (h.word_lt _)
  unfold bitAt
  generalize ws.getD (i / 64) 0 = x at cw hx
  have H := Lib.hid h
  have HX := Lib.hid hx
  clear h hx
  go_enter Tryd.func31, Tryd.ntmps31
  go_wp2_with (go_at_call 78; refine (may_in _ _ H.out hi).mono ?_; rintro e w' ⟨rfl, rfl⟩)
  go_ret
  exact ⟨by rw [← HX.out]; rfl, rfl⟩

/-! ### a word laid anew -/

theorem SetW.stored {B s r n : Nat} {ws : List Nat} {w : World} (h : SetW B s r n ws w) (k x : Nat) (hx : x < 2 ^ 64) (ht : ∀ i, n ≤ i → bitAt (ws.set k x) i = false) :
    SetW B s r n (ws.set k x) (w.setCell ⟨r, k, none⟩ (.int .u64 (x : Nat))) := by
  refine ⟨by simpa using h.len, fun y hy => ?_, ht, h.nle, ?_, ?_, h.ne, h.los, h.lor⟩
  · rcases List.mem_or_eq_of_mem_set hy with h1 | h1
    · exact h.small _ h1
    · rw [h1]; exact hx
  · rw [Below.heap_setCell w ⟨r, k, none⟩ _ s h.ne, List.length_set]; exact h.box
  · rw [heap_setCell_same w r k _ 55 _ h.row]; simp [List.map_set]

theorem shl_word (i : Nat) : IntKind.u64.wrap ((2 : Int) ^ ((i : Int) % 64).toNat) = ((2 ^ (i % 64) : Nat) : Int) := by
  have this : (2 : Nat) ^ (i % 64) < 18446744073709551616 := Nat.pow_lt_pow_right (a := 2) (by decide) (Nat.mod_lt i (by decide))
  have e0 : ((i : Int) % 64).toNat = i % 64 := by omega
  have e : ((2 : Int) ^ (i % 64)) = ((2 ^ (i % 64) : Nat) : Int) := by rw [Int.natCast_pow]; rfl
  rw [e0, e, IntKind.wrap_u64]
  exact Int.emod_eq_of_lt (Int.natCast_nonneg _) (by omega)

theorem or_lt {x y : Nat} (hx : x < 2 ^ 64) (hy : y < 2 ^ 64) : x ||| y < 2 ^ 64 := Nat.or_lt_two_pow hx hy

def AddPost (B s r n : Nat) (ws : List Nat) (i : Nat) (w : World) (e : Ending) (w' : World) : Prop :=
  e = .returned (.bool true) ∧ SetW B s r n (ws.set (i / 64) (ws.getD (i / 64) 0 ||| 2 ^ (i % 64))) w' ∧ w.grownBy w' (some r)

theorem add_new {B s r n : Nat} {ws : List Nat} (i : Nat) (w : World) (h : SetW B s r n ws w) (hi : i < n) (hb : bitAt ws i = false) :
    Calls Tryd.prog 19 #[.pointer (some ⟨s, 0, none⟩), .int .i64 i] w (AddPost B s r n ws i w) := by
  obtain ⟨c0, c1⟩ := h.cells
  have hn := h.nle
  have hl := h.len
  have hk : i / 64 < ws.length := by omega
  have cw := h.cell (i / 64) hk
  have cf := h.frozen (i / 64)
  have hlt := h.word_lt (i / 64)
  have h2 : 2 ^ (i % 64) < 2 ^ 64 := Nat.pow_lt_pow_right (by decide) (Nat.mod_lt _ (by decide))
  have hst := h.stored (i / 64) (ws.getD (i / 64) 0 ||| 2 ^ (i % 64)) (or_lt hlt h2) (fun j hj => by rw [bitAt_add _ _ _ hk, h.top j hj]; simp; omega)
  have hor := u64_or_nat (ws.getD (i / 64) 0) (2 ^ (i % 64)) hlt h2
  rw [← shl_word i] at hor
  have a1 : IntKind.i64.wrap ((i : Int) / 64) = (i : Int) / 64 := IntWalk.i64_in _ (by omega)
  have a2 : 0 ≤ (i : Int) / 64 := by omega
  have a3 : (i : Int) / 64 < ((n : Int) + 63) / 64 := by omega
  have a4 : ((i : Int) / 64).toNat = i / 64 := by omega
  have a5 : (i : Int).tmod 64 = ((i % 64 : Nat) : Int) := by rw [Int.tmod_eq_emod_of_nonneg (by omega)]; omega
  unfold AddPost
  generalize hy : (ws.getD (i / 64) 0 ||| 2 ^ (i % 64)) = y at *
  generalize hx : ws.getD (i / 64) 0 = x at *
  have H := Lib.hid h
  rw [← hor] at hst
  have HST := Lib.hid hst
  have HG := Lib.hid (grown_store w r (i / 64) (.int .u64 (bits BinOp.or IntKind.u64 (x : Int) (IntKind.u64.wrap ((2 : Int) ^ ((i : Int) % 64).toNat)))))
  clear h hst hx hy hlt h2 hor
  go_enter Tryd.func19, Tryd.ntmps19
  go_wp2_with fail
  refine (may_in _ _ H.out hi).mono ?_
  rintro e w' ⟨rfl, rfl⟩
  go_wp2_with fail
  refine (has_in _ _ H.out hi).mono ?_
  rintro e w' ⟨rfl, rfl⟩
  rw [hb]
  go_wp2_with fail
  go_region_law (fail)
  all_goals go_wp2_with fail
  all_goals
    go_ret
    exact ⟨rfl, HST.out.kept rfl rfl, grown_drew HG.out⟩

theorem add_old {B s r n : Nat} {ws : List Nat} (i : Nat) (w : World) (h : SetW B s r n ws w) (hi : i < n) (hb : bitAt ws i = true) :
    Calls Tryd.prog 19 #[.pointer (some ⟨s, 0, none⟩), .int .i64 i] w fun e w' => e = .returned (.bool false) ∧ w = w' := by
  have H := Lib.hid h
  clear h
  go_enter Tryd.func19, Tryd.ntmps19
  go_wp2_with fail
  refine (may_in _ _ H.out hi).mono ?_
  rintro e w' ⟨rfl, rfl⟩
  go_wp2_with fail
  refine (has_in _ _ H.out hi).mono ?_
  rintro e w' ⟨rfl, rfl⟩
  rw [hb]
  go_wp2_with fail
  go_ret
  exact ⟨rfl, rfl⟩

theorem add_out {B s r n : Nat} {ws : List Nat} (i : Int) (w : World) (h : SetW B s r n ws w) (hi : ¬ (0 ≤ i ∧ i < n)) :
    Calls Tryd.prog 19 #[.pointer (some ⟨s, 0, none⟩), .int .i64 i] w fun e w' => e = .returned (.bool false) ∧ w = w' := by
  have H := Lib.hid h
  have HI := Lib.hid hi
  clear h hi
  go_enter Tryd.func19, Tryd.ntmps19
  go_wp2_with (go_at_call 78; refine (may_out _ _ H.out HI.out).mono ?_; rintro e w' ⟨rfl, rfl⟩)
  go_ret
  exact ⟨rfl, rfl⟩

/-! ### a set made -/

theorem u64info : (Tryd.prog.info? 55).map (fun i => (i.zero, i.size, i.bytes)) = some (some (.int .u64 0), 1, 8) := by kernel_rfl

def NewSetPost (n : Nat) (w : World) (e : Ending) (w' : World) : Prop :=
  ∃ s r, e = .returned (.pointer (some ⟨s, 0, none⟩)) ∧ SetW w.heap.size s r n (List.replicate ((n + 63) / 64) 0) w' ∧ Below w.heap.size w w' ∧ r = w.heap.size ∧ s < w'.heap.size

theorem snew_made (n : Nat) (w w1 : World) (h : n ≤ 1048576) (hown : w1.ownsRow w.heap.size 55 1 (Value.slice (some ⟨w.heap.size, 0, none⟩) ((n + 63) / 64) ((n + 63) / 64)) ((n + 63) / 64) (List.replicate ((n + 63) / 64) (Value.int IntKind.u64 0))) (hg : w.grownBy w1 none) :
    NewSetPost n w (.returned (.pointer (some ⟨w1.heap.size, 0, none⟩))) (w1.alloc (.cells #[.int .i64 n, .slice (some ⟨w.heap.size, 0, none⟩) ((n + 63) / 64) ((n + 63) / 64)] 132)) := by
  have hrow := row_full hown
  have hgl : w.heap.size < w1.heap.size := (Array.getElem?_eq_some_iff.1 hrow).1
  refine ⟨w1.heap.size, w.heap.size, rfl, ⟨by simp, fun x hx => ?_, fun i _ => bitAt_zero _ _, h, ?_, ?_, by omega, hg.size, Nat.le_refl _⟩, ?_, rfl, by simp⟩
  · rw [List.eq_of_mem_replicate hx]; decide
  · rw [heap_alloc_new w1 _]; simp
  · rw [Below.heap_alloc _ _ _ hgl, hrow]; simp
  · exact (Below.grown (Below.refl _ w) hg (Nat.le_refl _) (by simp)).alloc hg.size _

theorem snew_nat (n : Nat) (w : World) (h : n ≤ 1048576) :
    Calls Tryd.prog 16 #[.int .i64 n] w (NewSetPost n w) := by
  have hm : (n + 63) / 64 ≤ maxLen := by unfold maxLen; omega
  have hbytes : 8 * ((n + 63) / 64) ≤ 281474976710656 := by omega
  have H := Lib.hid h
  have HM := Lib.hid hm
  have HB := Lib.hid hbytes
  have e1 : (if ((n : Nat) : Int) < 0 then (0 : Int) else (n : Int)) = (n : Int) := by rw [if_neg (by omega)]
  obtain ⟨i, hi, hz0, hz1, hz2⟩ := info_parts u64info
  have HI := Lib.hid hi
  have HZ0 := Lib.hid hz0
  have HZ1 := Lib.hid hz1
  have HZ2 := Lib.hid hz2
  clear hi hz0 hz1 hz2 hm hbytes
  go_enter Tryd.func16, Tryd.ntmps16
  go_wp2_with (at_make; refine wpList_make_len _ rfl (.tmp 9) (.tmp 9) 130 rfl w.heap.size 55 i (.int .u64 0) 8 Tryd.underlying130 HI.out HZ0.out HZ1.out HZ2.out rfl .i64 .i64 _ _ ((n + 63) / 64) ((n + 63) / 64) rfl rfl (by simp) (by simp) (Nat.le_refl _) HB.out HM.out (Nat.le_refl _) ?_; intro w1 hown hg)
  go_ret
  exact snew_made n w w1 H.out hown hg

attribute [local go_sem] Oper.semAt_some

/-- The library's table lies as its initialiser lays it. -/
def TabOk (w : World) : Prop := ∀ j, j < 64 → w.cell? ⟨4, j, none⟩ = some (.int .u8 (Lib.deBruijn64tab.getD j 0 : Nat))

theorem TabOk.lt {w : World} (h : TabOk w) : 4 < w.heap.size := World.block_lt_of_cell? w _ (h 0 (by decide))

theorem TabOk.below {B : Nat} {w w' : World} (h : TabOk w) (hb : Below B w w') (hB : w.heap.size ≤ B) : TabOk w' := fun j hj =>
  (hb.cell (p := ⟨4, j, none⟩) (Nat.lt_of_lt_of_le h.lt hB)).trans (h j hj)

theorem TabOk.belowT {B : Nat} {w w' : World} (h : TabOk w) (hb : Below B w w') (hB : 4 < B) : TabOk w' := fun j hj =>
  (hb.cell (p := ⟨4, j, none⟩) hB).trans (h j hj)

theorem tz_key (x a : Nat) (hx : x < 18446744073709551616) (hx0 : x ≠ 0) (hlow : x &&& (18446744073709551616 - x) = a) :
    IntKind.u64.wrap (bits BinOp.and IntKind.u64 (x : Int) (IntKind.u64.wrap (-(x : Int))) * 285870213051353865) / 288230376151711744 = ((a * 285870213051353865 % 18446744073709551616 / 288230376151711744 : Nat) : Int) := by
  have e1 : IntKind.u64.wrap (-(x : Int)) = ((18446744073709551616 - x : Nat) : Int) := by rw [IntKind.wrap_u64]; omega
  rw [e1, u64_and_nat x _ hx (by omega), hlow, IntKind.wrap_u64]
  omega

theorem tz_core (x k idx : Nat) (w : World) (hx0 : ((x : Int) == 0) = false)
    (key : IntKind.u64.wrap (bits BinOp.and IntKind.u64 (x : Int) (IntKind.u64.wrap (-(x : Int))) * 285870213051353865) / 288230376151711744 = (idx : Int))
    (hi : idx < 64) (hk : k < 64) (hcell : w.cell? ⟨4, idx, none⟩ = some (.int .u8 k)) :
    Calls Tryd.prog 83 #[.int .u64 x] w fun e w' => e = .returned (.int .i64 k) ∧ w = w' := by
  go_enter Tryd.func83, Tryd.ntmps83
  go_wp2_with (simp only [key])
  go_ret
  exact ⟨rfl, rfl⟩

theorem tz_any (x : Nat) (w : World) (hx : x < 18446744073709551616) (h0 : 0 < x) (hT : TabOk w) :
    Calls Tryd.prog 83 #[.int .u64 x] w fun e w' => e = .returned (.int .i64 (Lib.ctz 64 x)) ∧ w = w' := by
  obtain ⟨hlow, hk⟩ := Lib.lowest_bit 64 x (by omega) hx
  obtain ⟨hi, htab⟩ := Lib.deBruijn64_at _ hk
  have hcell := hT _ hi
  rw [htab] at hcell
  exact tz_core x _ _ w (by simp; omega) (tz_key x _ hx (by omega) hlow) hi hk hcell

/-! ### Each -/

def told (l : List Nat) : List Value := l.map fun x : Nat => Value.int .i64 (x : Int)

set_option maxRecDepth 100000 in
set_option maxHeartbeats 2000000 in
theorem each1_in (l Bs n₀ B s r m : Nat) (ws : List Nat) (N : Nat) (hN : (tellFrom ws 0).length ≤ N) (J Jx : List Nat → World → Prop)
    (hY : ∀ (pre : List Nat) (x : Nat) W, J pre W → pre.length < N → YieldAt Fence.wide 3 Tryd.prog l #[.int .i64 (x : Int)] W fun e W' =>
      (e = .returned (.bool true) ∧ J (pre ++ [x]) W' ∧ Below n₀ W W') ∨ (e = .returned (.bool false) ∧ Jx (pre ++ [x]) W'))
    (W : World) (hBs : W.cell? ⟨Bs, 0, none⟩ = some (.pointer (some ⟨s, 0, none⟩))) (hS : SetW B s r m ws W) (_hs : s < n₀) (hr : r < n₀) (hT : TabOk W) (hTn : 4 < n₀) (h0 : J [] W) :
    CallsIn Fence.wide 4 Tryd.prog 82 #[.func (.yield l) #[] #[], .pointer (some ⟨Bs, 0, none⟩)] W fun e W' => (∃ v, e = .returned v) ∧
      ((∃ ys, ys = tellFrom ws 0 ∧ J ys W') ∨ (∃ pre, pre <+: tellFrom ws 0 ∧ Jx pre W')) := by
  obtain ⟨c0, c1⟩ := hS.cells
  have hn := hS.nle
  have hl := hS.len
  have H := Lib.hid hS
  clear hS c0
  generalize hm : ws.length = q at *
  have HM := Lib.hid hm
  have hq : q ≤ 16384 := by omega
  clear hm hl
  refine callsIn_of_wp Tryd.func82 rfl trivial ?_ rfl
  simp only [Tryd.ntmps82, List.size_toArray, List.length_cons, List.length_nil, Nat.reduceAdd, Nat.reduceSub, Array.replicate_succ, Array.replicate_zero, List.push_toArray, List.append_toArray, List.nil_append, List.cons_append]
  gi_wp2
  gi_loopw [10] (fun sk wr => ∃ (k : Nat) (pre : List Nat), k ≤ q ∧ sk = .int .i64 k ∧ tellFrom ws 0 = pre ++ tellFrom ws k ∧ J pre wr ∧ Below n₀ W wr) (fun sk _ => q - (intOf sk).toNat)
  case atStart => exact ⟨0, [], Nat.zero_le _, rfl, rfl, h0, Below.refl _ _⟩
  case round =>
    obtain ⟨k, pre, hk, rfl, hp, hJ, hB⟩ := hrel
    by_cases hlt : k < q
    · have hkl : k < ws.length := by rw [HM.out]; exact hlt
      have cw := (hB.cell (p := ⟨r, k, none⟩) hr).trans (H.out.cell k hkl)
      have hx := H.out.word_lt k
      rw [tellFrom_step ws k hkl] at hp
      have t1 : decide (k < q) = true := by simpa using hlt
      generalize ws.getD k 0 = x at *
      have hq2 : k ≤ 16384 := by omega
      gi_wp2
      gi_loopw [4] (fun sw w2 => ∃ (y : Nat) (pre2 : List Nat), sw = .int .u64 y ∧ y < 18446744073709551616 ∧ tellFrom ws 0 = pre2 ++ ((bitsOf y).map (64 * k + ·) ++ tellFrom ws (k + 1)) ∧ J pre2 w2 ∧ Below n₀ W w2) (fun sw _ => (intOf sw).toNat)
      case atStart => exact ⟨x, pre, rfl, hx, hp, hJ, hB⟩
      case round =>
        obtain ⟨y, pre2, rfl, hy64, hp2, hJ2, hB2⟩ := hrel
        have hT2 : TabOk wr := hT.belowT hB2 hTn
        by_cases hy0 : y = 0
        · subst hy0
          rw [bitsOf_zero, List.map_nil, List.nil_append] at hp2
          gi_wp2
          go_roundw
          case rel => exact ⟨k + 1, pre2, by omega, by go_num, hp2, hJ2, hB2⟩
          case measure => simp [intOf]; omega
        · have hpos : 0 < y := by omega
          have hst := bitsOf_step y hpos hy64
          rw [hst] at hp2
          have hc64 : Lib.ctz 64 y < 64 := by obtain ⟨_, _, h⟩ := low_spec y hpos hy64; exact h
          have hlow := clear_lt y hpos
          have had := u64_and_nat y (y - 1) hy64 (by omega)
          have hsub : IntKind.u64.wrap ((y : Int) - 1) = ((y - 1 : Nat) : Int) := by rw [IntKind.wrap_u64]; omega
          have hne : ((y : Int) == 0) = false := by simp; omega
          have hlen : pre2.length < N := by
            have := congrArg List.length hp2
            simp only [List.length_append, List.length_map, List.length_cons] at this
            omega
          generalize hcz : Lib.ctz 64 y = c at *
          have HCZ := Lib.hid hcz
          have a1 : IntKind.i64.wrap (64 * (k : Int)) = 64 * (k : Int) := IntWalk.i64_in _ (by omega)
          have a2 : IntKind.i64.wrap (64 * (k : Int) + (c : Int)) = 64 * (k : Int) + (c : Int) := IntWalk.i64_in _ (by omega)
          obtain ⟨fn, tmps, assign, body, hy, hR⟩ := hY pre2 (64 * k + c) wr hJ2 hlen
          rw [show ((64 * k + c : Nat) : Int) = 64 * (k : Int) + (c : Int) by omega] at hy
          have HP := Lib.hid hp2
          have HY64 := Lib.hid hy64
          have HLOW := Lib.hid hlow
          clear hp2 hst hcz hlow
          gi_wp2_with (refine ⟨trivial, ?_⟩; gi_at_call 83; refine (callsIn_wide.2 (tz_any y _ HY64.out hpos hT2)).mono ?_; rintro e w' ⟨rfl, rfl⟩; rw [HCZ.out])
          refine hR.mono ?_
          rintro e W3 (⟨rfl, hJ3, hk3⟩ | ⟨rfl, hJx3⟩)
          · gi_wp2
            go_roundw
            case rel => exact ⟨y &&& (y - 1), pre2 ++ [64 * k + c], rfl, Nat.lt_trans HLOW.out HY64.out, by rw [HP.out]; simp, hJ3, hB2.trans hk3⟩
            case measure => have := HLOW.out; simp [intOf]; omega
          · gi_wp2
            refine bodyPost_ret (results_none rfl _ _ _) rfl ?_
            exact ⟨⟨_, rfl⟩, .inr ⟨pre2 ++ [64 * k + c], ⟨(bitsOf (y &&& (y - 1))).map (64 * k + ·) ++ tellFrom ws (k + 1), by rw [HP.out]; simp⟩, hJx3⟩⟩
    · obtain rfl : k = q := by omega
      rw [tellFrom_end ws k (by rw [HM.out]; exact Nat.le_refl _), List.append_nil] at hp
      have t1 : decide (k < k) = false := by simp
      gi_wp2
      go_end0
      exact ⟨⟨_, rfl⟩, .inl ⟨_, hp.symm, hJ⟩⟩

set_option maxHeartbeats 1000000 in
/-- Each: the receiver is boxed; the function value captures the box. -/
theorem each_in (n : Nat) (s : Nat) (w : World) :
    CallsIn Fence.wide n Tryd.prog 32 #[.pointer (some ⟨s, 0, none⟩)] w fun e w' => e = .returned (.func (.func 82) #[] #[.pointer (some ⟨w.heap.size, 0, none⟩)]) ∧ w' = w.alloc (.cells #[.pointer (some ⟨s, 0, none⟩)] 24) := by
  refine callsIn_of_wp Tryd.func32 rfl trivial ?_ rfl
  simp only [Tryd.ntmps32, List.size_toArray, List.length_cons, List.length_nil, Nat.reduceAdd, Nat.reduceSub, Array.replicate_succ, Array.replicate_zero, List.push_toArray, List.append_toArray, List.nil_append, List.cons_append]
  gi_wp2
  go_ret
  exact ⟨rfl, rfl⟩

theorem SetW.below {B M s r m : Nat} {ws : List Nat} {w w' : World} (h : SetW B s r m ws w) (hb : Below M w w') (hs : s < M) (hr : r < M) : SetW B s r m ws w' := h.kept (hb.block s hs) (hb.block r hr)

/-- Each's value gives what is in, rising; or a beginning of it, where a round has said 'no more'. -/
theorem each_stops (Bs n₀ B s r m : Nat) (ws : List Nat) (w : World) (hBs : Bs < w.heap.size) (hn₀ : n₀ ≤ w.heap.size)
    (hc : w.cell? ⟨Bs, 0, none⟩ = some (.pointer (some ⟨s, 0, none⟩))) (hS : SetW B s r m ws w) (hs : s < n₀) (hr : r < n₀) (hT : TabOk w) (hTn : 4 < n₀) :
    SeqStopsK Fence.wide 4 Tryd.prog 82 #[.pointer (some ⟨Bs, 0, none⟩)] (fun x : Nat => #[Value.int .i64 (x : Int)]) (Below n₀) (fun ys => ys = tellFrom ws 0) (fun pre => pre <+: tellFrom ws 0) (tellFrom ws 0).length w := fun l J Jx W hW _ _ hY h0 =>
  each1_in l Bs n₀ B s r m ws _ (Nat.le_refl _) J Jx hY W ((hW.cell (p := ⟨Bs, 0, none⟩) hBs).trans hc) (hS.below hW (Nat.lt_of_lt_of_le hs hn₀) (Nat.lt_of_lt_of_le hr hn₀)) hs hr (hT.belowT hW (Nat.lt_of_lt_of_le hTn hn₀)) hTn h0

theorem intinfo : (Tryd.prog.info? 3).map (fun i => (i.zero, i.size, i.bytes)) = some (some (.int .i64 0), 1, 8) := by kernel_rfl

theorem tell_le (ws : List Nat) : (tellFrom ws 0).length ≤ 64 * ws.length := by
  rw [tellFrom_eq ws ws.length 0 (by omega)]
  exact Nat.le_trans (List.length_filter_le _ _) (by simp)

def ListPost (l : List Nat) (w : World) (e : Ending) (W' : World) : Prop :=
  ∃ v, e = .returned v ∧ W'.ownsRow w.heap.size 3 1 v l.length (told l) ∧ (v = .slice none 0 0 ↔ l = []) ∧ Below w.heap.size w W'

set_option maxRecDepth 100000 in
set_option maxHeartbeats 2000000 in
theorem list_in {B s r m : Nat} {ws : List Nat} (w : World) (hS : SetW B s r m ws w) (hT : TabOk w) :
    CallsIn Fence.wide 5 Tryd.prog 29 #[.pointer (some ⟨s, 0, none⟩)] w (ListPost (tellFrom ws 0) w) := by
  obtain ⟨hs, hr⟩ := hS.lt
  have hTn := hT.lt
  have hlen : (tellFrom ws 0).length ≤ 1048640 := by
    have := tell_le ws; have := hS.len; have := hS.nle; omega
  have hmax : (tellFrom ws 0).length ≤ maxLen := by unfold maxLen; omega
  have hbytes : (tellFrom ws 0).length * 8 ≤ 140737488355328 := by omega
  obtain ⟨i0, hi, hz0, hz1, hz2⟩ := info_parts intinfo
  have H := Lib.hid hS
  have HT := Lib.hid hT
  clear hS hT
  refine callsIn_of_wp_marks Tryd.func29 rfl trivial ?_ rfl
  simp only [Tryd.ntmps29, List.size_toArray, List.length_cons, List.length_nil, Nat.reduceAdd, Nat.reduceSub, Array.replicate_succ, Array.replicate_zero, List.push_toArray, List.append_toArray, List.nil_append, List.cons_append]
  gi_wp2_with (refine ⟨trivial, ?_⟩; gi_at_call 32; refine (each_in _ _ _).mono ?_; rintro e w' ⟨rfl, rfl⟩)
  have bO := Boxed.new w 26 (.slice none 0 0)
  have bN := Boxed.new (w.alloc (.cells #[.slice none 0 0] 26)) 24 (.pointer (some ⟨s, 0, none⟩))
  rw [World.size_alloc] at bN
  have hB0 : Below w.heap.size w ((w.alloc (.cells #[.slice none 0 0] 26)).alloc (.cells #[.pointer (some ⟨s, 0, none⟩)] 24)) := ((Below.refl _ w).alloc (Nat.le_refl _) _).alloc (by simp) _
  refine wpIn_rangeFunc_ownG rfl (by decide) (gf := 82) (lb := #[.pointer (some ⟨w.heap.size + 1, 0, none⟩)]) rfl trivial (enters_of Tryd.func82 (by kernel_rfl) rfl)
    (each_stops (w.heap.size + 1) w.heap.size B s r m ws _ (by simp) (by simp; omega) bN.cell (H.out.below hB0 hs hr) hs hr (HT.out.belowT hB0 hTn) hTn) belowK_t (belowK_b (by simp; omega)) (Below.refl _ _) (fun _ => rfl)
    (fun pre W => (∃ v, Boxed W w.heap.size 26 v ∧ W.ownsRow w.heap.size 3 1 v pre.length (told pre) ∧ (v = .slice none 0 0 ↔ pre = [])) ∧ Below w.heap.size w W)
    (fun _ _ _ => False)
    (OwnFrom.and (Own.from (holdsRow_own w.heap.size w.heap.size 26 3 1 (fun pre => pre.length) (fun pre => told pre) (fun pre v => v = .slice none 0 0 ↔ pre = [])) _) (ownFrom_below (Nat.le_refl _) (by simp; omega)))
    (fun _ _ _ _ _ hs _ _ => hs)
    ⟨⟨_, bO.alloc _, World.ownsRow_nil _ _ _ _, by simp⟩, hB0⟩
    (fun x => { tmps := #[.pointer (some ⟨s, 0, none⟩), undef, .slice none 0 0, .pointer (some ⟨w.heap.size, 0, none⟩), .int .i64 (x : Int), .pointer (some ⟨s, 0, none⟩), .func (.func 82) #[] #[.pointer (some ⟨w.heap.size + 1, 0, none⟩)], .int .i64 (x : Int), undef, undef, undef, undef, undef], defers := [] }) ?assign ?body ?done ?stop
  case assign =>
    intro l x W K hK
    gi_wp2
    exact hK
  case body =>
    rintro l pre x W ⟨⟨v, hv, hrow, hnil⟩, hB⟩ hlt
    have hc := hv.cell
    gi_wp2_with (gi_at_builtin; refine wpListIn_append_own _ rfl _ _ 26 rfl w.heap.size 3 i0 (.int .i64 0) 1 8 Tryd.underlying26 hi hz0 hz1 hz2 rfl (by decide) _ _ _ rfl (hrow.alloc _) ⟨W.heap.size, 0, none⟩ 1 1 [.int .i64 (x : Int)] rfl rfl (cell_one_new _ _ _) (by simp [Value.oneCell']) (by omega) (by omega) (by have := hB.size; simp; omega) ?_; intro v' w1 hown' hgrow _; obtain ⟨g', cap', rfl⟩ := ownsRow_succ hown'; obtain ⟨hv1, hv2, hr2, hk2, hb2⟩ := hv.appended (by decide) hrow hB.size (Nat.le_refl _) hown' hgrow; have hc1 := hv1.cell; have hf1 := hv1.frozen)
    exact ⟨hk2.from _, hb2, ⟨_, hv2, by simpa [told] using hr2, by simp⟩, hB.trans hb2⟩
  case done =>
    rintro D ys W hD rfl ⟨⟨v, hv, hrow, hnil⟩, hB⟩ hK
    have hc := hv.cell
    gi_wp2
    refine ⟨by simp, .inl ⟨_, _, rfl, run_takeDeferred hK, ?_⟩⟩
    exact ⟨_, results_tmp rfl _ _ _, v, rfl, ownsRow_putObj hrow _ hK rfl, hnil, hB.trans (belowK_b (w := w) (Nat.le_refl _) W D _ _ (by simp at hD; omega) hK rfl rfl)⟩
  case stop =>
    rintro D c pre W _ _ h _
    exact h.elim

theorem list_set {B s r m : Nat} {ws : List Nat} (w : World) (hS : SetW B s r m ws w) (hT : TabOk w) :
    Calls Tryd.prog 29 #[.pointer (some ⟨s, 0, none⟩)] w (ListPost (tellFrom ws 0) w) := callsIn_wide.1 (list_in w hS hT)

/-- A set of numbers below n: those of which f is true. -/
def SetF (B s r n : Nat) (f : Nat → Bool) (w : World) : Prop := ∃ ws, SetW B s r n ws w ∧ ∀ j, bitAt ws j = f j

theorem SetF.kept {B s r n : Nat} {f : Nat → Bool} {w w' : World} (h : SetF B s r n f w) (hs : w'.heap[s]? = w.heap[s]?) (hr : w'.heap[r]? = w.heap[r]?) : SetF B s r n f w' :=
  let ⟨ws, h1, h2⟩ := h; ⟨ws, h1.kept hs hr, h2⟩

theorem SetF.lt {B s r n : Nat} {f : Nat → Bool} {w : World} (h : SetF B s r n f w) : s < w.heap.size ∧ r < w.heap.size := let ⟨_, h1, _⟩ := h; h1.lt

theorem SetF.below {B M s r n : Nat} {f : Nat → Bool} {w w' : World} (h : SetF B s r n f w) (hb : Below M w w') (hs : s < M) (hr : r < M) : SetF B s r n f w' := h.kept (hb.block s hs) (hb.block r hr)

theorem SetF.ne {B s r n : Nat} {f : Nat → Bool} {w : World} (h : SetF B s r n f w) : s ≠ r := let ⟨_, h1, _⟩ := h; h1.ne

theorem SetF.lo {B s r n : Nat} {f : Nat → Bool} {w : World} (h : SetF B s r n f w) : B ≤ s ∧ B ≤ r := let ⟨_, h1, _⟩ := h; ⟨h1.los, h1.lor⟩

theorem SetF.top {B s r n : Nat} {f : Nat → Bool} {w : World} (h : SetF B s r n f w) {j : Nat} (hj : n ≤ j) : f j = false := let ⟨_, h1, h2⟩ := h; (h2 j).symm.trans (h1.top j hj)

theorem SetF.base {B C s r n : Nat} {f : Nat → Bool} {w : World} (h : SetF B s r n f w) (hc : C ≤ B) : SetF C s r n f w := let ⟨ws, h1, h2⟩ := h; ⟨ws, ⟨h1.len, h1.small, h1.top, h1.nle, h1.box, h1.row, h1.ne, Nat.le_trans hc h1.los, Nat.le_trans hc h1.lor⟩, h2⟩

/-- Is there place for i? -/
def inB (i : Int) (n : Nat) : Bool := decide (0 ≤ i ∧ i < n)

theorem inB_of {i : Int} {n : Nat} (h : 0 ≤ i ∧ i < n) : inB i n = true := by simp [inB, h]

theorem inB_no {i : Int} {n : Nat} (h : ¬ (0 ≤ i ∧ i < n)) : inB i n = false := by simpa [inB] using h

/-- What is in, rising; how many. -/
def members (f : Nat → Bool) (n : Nat) : List Nat := (List.range n).filter f

def many (f : Nat → Bool) (n : Nat) : Nat := (members f n).length

def AddFPost (B s r n : Nat) (f : Nat → Bool) (i : Int) (w : World) (e : Ending) (w' : World) : Prop :=
  e = .returned (.bool (inB i n && !f i.toNat)) ∧ SetF B s r n (fun j => f j || (inB i n && decide (j = i.toNat))) w' ∧ w.grownBy w' (some r)

theorem addF {B s r n : Nat} {f : Nat → Bool} (i : Int) (w : World) (h : SetF B s r n f w) :
    Calls Tryd.prog 19 #[.pointer (some ⟨s, 0, none⟩), .int .i64 i] w (AddFPost B s r n f i w) := by
  obtain ⟨ws, h1, h2⟩ := h
  unfold AddFPost
  by_cases hi : 0 ≤ i ∧ i < n
  · obtain ⟨k, rfl⟩ : ∃ k : Nat, i = (k : Int) := ⟨i.toNat, by omega⟩
    rw [inB_of hi, Int.toNat_natCast]
    cases hb : bitAt ws k with
    | false =>
      refine (add_new k w h1 (by omega) hb).mono ?_
      rintro e w' ⟨rfl, hs, hg⟩
      refine ⟨by rw [← h2, hb]; rfl, ⟨_, hs, fun j => ?_⟩, hg⟩
      rw [bitAt_add _ _ _ (by have := h1.len; omega), h2]
      simp [Bool.or_comm]
    | true =>
      refine (add_old k w h1 (by omega) hb).mono ?_
      rintro e w' ⟨rfl, rfl⟩
      refine ⟨by rw [← h2, hb]; rfl, ⟨_, h1, fun j => ?_⟩, World.grownBy.refl _ _⟩
      rw [h2]
      by_cases e : j = k
      · subst e
        rw [← h2, hb]
        simp
      · simp [e]
  · rw [inB_no hi]
    refine (add_out i w h1 hi).mono ?_
    rintro e w' ⟨rfl, rfl⟩
    exact ⟨rfl, ⟨_, h1, fun j => by rw [h2]; simp⟩, World.grownBy.refl _ _⟩

theorem filter_same {f g : Nat → Bool} (h : ∀ j, f j = g j) (l : List Nat) : l.filter f = l.filter g := List.filter_congr fun j _ => h j

theorem SetW.tell {B s r n : Nat} {ws : List Nat} {f : Nat → Bool} {w : World} (h : SetW B s r n ws w) (hf : ∀ j, bitAt ws j = f j) : tellFrom ws 0 = members f n := by
  rw [tell_eq ws n h.len h.top]
  exact filter_same hf _

theorem listF {B s r n : Nat} {f : Nat → Bool} (w : World) (h : SetF B s r n f w) (hT : TabOk w) :
    Calls Tryd.prog 29 #[.pointer (some ⟨s, 0, none⟩)] w (ListPost (members f n) w) := by
  obtain ⟨ws, h1, h2⟩ := h
  rw [← h1.tell h2]
  exact list_set w h1 hT

def NewFPost (n : Nat) (w : World) (e : Ending) (w' : World) : Prop :=
  ∃ s r, e = .returned (.pointer (some ⟨s, 0, none⟩)) ∧ SetF w.heap.size s r n (fun _ => false) w' ∧ Below w.heap.size w w'

theorem newF (n : Nat) (w : World) (h : n ≤ 1048576) : Calls Tryd.prog 16 #[.int .i64 n] w (NewFPost n w) := by
  refine (snew_nat n w h).mono ?_
  rintro e w' ⟨s, r, rfl, hs, hb, _, _⟩
  exact ⟨s, r, rfl, ⟨_, hs, fun j => bitAt_zero _ _⟩, hb⟩

theorem below_own {a w w' : World} {g : Nat} (h : Below a.heap.size a w) (hg : w.grownBy w' (some g)) (hr : a.heap.size ≤ g) : Below a.heap.size a w' :=
  h.grown hg h.size (fun k hk => by cases hk; exact hr)

/-- A list that is told reads as a row. -/
theorem told_row {w : World} {base : Nat} {v : Value} {l : List Nat} (h : w.ownsRow base 3 1 v l.length (told l)) (hl : ∀ x ∈ l, x < 1048576) : ∃ a cap, v = .slice a l.length cap ∧ Row .i64 w a l.length cap (l.map fun x : Nat => (x : Int)) := by
  have e : told l = (l.map fun x : Nat => (x : Int)).map (Value.int .i64) := by simp [told]
  rw [e] at h
  refine row_of_owns h ?_
  intro x hx
  obtain ⟨y, hy, rfl⟩ := List.mem_map.1 hx
  have := hl y hy
  simp [Lit.wf, IntKind.min, IntKind.max, IntKind.signed, IntKind.bits]
  omega

theorem members_lt {f : Nat → Bool} {n : Nat} (h : n ≤ 1048576) : ∀ x ∈ members f n, x < 1048576 := fun _x hx => Nat.lt_of_lt_of_le (List.mem_range.1 (List.mem_filter.1 hx).1) h

end Go.Proofs.YtchechdcebmoeaaDoor

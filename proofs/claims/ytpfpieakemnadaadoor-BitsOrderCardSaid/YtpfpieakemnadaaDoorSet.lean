/-
  The set's methods, each by a contract: a pointer to a block that holds the bound and a slice over a whole block of words.
-/
import Derived.Test.YtpfpieakemnadaaDoorProg
import Derived.Test.YtpfpieakemnadaaDoorMem
import Derived.Test.YtpfpieakemnadaaDoorArn
import Derived.Test.YtpfpieakemnadaaDoorArn2
import Derived.Test.YtpfpieakemnadaaDoorPop
import Derived.IntWalk
import Derived.Laws.BitsAllLaws
import Derived.Deep.RegionLaw
namespace Go.Proofs.YtpfpieakemnadaaDoor
open Go.RowKit

/-- A set: its box s, its words' block r. -/
structure SetW (B s r n : Nat) (ws : List Nat) (w : World) : Prop where
  len : ws.length = (n + 63) / 64
  small : ∀ x ∈ ws, x < 2 ^ 64
  top : ∀ i, n ≤ i → bitAt ws i = false
  nle : n ≤ 1048576
  box : w.heap[s]? = some (.cells #[.int .i64 n, .slice (some ⟨r, 0, none⟩) ws.length ws.length] 103 (0, 0))
  row : w.heap[r]? = some (.cells (ws.map fun x : Nat => Value.int .u64 (x : Int)).toArray 104 (0, 0))
  ne : s ≠ r
  los : B ≤ s
  lor : B ≤ r

theorem SetW.cells {B s r n : Nat} {ws : List Nat} {w : World} (h : SetW B s r n ws w) : w.cell? ⟨s, 0, none⟩ = some (.int .i64 n) ∧ w.cell? ⟨s, 1, none⟩ = some (.slice (some ⟨r, 0, none⟩) ws.length ws.length) := by
  refine ⟨?_, ?_⟩ <;> (rw [cell_of_row w s _ _ 103 (0, 0) h.box]; rfl)

theorem SetW.cell {B s r n : Nat} {ws : List Nat} {w : World} (h : SetW B s r n ws w) (k : Nat) (hk : k < ws.length) : w.cell? ⟨r, k, none⟩ = some (.int .u64 (ws.getD k 0 : Nat)) := by
  rw [cell_of_row w r k _ 104 (0, 0) h.row]
  simp [List.getD, hk]

theorem SetW.frozen {B s r n : Nat} {ws : List Nat} {w : World} (h : SetW B s r n ws w) (k : Nat) : w.frozen? ⟨r, k, none⟩ = false := frozen_of_row w r k _ 104 h.row

theorem SetW.kept {B s r n : Nat} {ws : List Nat} {w w' : World} (h : SetW B s r n ws w) (hs : w'.heap[s]? = w.heap[s]?) (hr : w'.heap[r]? = w.heap[r]?) : SetW B s r n ws w' :=
  ⟨h.len, h.small, h.top, h.nle, hs.trans h.box, hr.trans h.row, h.ne, h.los, h.lor⟩

theorem SetW.lt {B s r n : Nat} {ws : List Nat} {w : World} (h : SetW B s r n ws w) : s < w.heap.size ∧ r < w.heap.size :=
  ⟨(Array.getElem?_eq_some_iff.1 h.box).1, (Array.getElem?_eq_some_iff.1 h.row).1⟩

theorem grown_drew {w w' : World} {r : Option Nat} (h : w.grownBy w' r) : w.grownBy w'.drew r := ⟨h.os, h.tape, h.output, h.size, h.block⟩

theorem may_in {B s r n : Nat} {ws : List Nat} (i : Nat) (w : World) (h : SetW B s r n ws w) (hi : i < n) :
    Calls Tryd.prog 58 #[.pointer (some ⟨s, 0, none⟩), .int .i64 i] w fun e w' => e = .returned (.bool true) ∧ w = w' := by
  obtain ⟨c0, c1⟩ := h.cells
  have hn := h.nle
  clear h c1
  have d1 : decide ((0 : Int) ≤ (i : Int)) = true := by simp
  have d2 : decide (i < n) = true := by simpa using hi
  go_enter Tryd.func58, Tryd.ntmps58
  go_wp2
  go_ret
  exact ⟨rfl, rfl⟩

theorem may_out {B s r n : Nat} {ws : List Nat} (i : Int) (w : World) (h : SetW B s r n ws w) (hi : ¬ (0 ≤ i ∧ i < n)) :
    Calls Tryd.prog 58 #[.pointer (some ⟨s, 0, none⟩), .int .i64 i] w fun e w' => e = .returned (.bool false) ∧ w = w' := by
  obtain ⟨c0, c1⟩ := h.cells
  have hn := h.nle
  clear h c1
  by_cases h0 : 0 ≤ i
  · have d1 : decide ((0 : Int) ≤ i) = true := by simpa using h0
    have d2 : decide (i < (n : Int)) = false := by simp; omega
    clear hi
    go_enter Tryd.func58, Tryd.ntmps58
    go_wp2
    go_ret
    exact ⟨rfl, rfl⟩
  · have d1 : decide ((0 : Int) ≤ i) = false := by simpa using h0
    clear hi
    go_enter Tryd.func58, Tryd.ntmps58
    go_wp2
    go_ret
    exact ⟨rfl, rfl⟩

theorem div_pow_cast (x k : Nat) : (x : Int) / 2 ^ k = ((x / 2 ^ k : Nat) : Int) := by push_cast; rfl

theorem has_word (x k : Nat) (hx : x < 2 ^ 64) : (bits BinOp.and IntKind.u64 ((x : Int) / 2 ^ k) 1 == 1) = x.testBit k := by
  have hd : x / 2 ^ k < 18446744073709551616 := Nat.lt_of_le_of_lt (Nat.div_le_self _ _) hx
  rw [div_pow_cast, show (1 : Int) = ((1 : Nat) : Int) from rfl, u64_and_nat _ 1 hd (by decide), Nat.and_one_is_mod, Nat.testBit_eq_decide_div_mod_eq]
  generalize x / 2 ^ k = y
  rw [Bool.eq_iff_iff, beq_iff_eq, decide_eq_true_iff]
  constructor
  · intro h; exact_mod_cast h
  · intro h; exact_mod_cast h

theorem SetW.word_lt {B s r n : Nat} {ws : List Nat} {w : World} (h : SetW B s r n ws w) (k : Nat) : ws.getD k 0 < 2 ^ 64 := getD_lt h.small k

theorem has_in {B s r n : Nat} {ws : List Nat} (i : Nat) (w : World) (h : SetW B s r n ws w) (hi : i < n) :
    Calls Tryd.prog 31 #[.pointer (some ⟨s, 0, none⟩), .int .i64 i] w fun e w' => e = .returned (.bool (bitAt ws i)) ∧ w = w' := by
  obtain ⟨c0, c1⟩ := h.cells
  have hn := h.nle
  have hl := h.len
  have hk : i / 64 < ws.length := by omega
  have cw := h.cell (i / 64) hk
  have hx := has_word (ws.getD (i / 64) 0) (i % 64) (h.word_lt _)
  unfold bitAt
  generalize ws.getD (i / 64) 0 = x at cw hx
  have H := Lib.hid h
  have HX := Lib.hid hx
  clear h hx
  go_enter Tryd.func31, Tryd.ntmps31
  go_wp2_with (go_at_call 58; refine (may_in _ _ H.out hi).mono ?_; rintro e w' ⟨rfl, rfl⟩)
  go_ret
  exact ⟨by rw [← HX.out]; rfl, rfl⟩

theorem has_out {B s r n : Nat} {ws : List Nat} (i : Int) (w : World) (h : SetW B s r n ws w) (hi : ¬ (0 ≤ i ∧ i < n)) :
    Calls Tryd.prog 31 #[.pointer (some ⟨s, 0, none⟩), .int .i64 i] w fun e w' => e = .returned (.bool false) ∧ w = w' := by
  have H := Lib.hid h
  have HI := Lib.hid hi
  clear h hi
  go_enter Tryd.func31, Tryd.ntmps31
  go_wp2_with (go_at_call 58; refine (may_out _ _ H.out HI.out).mono ?_; rintro e w' ⟨rfl, rfl⟩)
  go_ret
  exact ⟨rfl, rfl⟩

/-! ### a word laid anew -/

theorem SetW.stored {B s r n : Nat} {ws : List Nat} {w : World} (h : SetW B s r n ws w) (k x : Nat) (hx : x < 2 ^ 64) (ht : ∀ i, n ≤ i → bitAt (ws.set k x) i = false) :
    SetW B s r n (ws.set k x) (w.setCell ⟨r, k, none⟩ (.int .u64 (x : Nat))) := by
  refine ⟨by simpa using h.len, fun y hy => ?_, ht, h.nle, ?_, ?_, h.ne, h.los, h.lor⟩
  · rcases List.mem_or_eq_of_mem_set hy with h1 | h1
    · exact h.small _ h1
    · rw [h1]; exact hx
  · rw [Below.heap_setCell w ⟨r, k, none⟩ _ s h.ne, List.length_set]; exact h.box
  · rw [heap_setCell_same w r k _ 104 _ h.row]; simp [List.map_set]

theorem shl_word (i : Nat) : IntKind.u64.wrap ((2 : Int) ^ ((i : Int) % 64).toNat) = ((2 ^ (i % 64) : Nat) : Int) := by
  have this : (2 : Nat) ^ (i % 64) < 18446744073709551616 := Nat.pow_lt_pow_right (a := 2) (by decide) (Nat.mod_lt i (by decide))
  have e0 : ((i : Int) % 64).toNat = i % 64 := by omega
  have e : ((2 : Int) ^ (i % 64)) = ((2 ^ (i % 64) : Nat) : Int) := by rw [Int.natCast_pow]; rfl
  rw [e0, e, IntKind.wrap_u64]
  exact Int.emod_eq_of_lt (Int.natCast_nonneg _) (by omega)

theorem or_lt {x y : Nat} (hx : x < 2 ^ 64) (hy : y < 2 ^ 64) : x ||| y < 2 ^ 64 := Nat.or_lt_two_pow hx hy

def AddPost (B s r n : Nat) (ws : List Nat) (i : Nat) (w : World) (e : Ending) (w' : World) : Prop :=
  e = .returned (.bool true) ∧ SetW B s r n (ws.set (i / 64) (ws.getD (i / 64) 0 ||| 2 ^ (i % 64))) w' ∧ w.grownBy w' (some r)

theorem add_new {B s r n : Nat} {ws : List Nat} (i : Nat) (w : World) (h : SetW B s r n ws w) (hi : i < n) (hb : bitAt ws i = false) :
    Calls Tryd.prog 19 #[.pointer (some ⟨s, 0, none⟩), .int .i64 i] w (AddPost B s r n ws i w) := by
  obtain ⟨c0, c1⟩ := h.cells
  have hn := h.nle
  have hl := h.len
  have hk : i / 64 < ws.length := by omega
  have cw := h.cell (i / 64) hk
  have cf := h.frozen (i / 64)
  have hlt := h.word_lt (i / 64)
  have h2 : 2 ^ (i % 64) < 2 ^ 64 := Nat.pow_lt_pow_right (by decide) (Nat.mod_lt _ (by decide))
  have hst := h.stored (i / 64) (ws.getD (i / 64) 0 ||| 2 ^ (i % 64)) (or_lt hlt h2) (fun j hj => by rw [bitAt_add _ _ _ hk, h.top j hj]; simp; omega)
  have hor := u64_or_nat (ws.getD (i / 64) 0) (2 ^ (i % 64)) hlt h2
  rw [← shl_word i] at hor
  have a1 : IntKind.i64.wrap ((i : Int) / 64) = (i : Int) / 64 := IntWalk.i64_in _ (by omega)
  have a2 : 0 ≤ (i : Int) / 64 := by omega
  have a3 : (i : Int) / 64 < ((n : Int) + 63) / 64 := by omega
  have a4 : ((i : Int) / 64).toNat = i / 64 := by omega
  have a5 : (i : Int).tmod 64 = ((i % 64 : Nat) : Int) := by rw [Int.tmod_eq_emod_of_nonneg (by omega)]; omega
  unfold AddPost
  generalize hy : (ws.getD (i / 64) 0 ||| 2 ^ (i % 64)) = y at *
  generalize hx : ws.getD (i / 64) 0 = x at *
  have H := Lib.hid h
  rw [← hor] at hst
  have HST := Lib.hid hst
  have HG := Lib.hid (grown_store w r (i / 64) (.int .u64 (bits BinOp.or IntKind.u64 (x : Int) (IntKind.u64.wrap ((2 : Int) ^ ((i : Int) % 64).toNat)))))
  clear h hst hx hy hlt h2 hor
  go_enter Tryd.func19, Tryd.ntmps19
  go_wp2_with fail
  refine (may_in _ _ H.out hi).mono ?_
  rintro e w' ⟨rfl, rfl⟩
  go_wp2_with fail
  refine (has_in _ _ H.out hi).mono ?_
  rintro e w' ⟨rfl, rfl⟩
  rw [hb]
  go_wp2_with fail
  go_region_law (fail)
  all_goals go_wp2_with fail
  all_goals
    go_ret
    exact ⟨rfl, HST.out.kept rfl rfl, grown_drew HG.out⟩

theorem add_old {B s r n : Nat} {ws : List Nat} (i : Nat) (w : World) (h : SetW B s r n ws w) (hi : i < n) (hb : bitAt ws i = true) :
    Calls Tryd.prog 19 #[.pointer (some ⟨s, 0, none⟩), .int .i64 i] w fun e w' => e = .returned (.bool false) ∧ w = w' := by
  have H := Lib.hid h
  clear h
  go_enter Tryd.func19, Tryd.ntmps19
  go_wp2_with fail
  refine (may_in _ _ H.out hi).mono ?_
  rintro e w' ⟨rfl, rfl⟩
  go_wp2_with fail
  refine (has_in _ _ H.out hi).mono ?_
  rintro e w' ⟨rfl, rfl⟩
  rw [hb]
  go_wp2_with fail
  go_ret
  exact ⟨rfl, rfl⟩

theorem add_out {B s r n : Nat} {ws : List Nat} (i : Int) (w : World) (h : SetW B s r n ws w) (hi : ¬ (0 ≤ i ∧ i < n)) :
    Calls Tryd.prog 19 #[.pointer (some ⟨s, 0, none⟩), .int .i64 i] w fun e w' => e = .returned (.bool false) ∧ w = w' := by
  have H := Lib.hid h
  have HI := Lib.hid hi
  clear h hi
  go_enter Tryd.func19, Tryd.ntmps19
  go_wp2_with (go_at_call 58; refine (may_out _ _ H.out HI.out).mono ?_; rintro e w' ⟨rfl, rfl⟩)
  go_ret
  exact ⟨rfl, rfl⟩

def DropPost (B s r n : Nat) (ws : List Nat) (i : Nat) (w : World) (e : Ending) (w' : World) : Prop :=
  e = .returned (.bool true) ∧ SetW B s r n (ws.set (i / 64) (ws.getD (i / 64) 0 &&& (18446744073709551615 - 2 ^ (i % 64)))) w' ∧ w.grownBy w' (some r)

theorem not_bit (x k b : Nat) (hk : k < 64) (hb : b < 64) : (x &&& (18446744073709551615 - 2 ^ k)).testBit b = (x.testBit b && !decide (b = k)) := by
  have h2 : 2 ^ k < 2 ^ 64 := Nat.pow_lt_pow_right (by decide) hk
  have e : 18446744073709551615 - 2 ^ k = 2 ^ 64 - (2 ^ k + 1) := by omega
  rw [Nat.testBit_and, e, Nat.testBit_two_pow_sub_succ h2, Nat.testBit_two_pow]
  by_cases h : b = k
  · subst h; simp
  · have h' : ¬ k = b := fun x => h x.symm
    simp [h, h', hb]

theorem drop_yes {B s r n : Nat} {ws : List Nat} (i : Nat) (w : World) (h : SetW B s r n ws w) (hi : i < n) (hb : bitAt ws i = true) :
    Calls Tryd.prog 20 #[.pointer (some ⟨s, 0, none⟩), .int .i64 i] w (DropPost B s r n ws i w) := by
  obtain ⟨c0, c1⟩ := h.cells
  have hn := h.nle
  have hl := h.len
  have hk : i / 64 < ws.length := by omega
  have cw := h.cell (i / 64) hk
  have cf := h.frozen (i / 64)
  have hlt := h.word_lt (i / 64)
  have h2 : 2 ^ (i % 64) < 2 ^ 64 := Nat.pow_lt_pow_right (by decide) (Nat.mod_lt _ (by decide))
  have hst := h.stored (i / 64) (ws.getD (i / 64) 0 &&& (18446744073709551615 - 2 ^ (i % 64))) (Nat.lt_of_le_of_lt Nat.and_le_left hlt) (fun j hj => by rw [bitAt_drop _ _ _ _ hk (fun b hb => not_bit _ _ _ (Nat.mod_lt _ (by decide)) hb), h.top j hj]; rfl)
  have hor := u64_andNot_nat (ws.getD (i / 64) 0) (2 ^ (i % 64)) hlt h2
  rw [← shl_word i] at hor
  have a1 : IntKind.i64.wrap ((i : Int) / 64) = (i : Int) / 64 := IntWalk.i64_in _ (by omega)
  have a2 : 0 ≤ (i : Int) / 64 := by omega
  have a3 : (i : Int) / 64 < ((n : Int) + 63) / 64 := by omega
  have a4 : ((i : Int) / 64).toNat = i / 64 := by omega
  have a5 : (i : Int).tmod 64 = ((i % 64 : Nat) : Int) := by rw [Int.tmod_eq_emod_of_nonneg (by omega)]; omega
  unfold DropPost
  generalize hy : (ws.getD (i / 64) 0 &&& (18446744073709551615 - 2 ^ (i % 64))) = y at *
  generalize hx : ws.getD (i / 64) 0 = x at *
  have H := Lib.hid h
  rw [← hor] at hst
  have HST := Lib.hid hst
  have HG := Lib.hid (grown_store w r (i / 64) (.int .u64 (bits BinOp.andNot IntKind.u64 (x : Int) (IntKind.u64.wrap ((2 : Int) ^ ((i : Int) % 64).toNat)))))
  clear h hst hx hy hlt h2 hor
  go_enter Tryd.func20, Tryd.ntmps20
  go_wp2_with fail
  refine (has_in _ _ H.out hi).mono ?_
  rintro e w' ⟨rfl, rfl⟩
  rw [hb]
  go_wp2_with fail
  go_region_law (fail)
  all_goals go_wp2_with fail
  all_goals
    go_ret
    exact ⟨rfl, HST.out.kept rfl rfl, grown_drew HG.out⟩

theorem drop_no {B s r n : Nat} {ws : List Nat} (i : Nat) (w : World) (h : SetW B s r n ws w) (hi : i < n) (hb : bitAt ws i = false) :
    Calls Tryd.prog 20 #[.pointer (some ⟨s, 0, none⟩), .int .i64 i] w fun e w' => e = .returned (.bool false) ∧ w = w' := by
  have H := Lib.hid h
  clear h
  go_enter Tryd.func20, Tryd.ntmps20
  go_wp2_with fail
  refine (has_in _ _ H.out hi).mono ?_
  rintro e w' ⟨rfl, rfl⟩
  rw [hb]
  go_wp2_with fail
  go_ret
  exact ⟨rfl, rfl⟩

theorem drop_out {B s r n : Nat} {ws : List Nat} (i : Int) (w : World) (h : SetW B s r n ws w) (hi : ¬ (0 ≤ i ∧ i < n)) :
    Calls Tryd.prog 20 #[.pointer (some ⟨s, 0, none⟩), .int .i64 i] w fun e w' => e = .returned (.bool false) ∧ w = w' := by
  have H := Lib.hid h
  have HI := Lib.hid hi
  clear h hi
  go_enter Tryd.func20, Tryd.ntmps20
  go_wp2_with (go_at_call 31; refine (has_out _ _ H.out HI.out).mono ?_; rintro e w' ⟨rfl, rfl⟩)
  go_ret
  exact ⟨rfl, rfl⟩

/-! ### a set made -/

theorem u64info : (Tryd.prog.info? 104).map (fun i => (i.zero, i.size, i.bytes)) = some (some (.int .u64 0), 1, 8) := by kernel_rfl

def NewSetPost (n : Nat) (w : World) (e : Ending) (w' : World) : Prop :=
  ∃ s r, e = .returned (.pointer (some ⟨s, 0, none⟩)) ∧ SetW w.heap.size s r n (List.replicate ((n + 63) / 64) 0) w' ∧ Below w.heap.size w w' ∧ r = w.heap.size ∧ s < w'.heap.size

theorem snew_made (n : Nat) (w w1 : World) (h : n ≤ 1048576) (hown : w1.ownsRow w.heap.size 104 1 (Value.slice (some ⟨w.heap.size, 0, none⟩) ((n + 63) / 64) ((n + 63) / 64)) ((n + 63) / 64) (List.replicate ((n + 63) / 64) (Value.int IntKind.u64 0))) (hg : w.grownBy w1 none) :
    NewSetPost n w (.returned (.pointer (some ⟨w1.heap.size, 0, none⟩))) (w1.alloc (.cells #[.int .i64 n, .slice (some ⟨w.heap.size, 0, none⟩) ((n + 63) / 64) ((n + 63) / 64)] 103)) := by
  have hrow := row_full hown
  have hgl : w.heap.size < w1.heap.size := (Array.getElem?_eq_some_iff.1 hrow).1
  refine ⟨w1.heap.size, w.heap.size, rfl, ⟨by simp, fun x hx => ?_, fun i _ => bitAt_zero _ _, h, ?_, ?_, by omega, hg.size, Nat.le_refl _⟩, ?_, rfl, by simp⟩
  · rw [List.eq_of_mem_replicate hx]; decide
  · rw [heap_alloc_new w1 _]; simp
  · rw [Below.heap_alloc _ _ _ hgl, hrow]; simp
  · exact (Below.grown (Below.refl _ w) hg (Nat.le_refl _) (by simp)).alloc hg.size _

theorem snew_nat (n : Nat) (w : World) (h : n ≤ 1048576) :
    Calls Tryd.prog 16 #[.int .i64 n] w (NewSetPost n w) := by
  have hm : (n + 63) / 64 ≤ maxLen := by unfold maxLen; omega
  have hbytes : 8 * ((n + 63) / 64) ≤ 281474976710656 := by omega
  have H := Lib.hid h
  have HM := Lib.hid hm
  have HB := Lib.hid hbytes
  have e1 : (if ((n : Nat) : Int) < 0 then (0 : Int) else (n : Int)) = (n : Int) := by rw [if_neg (by omega)]
  obtain ⟨i, hi, hz0, hz1, hz2⟩ := info_parts u64info
  have HI := Lib.hid hi
  have HZ0 := Lib.hid hz0
  have HZ1 := Lib.hid hz1
  have HZ2 := Lib.hid hz2
  clear hi hz0 hz1 hz2 hm hbytes
  go_enter Tryd.func16, Tryd.ntmps16
  go_wp2_with (at_make; refine wpList_make_len _ rfl (.tmp 9) (.tmp 9) 101 rfl w.heap.size 104 i (.int .u64 0) 8 Tryd.underlying101 HI.out HZ0.out HZ1.out HZ2.out rfl .i64 .i64 _ _ ((n + 63) / 64) ((n + 63) / 64) rfl rfl (by simp) (by simp) (Nat.le_refl _) HB.out HM.out (Nat.le_refl _) ?_; intro w1 hown hg)
  go_ret
  exact snew_made n w w1 H.out hown hg

theorem snew_neg (n : Int) (w : World) (h : n < 0) :
    Calls Tryd.prog 16 #[.int .i64 n] w (NewSetPost 0 w) := by
  have HB : Hid (8 * ((0 + 63) / 64) ≤ 281474976710656) := Lib.hid (by omega)
  have HM : Hid ((0 + 63) / 64 ≤ maxLen) := Lib.hid (by unfold maxLen; omega)
  obtain ⟨i, hi, hz0, hz1, hz2⟩ := info_parts u64info
  have HI := Lib.hid hi
  have HZ0 := Lib.hid hz0
  have HZ1 := Lib.hid hz1
  have HZ2 := Lib.hid hz2
  clear hi hz0 hz1 hz2
  have e1 : ¬ 0 < n := by omega
  have e2 : n ≤ 0 := by omega
  go_enter Tryd.func16, Tryd.ntmps16
  go_wp2_with (at_make; refine wpList_make_len _ rfl (.tmp 9) (.tmp 9) 101 rfl w.heap.size 104 i (.int .u64 0) 8 Tryd.underlying101 HI.out HZ0.out HZ1.out HZ2.out rfl .i64 .i64 _ _ ((0 + 63) / 64) ((0 + 63) / 64) rfl rfl (by simp) (by simp) (Nat.le_refl _) HB.out HM.out (Nat.le_refl _) ?_; intro w1 hown hg)
  go_ret
  exact snew_made 0 w w1 (by omega) hown hg

end Go.Proofs.YtpfpieakemnadaaDoor

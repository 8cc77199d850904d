/-
  The set by what is in it: each method by a contract over a test of numbers.
-/
import Derived.Test.YtpfpieakemnadaaDoorTell
namespace Go.Proofs.YtpfpieakemnadaaDoor
open Go.RowKit

/-- A set of numbers below n: those of which f is true. -/
def SetF (B s r n : Nat) (f : Nat → Bool) (w : World) : Prop := ∃ ws, SetW B s r n ws w ∧ ∀ j, bitAt ws j = f j

theorem SetF.kept {B s r n : Nat} {f : Nat → Bool} {w w' : World} (h : SetF B s r n f w) (hs : w'.heap[s]? = w.heap[s]?) (hr : w'.heap[r]? = w.heap[r]?) : SetF B s r n f w' :=
  let ⟨ws, h1, h2⟩ := h; ⟨ws, h1.kept hs hr, h2⟩
theorem SetF.lt {B s r n : Nat} {f : Nat → Bool} {w : World} (h : SetF B s r n f w) : s < w.heap.size ∧ r < w.heap.size := let ⟨_, h1, _⟩ := h; h1.lt
theorem SetF.below {B M s r n : Nat} {f : Nat → Bool} {w w' : World} (h : SetF B s r n f w) (hb : Below M w w') (hs : s < M) (hr : r < M) : SetF B s r n f w' := h.kept (hb.block s hs) (hb.block r hr)
theorem SetF.congr {B s r n : Nat} {f g : Nat → Bool} {w : World} (h : SetF B s r n f w) (hf : ∀ j, f j = g j) : SetF B s r n g w := let ⟨ws, h1, h2⟩ := h; ⟨ws, h1, fun j => (h2 j).trans (hf j)⟩
theorem SetF.ne {B s r n : Nat} {f : Nat → Bool} {w : World} (h : SetF B s r n f w) : s ≠ r := let ⟨_, h1, _⟩ := h; h1.ne
theorem SetF.lo {B s r n : Nat} {f : Nat → Bool} {w : World} (h : SetF B s r n f w) : B ≤ s ∧ B ≤ r := let ⟨_, h1, _⟩ := h; ⟨h1.los, h1.lor⟩
theorem SetF.top {B s r n : Nat} {f : Nat → Bool} {w : World} (h : SetF B s r n f w) {j : Nat} (hj : n ≤ j) : f j = false := let ⟨_, h1, h2⟩ := h; (h2 j).symm.trans (h1.top j hj)
theorem SetF.le {B s r n : Nat} {f : Nat → Bool} {w : World} (h : SetF B s r n f w) : n ≤ 1048576 := let ⟨_, h1, _⟩ := h; h1.nle
theorem SetF.base {B C s r n : Nat} {f : Nat → Bool} {w : World} (h : SetF B s r n f w) (hc : C ≤ B) : SetF C s r n f w := let ⟨ws, h1, h2⟩ := h; ⟨ws, ⟨h1.len, h1.small, h1.top, h1.nle, h1.box, h1.row, h1.ne, Nat.le_trans hc h1.los, Nat.le_trans hc h1.lor⟩, h2⟩

/-- Is there place for i? -/
def inB (i : Int) (n : Nat) : Bool := decide (0 ≤ i ∧ i < n)
theorem inB_of {i : Int} {n : Nat} (h : 0 ≤ i ∧ i < n) : inB i n = true := by simp [inB, h]
theorem inB_no {i : Int} {n : Nat} (h : ¬ (0 ≤ i ∧ i < n)) : inB i n = false := by simpa [inB] using h
theorem of_inB {i : Int} {n : Nat} (h : inB i n = true) : 0 ≤ i ∧ i < n := by simpa [inB] using h

/-- What is in, rising; how many. -/
def members (f : Nat → Bool) (n : Nat) : List Nat := (List.range n).filter f
def many (f : Nat → Bool) (n : Nat) : Nat := (members f n).length

theorem hasF {B s r n : Nat} {f : Nat → Bool} (i : Int) (w : World) (h : SetF B s r n f w) :
    Calls Tryd.prog 31 #[.pointer (some ⟨s, 0, none⟩), .int .i64 i] w fun e w' => e = .returned (.bool (inB i n && f i.toNat)) ∧ w = w' := by
  obtain ⟨ws, h1, h2⟩ := h
  by_cases hi : 0 ≤ i ∧ i < n
  · obtain ⟨k, rfl⟩ : ∃ k : Nat, i = (k : Int) := ⟨i.toNat, by omega⟩
    rw [inB_of hi, Bool.true_and, Int.toNat_natCast, ← h2]
    exact has_in k w h1 (by omega)
  · rw [inB_no hi, Bool.false_and]
    exact has_out i w h1 hi

def AddFPost (B s r n : Nat) (f : Nat → Bool) (i : Int) (w : World) (e : Ending) (w' : World) : Prop :=
  e = .returned (.bool (inB i n && !f i.toNat)) ∧ SetF B s r n (fun j => f j || (inB i n && decide (j = i.toNat))) w' ∧ w.grownBy w' (some r)

theorem addF {B s r n : Nat} {f : Nat → Bool} (i : Int) (w : World) (h : SetF B s r n f w) :
    Calls Tryd.prog 19 #[.pointer (some ⟨s, 0, none⟩), .int .i64 i] w (AddFPost B s r n f i w) := by
  obtain ⟨ws, h1, h2⟩ := h
  unfold AddFPost
  by_cases hi : 0 ≤ i ∧ i < n
  · obtain ⟨k, rfl⟩ : ∃ k : Nat, i = (k : Int) := ⟨i.toNat, by omega⟩
    rw [inB_of hi, Int.toNat_natCast]
    cases hb : bitAt ws k with
    | false =>
      refine (add_new k w h1 (by omega) hb).mono ?_
      rintro e w' ⟨rfl, hs, hg⟩
      refine ⟨by rw [← h2, hb]; rfl, ⟨_, hs, fun j => ?_⟩, hg⟩
      rw [bitAt_add _ _ _ (by have := h1.len; omega), h2]
      simp [Bool.or_comm]
    | true =>
      refine (add_old k w h1 (by omega) hb).mono ?_
      rintro e w' ⟨rfl, rfl⟩
      refine ⟨by rw [← h2, hb]; rfl, ⟨_, h1, fun j => ?_⟩, World.grownBy.refl _ _⟩
      rw [h2]
      by_cases e : j = k
      · subst e
        rw [← h2, hb]
        simp
      · simp [e]
  · rw [inB_no hi]
    refine (add_out i w h1 hi).mono ?_
    rintro e w' ⟨rfl, rfl⟩
    exact ⟨rfl, ⟨_, h1, fun j => by rw [h2]; simp⟩, World.grownBy.refl _ _⟩

def DropFPost (B s r n : Nat) (f : Nat → Bool) (i : Int) (w : World) (e : Ending) (w' : World) : Prop :=
  e = .returned (.bool (inB i n && f i.toNat)) ∧ SetF B s r n (fun j => f j && !(inB i n && decide (j = i.toNat))) w' ∧ w.grownBy w' (some r)

theorem dropF {B s r n : Nat} {f : Nat → Bool} (i : Int) (w : World) (h : SetF B s r n f w) :
    Calls Tryd.prog 20 #[.pointer (some ⟨s, 0, none⟩), .int .i64 i] w (DropFPost B s r n f i w) := by
  obtain ⟨ws, h1, h2⟩ := h
  unfold DropFPost
  by_cases hi : 0 ≤ i ∧ i < n
  · obtain ⟨k, rfl⟩ : ∃ k : Nat, i = (k : Int) := ⟨i.toNat, by omega⟩
    rw [inB_of hi, Int.toNat_natCast]
    cases hb : bitAt ws k with
    | true =>
      refine (drop_yes k w h1 (by omega) hb).mono ?_
      rintro e w' ⟨rfl, hs, hg⟩
      refine ⟨by rw [← h2, hb]; rfl, ⟨_, hs, fun j => ?_⟩, hg⟩
      rw [bitAt_drop _ _ _ _ (by have := h1.len; omega) (fun b hb => not_bit _ _ _ (Nat.mod_lt _ (by decide)) hb), h2]
      simp
    | false =>
      refine (drop_no k w h1 (by omega) hb).mono ?_
      rintro e w' ⟨rfl, rfl⟩
      refine ⟨by rw [← h2, hb]; rfl, ⟨_, h1, fun j => ?_⟩, World.grownBy.refl _ _⟩
      rw [h2]
      by_cases e : j = k
      · subst e
        rw [← h2, hb]
        simp
      · simp [e]
  · rw [inB_no hi]
    refine (drop_out i w h1 hi).mono ?_
    rintro e w' ⟨rfl, rfl⟩
    exact ⟨rfl, ⟨_, h1, fun j => by rw [h2]; simp⟩, World.grownBy.refl _ _⟩

theorem filter_same {f g : Nat → Bool} (h : ∀ j, f j = g j) (l : List Nat) : l.filter f = l.filter g := List.filter_congr fun j _ => h j

theorem SetW.tell {B s r n : Nat} {ws : List Nat} {f : Nat → Bool} {w : World} (h : SetW B s r n ws w) (hf : ∀ j, bitAt ws j = f j) : tellFrom ws 0 = members f n := by
  rw [tell_eq ws n h.len h.top]
  exact filter_same hf _

theorem sum_tell (ws : List Nat) : ∀ d k, k + d = ws.length → (tellFrom ws k).length = sumBits (ws.drop k)
  | 0, k, h => by rw [tellFrom_end ws k (by omega), List.drop_eq_nil_of_le (by omega)]; rfl
  | d + 1, k, h => by
    rw [tellFrom_step ws k (by omega), List.length_append, List.length_map, sum_tell ws d (k + 1) (by omega)]
    have hk : k < ws.length := by omega
    rw [List.drop_eq_getElem_cons hk]
    have e : ws.getD k 0 = ws[k] := by simp [List.getD, hk]
    rw [e]
    rfl

theorem lenF {B s r n : Nat} {f : Nat → Bool} (w : World) (h : SetF B s r n f w) :
    Calls Tryd.prog 30 #[.pointer (some ⟨s, 0, none⟩)] w fun e w' => e = .returned (.int .i64 (many f n)) ∧ w = w' := by
  obtain ⟨ws, h1, h2⟩ := h
  have e : many f n = sumBits ws := by
    unfold many
    rw [← h1.tell h2, sum_tell ws ws.length 0 (by omega), List.drop_zero]
  rw [e]
  exact len_set w h1

theorem listF {B s r n : Nat} {f : Nat → Bool} (w : World) (h : SetF B s r n f w) (hT : TabOk w) :
    Calls Tryd.prog 29 #[.pointer (some ⟨s, 0, none⟩)] w (ListPost (members f n) w) := by
  obtain ⟨ws, h1, h2⟩ := h
  rw [← h1.tell h2]
  exact list_set w h1 hT

def NewFPost (n : Nat) (w : World) (e : Ending) (w' : World) : Prop :=
  ∃ s r, e = .returned (.pointer (some ⟨s, 0, none⟩)) ∧ SetF w.heap.size s r n (fun _ => false) w' ∧ Below w.heap.size w w'

theorem newF (n : Nat) (w : World) (h : n ≤ 1048576) : Calls Tryd.prog 16 #[.int .i64 n] w (NewFPost n w) := by
  refine (snew_nat n w h).mono ?_
  rintro e w' ⟨s, r, rfl, hs, hb, _, _⟩
  exact ⟨s, r, rfl, ⟨_, hs, fun j => bitAt_zero _ _⟩, hb⟩

theorem newF_neg (n : Int) (w : World) (h : n < 0) : Calls Tryd.prog 16 #[.int .i64 n] w (NewFPost 0 w) := by
  refine (snew_neg n w h).mono ?_
  rintro e w' ⟨s, r, rfl, hs, hb, _, _⟩
  exact ⟨s, r, rfl, ⟨_, hs, fun j => bitAt_zero _ _⟩, hb⟩

theorem below_own {a w w' : World} {g : Nat} (h : Below a.heap.size a w) (hg : w.grownBy w' (some g)) (hr : a.heap.size ≤ g) : Below a.heap.size a w' :=
  h.grown hg h.size (fun k hk => by cases hk; exact hr)

/-- A list that is told reads as a row. -/
theorem told_row {w : World} {base : Nat} {v : Value} {l : List Nat} (h : w.ownsRow base 3 1 v l.length (told l)) (hl : ∀ x ∈ l, x < 1048576) : ∃ a cap, v = .slice a l.length cap ∧ Row .i64 w a l.length cap (l.map fun x : Nat => (x : Int)) := by
  have e : told l = (l.map fun x : Nat => (x : Int)).map (Value.int .i64) := by simp [told]
  rw [e] at h
  refine row_of_owns h ?_
  intro x hx
  obtain ⟨y, hy, rfl⟩ := List.mem_map.1 hx
  have := hl y hy
  simp [Lit.wf, IntKind.min, IntKind.max, IntKind.signed, IntKind.bits]
  omega

theorem members_lt {f : Nat → Bool} {n : Nat} (h : n ≤ 1048576) : ∀ x ∈ members f n, x < 1048576 := fun x hx => Nat.lt_of_lt_of_le (List.mem_range.1 (List.mem_filter.1 hx).1) h

end Go.Proofs.YtpfpieakemnadaaDoor

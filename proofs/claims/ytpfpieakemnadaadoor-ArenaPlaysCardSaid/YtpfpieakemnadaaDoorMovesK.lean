/-
  What the laws on an arena share: words by their places, literal calls.
-/
import Derived.Test.YtpfpieakemnadaaDoorClear
namespace Go.Proofs.YtpfpieakemnadaaDoor
open Go.RowKit

theorem low6_i64 (a : Int) : bits BinOp.and IntKind.i64 a 63 = a % 64 := by
  have key : (BitVec.ofInt 64 a &&& BitVec.ofInt 64 63).toNat = (a % ((2 ^ 64 : Nat) : Int)).toNat % 2 ^ 6 := by
    have hm : BitVec.ofInt 64 63 = BitVec.ofNat 64 (2 ^ 6 - 1) := by decide
    rw [BitVec.toNat_and, hm, BitVec.toNat_ofNat, BitVec.toNat_ofInt, Nat.mod_eq_of_lt (by omega), Nat.and_two_pow_sub_one_eq_mod]
  show IntKind.i64.wrap ((BitVec.ofInt 64 a &&& BitVec.ofInt 64 63).toNat : Nat) = _
  rw [key, IntKind.wrap_i64]
  have e64 : (2 : Nat) ^ 64 = 18446744073709551616 := by decide
  have e6 : (2 : Nat) ^ 6 = 64 := by decide
  rw [e64, e6]
  omega

theorem AnF.congr {B b g n : Nat} {f f' : Nat → Int} {w : World} (h : AnF B b g n f w) (hf : ∀ j, j < n → f j = f' j) : AnF B b g n f' w := by
  obtain ⟨zs, hA, hz⟩ := h
  exact ⟨zs, hA, fun j hj => (hz j hj).trans (hf j hj)⟩

theorem AnF.blocks {B b g n : Nat} {f : Nat → Int} {w : World} (h : AnF B b g n f w) : b < w.heap.size ∧ g < w.heap.size := by
  obtain ⟨zs, hA, hz⟩ := h
  refine ⟨World.block_lt_of_cell? w ⟨b, 0, none⟩ hA.box, ?_⟩
  exact (Array.getElem?_eq_some_iff.1 hA.row).1

theorem AnF.below {B b g n M : Nat} {f : Nat → Int} {w w' : World} (h : AnF B b g n f w) (hb : Below M w w') (h1 : b < M) (h2 : g < M) : AnF B b g n f w' := h.kept (hb.block g h2) (hb.block b h1)

theorem new_300 (w : World) : Calls Tryd.prog 47 #[.int .i64 300] w (NewPost 300 w) := new_yes 300 w (by omega)

theorem loadI {B b g n : Nat} {f : Nat → Int} (I : Int) (i : Nat) (v : Int) (w : World) (h : AnF B b g n f w) (hI : I = i) (h1 : i < n) (hv : f i = v) :
    Calls Tryd.prog 54 #[.pointer (some ⟨b, 0, none⟩), .int .i64 I] w fun e w' => e = .returned (.tuple #[.int .i64 v, .bool true]) ∧ w = w' := by
  subst hI; subst hv
  exact loadF i w h h1

theorem storeI {B b g n : Nat} {f : Nat → Int} (I : Int) (i : Nat) (v : Int) (w : World) (h : AnF B b g n f w) (hI : I = i) (h1 : i < n) :
    Calls Tryd.prog 50 #[.pointer (some ⟨b, 0, none⟩), .int .i64 I, .int .i64 v] w (ArnPost B b g n (fun j => if j = i then v else f j) w) := by
  subst hI
  exact storeF i v w h h1

theorem copyI {B b g n : Nat} {f : Nat → Int} (T I M : Int) (tt fr m : Nat) (w : World) (h : AnF B b g n f w) (hT : T = tt) (hI : I = fr) (hM : M = m) (h1 : tt + m ≤ n) (h2 : fr + m ≤ n) :
    Calls Tryd.prog 51 #[.pointer (some ⟨b, 0, none⟩), .int .i64 T, .int .i64 I, .int .i64 M] w (ArnPost B b g n (fun j => if tt ≤ j ∧ j < tt + m then f (fr + (j - tt)) else f j) w) := by
  subst hT; subst hI; subst hM
  exact copyF tt fr m w h h1 h2

theorem copy_out {B b g : Nat} {f : Nat → Int} (w : World) (h : AnF B b g 300 f w) :
    Calls Tryd.prog 51 #[.pointer (some ⟨b, 0, none⟩), .int .i64 0, .int .i64 300, .int .i64 1] w fun e w' => e = .returned (.bool false) ∧ w = w' := by
  obtain ⟨zs, hA, _⟩ := h
  have hb := hA.box
  clear hA
  go_enter Tryd.func51, Tryd.ntmps51
  go_wp2
  go_ret
  exact ⟨rfl, rfl⟩

theorem clear_300 {B b g : Nat} {f : Nat → Int} (w : World) (h : AnF B b g 300 f w) :
    Calls Tryd.prog 53 #[.pointer (some ⟨b, 0, none⟩), .int .i64 0, .int .i64 300] w (ClearPost B b g 300 w) := clearF (n := 300) w h (by omega)

/-- What stands behind the first loop's k rounds. -/
def M1 (zs : List Int) (k : Nat) : Nat → Int := fun j => if 100 ≤ j ∧ j < 100 + k then zs.getD (j - 100) 0 else 0

theorem M1_next (zs : List Int) (k : Nat) (j : Nat) : (if j = 100 + k then zs.getD k 0 else M1 zs k j) = M1 zs (k + 1) j := by
  unfold M1
  by_cases h : j = 100 + k
  · subst h
    rw [if_pos rfl, if_pos ⟨by omega, by omega⟩]
    congr 1
    omega
  · rw [if_neg h]
    by_cases h2 : 100 ≤ j ∧ j < 100 + k
    · rw [if_pos h2, if_pos ⟨by omega, by omega⟩]
    · rw [if_neg h2, if_neg (by omega)]

def Rel1 (w : World) (b g len : Nat) (zs : List Int) (si : Value) (wr : World) : Prop :=
  ∃ i : Nat, i ≤ len ∧ si = .int .i64 i ∧ AnF w.heap.size b g 300 (M1 zs i) wr ∧ Below w.heap.size w wr

def M3 (zs : List Int) (len : Nat) (f : Nat → Int) : Prop := ∀ j, j < len → f j = zs.getD j 0 ∧ f (100 + j) = zs.getD j 0 ∧ f (200 + j) = zs.getD j 0

theorem M3_of (zs : List Int) (len : Nat) (h : len ≤ 100) :
    M3 zs len (fun j => if 0 ≤ j ∧ j < 0 + len then (fun j => if 200 ≤ j ∧ j < 200 + len then M1 zs len (100 + (j - 200)) else M1 zs len j) (200 + (j - 0)) else (fun j => if 200 ≤ j ∧ j < 200 + len then M1 zs len (100 + (j - 200)) else M1 zs len j) j) := by
  intro j hj
  unfold M1
  refine ⟨?_, ?_, ?_⟩
  · show (if 0 ≤ j ∧ j < 0 + len then (if 200 ≤ 200 + (j - 0) ∧ 200 + (j - 0) < 200 + len then (if 100 ≤ 100 + (200 + (j - 0) - 200) ∧ 100 + (200 + (j - 0) - 200) < 100 + len then zs.getD (100 + (200 + (j - 0) - 200) - 100) 0 else 0) else _) else _) = _
    rw [if_pos ⟨by omega, by omega⟩, if_pos ⟨by omega, by omega⟩, if_pos ⟨by omega, by omega⟩, show 100 + (200 + (j - 0) - 200) - 100 = j by omega]
  · show (if 0 ≤ 100 + j ∧ 100 + j < 0 + len then _ else (if 200 ≤ 100 + j ∧ 100 + j < 200 + len then _ else (if 100 ≤ 100 + j ∧ 100 + j < 100 + len then zs.getD (100 + j - 100) 0 else 0))) = _
    rw [if_neg (by omega), if_neg (by omega), if_pos ⟨by omega, by omega⟩, show 100 + j - 100 = j by omega]
  · show (if 0 ≤ 200 + j ∧ 200 + j < 0 + len then _ else (if 200 ≤ 200 + j ∧ 200 + j < 200 + len then (if 100 ≤ 100 + (200 + j - 200) ∧ 100 + (200 + j - 200) < 100 + len then zs.getD (100 + (200 + j - 200) - 100) 0 else 0) else _)) = _
    rw [if_neg (by omega), if_pos ⟨by omega, by omega⟩, if_pos ⟨by omega, by omega⟩, show 100 + (200 + j - 200) - 100 = j by omega]

theorem rep_get (n j : Nat) : (List.replicate n (0 : Int)).getD j 0 = 0 := by
  simp only [List.getD_eq_getElem?_getD, List.getElem?_replicate]
  split <;> rfl

def wasL (f : Nat → Int) (fr k : Nat) : List Int := (List.range k).map fun j => f (fr + j)
theorem wasL_len (f : Nat → Int) (fr k : Nat) : (wasL f fr k).length = k := by simp [wasL]
theorem wasL_next (f : Nat → Int) (fr k : Nat) : wasL f fr (k + 1) = wasL f fr k ++ [f (fr + k)] := by simp [wasL, List.range_succ]
theorem wasL_get (f : Nat → Int) (fr k j : Nat) (h : j < k) : (wasL f fr k).getD j 0 = f (fr + j) := by simp [wasL, List.getD, h]

def Rel3 (w : World) (base b g N fr : Nat) (f : Nat → Int) (sv si : Value) (wr : World) : Prop :=
  ∃ k : Nat, k ≤ N ∧ si = .int .i64 k ∧ wr.ownsRow base 2 1 sv k ((wasL f fr k).map (Value.int .i64)) ∧ AnF w.heap.size b g 300 f wr ∧ Below w.heap.size w wr ∧ base ≤ wr.heap.size

end Go.Proofs.YtpfpieakemnadaaDoor

/-
  The chapter's examples (the law's own 'first'): true.
-/
import Derived.Test.YtpfpieakemnadaaDoorSpc
namespace Go.Proofs.YtpfpieakemnadaaDoor
open Go.RowKit

def fill4 (k : Nat) : List Int := (List.range 4).map fun j => if j < k then (j : Int) + 1 else 0
theorem fill4_set (k : Nat) (h : k < 4) : (fill4 k).set k ((k : Int) + 1) = fill4 (k + 1) := by
  match k, h with
  | 0, _ => rfl
  | 1, _ => rfl
  | 2, _ => rfl
  | 3, _ => rfl
theorem fill4_0 : fill4 0 = List.replicate 4 0 := rfl

def FillRel (w : World) (b g : Nat) (si : Value) (wr : World) : Prop :=
  ∃ k : Nat, k ≤ 4 ∧ si = .int .i64 k ∧ An w.heap.size b g 4 (fill4 k) wr ∧ Below w.heap.size w wr

theorem new_4 (w : World) : Calls Tryd.prog 47 #[.int .i64 4] w (NewPost 4 w) := new_yes 4 w (by omega)

theorem copy_lit {B b g : Nat} (w : World) (h : An B b g 4 [1, 2, 3, 4] w) :
    Calls Tryd.prog 51 #[.pointer (some ⟨b, 0, none⟩), .int .i64 1, .int .i64 0, .int .i64 3] w (CopyPost B b g 4 [1, 1, 2, 3] w) := copy_yes 1 0 3 w h (by omega) (by omega)

theorem load_lit1 {B b g : Nat} (w : World) (h : An B b g 4 [1, 1, 2, 3] w) :
    Calls Tryd.prog 54 #[.pointer (some ⟨b, 0, none⟩), .int .i64 1] w fun e w' => e = .returned (.tuple #[.int .i64 1, .bool true]) ∧ w = w' := load_yes 1 w h (by omega)

theorem load_lit3 {B b g : Nat} (w : World) (h : An B b g 4 [1, 1, 2, 3] w) :
    Calls Tryd.prog 54 #[.pointer (some ⟨b, 0, none⟩), .int .i64 3] w fun e w' => e = .returned (.tuple #[.int .i64 3, .bool true]) ∧ w = w' := load_yes 3 w h (by omega)

theorem sp_new {B : Nat} (w : World) (f t p : Int) (h : B ≤ w.heap.size) : Sp B w.heap.size f t p (w.alloc (.cells #[.int .i64 f, .int .i64 t, .int .i64 p] 129)) := ⟨heap_alloc_new w _, h⟩

theorem take_lit1 {B s : Nat} (w : World) (h : Sp B s 2 5 2 w) :
    Calls Tryd.prog 80 #[.pointer (some ⟨s, 0, none⟩), .int .i64 2] w (TakePost B s 2 5 4 2 true w) := take_yes 2 w h (by omega) (by omega) (by omega) (by omega) (by omega)

theorem take_lit2 {B s : Nat} (w : World) (h : Sp B s 2 5 4 w) :
    Calls Tryd.prog 80 #[.pointer (some ⟨s, 0, none⟩), .int .i64 2] w (TakePost B s 2 5 4 0 false w) := take_no 2 w h (by omega) (by omega) (by omega) (by omega)

theorem below_grown {B : Nat} {a w w' : World} {g : Nat} (h : Below B a w) (hg : w.grownBy w' (some g)) (hB : B ≤ w.heap.size) (hr : B ≤ g) : Below B a w' :=
  Below.grown h hg hB (fun k hk => by cases hk; exact hr)

set_option maxRecDepth 100000 in
theorem afirst (w : World) : Calls Tryd.prog 46 #[] w (TruePost w) := by
  go_enter Tryd.func46, Tryd.ntmps46
  go_wp2_with (go_at_call 47; refine (new_4 _).mono ?_; rintro e w1 ⟨b, g, rfl, hb0, hb1, hA, hB⟩)
  go_loopw [3] (fun si wr => FillRel w b g si wr) (fun si _ => 4 - (intOf si).toNat)
  case atStart => exact ⟨0, by omega, rfl, hA, hB⟩
  case round =>
    obtain ⟨k, hk, rfl, hA', hB'⟩ := hrel
    have HA := Lib.hid hA'
    have HB := Lib.hid hB'
    clear hA' hB' hA hB
    by_cases hlt : k < 4
    · have t1 : decide ((k : Int) < 4) = true := by simp; omega
      go_wp2_with (go_at_call 50; refine (store_yes _ _ _ HA.out hlt).mono ?_; rintro e w2 ⟨rfl, hA2, hg2⟩)
      go_roundw
      case rel => exact ⟨k + 1, by omega, by go_num, by rw [← fill4_set k hlt]; exact hA2, below_grown HB.out hg2 HB.out.size HA.out.lo⟩
      case measure => simp [intOf]; omega
    · obtain rfl : k = 4 := by omega
      clear hlt hk
      have t1 : decide ((4 : Int) < 4) = false := by decide
      have h4 : An w.heap.size b g 4 [1, 2, 3, 4] wr := HA.out
      have H4 := Lib.hid h4
      clear h4
      go_wp2_with (go_at_call 51; refine (copy_lit _ H4.out).mono ?_; rintro e w3 ⟨rfl, hA3, hg3⟩)
      have H5 := Lib.hid hA3
      have G3 := Lib.hid hg3
      clear hA3 hg3
      go_wp2_with fail
      refine (load_lit1 _ H5.out).mono ?_
      rintro e w' ⟨rfl, rfl⟩
      go_wp2_with fail
      refine (load_lit3 _ H5.out).mono ?_
      rintro e w' ⟨rfl, rfl⟩
      go_wp2_with fail
      refine (take_lit1 _ (sp_new w3 2 5 2 (Nat.le_trans HB.out.size G3.out.size))).mono ?_
      rintro e w4 ⟨rfl, hS4, hg4⟩
      have S4 := Lib.hid hS4
      have B3 := below_grown HB.out G3.out HB.out.size H4.out.lo
      have B4 : Hid (Below w.heap.size w w4) := Lib.hid (below_grown (B3.alloc B3.size _) hg4 (by simp; exact Nat.le_succ_of_le B3.size) B3.size)
      clear hS4 hg4 B3
      go_wp2_with fail
      refine (take_lit2 _ S4.out).mono ?_
      rintro e w5 ⟨rfl, hS5, hg5⟩
      have G5 := Lib.hid hg5
      clear hS5 hg5
      go_wp2
      go_ret
      exact ⟨rfl, below_grown B4.out G5.out B4.out.size S4.out.lo⟩
end Go.Proofs.YtpfpieakemnadaaDoor

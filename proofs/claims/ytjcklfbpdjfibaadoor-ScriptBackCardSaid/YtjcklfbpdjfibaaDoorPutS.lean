/-
  word.Put: what it answers is a new slice of the bytes that were handed in, and the number's groups behind them.
-/
import Derived.Test.YtjcklfbpdjfibaaDoorProg
import Derived.Test.YtjcklfbpdjfibaaDoorMem
import Derived.OwnWalk
import Derived.Maps.RangeWalk
import Derived.Lib.Hide
import Derived.Laws.BitsAllLaws
import Derived.Outline
namespace Go.Proofs.YtjcklfbpdjfibaaDoor
open Go.RowKit

/-- The groups of seven bits of a number, the lowest first. -/
def encF : Nat → Nat → List Nat
  | 0, u => [u]
  | f + 1, u => if u < 128 then [u] else (u % 128 + 128) :: encF f (u / 128)

theorem info5 : (Tryd.prog.info? 5).map (fun i => (i.zero, i.size, i.bytes)) = some (some (.int .u8 0), 1, 1) := by kernel_rfl

theorem or128 (c : Nat) : bits BinOp.or IntKind.u8 ((c : Int) % 256) 128 = (c : Int) % 128 + 128 := by
  have h : (c : Int) % 256 = ((c % 256 : Nat) : Int) := by omega
  rw [h, show (128 : Int) = ((128 : Nat) : Int) from rfl, u8_or_nat (c % 256) 128 (by omega) (by omega)]
  have k : ∀ x : Nat, x < 256 → x ||| 128 = x % 128 + 128 := by decide +kernel
  rw [k _ (by omega)]
  omega

theorem pow_le9 (k : Nat) (hk : k ≤ 9) : k = 0 ∨ k = 1 ∨ k = 2 ∨ k = 3 ∨ k = 4 ∨ k = 5 ∨ k = 6 ∨ k = 7 ∨ k = 8 ∨ k = 9 := by omega

theorem put_step (k c : Nat) (hk : k ≤ 9) (h : c < 2 ^ (64 - 7 * k)) (h128 : 128 ≤ c) : k < 9 ∧ c / 128 < 2 ^ (64 - 7 * (k + 1)) := by
  rcases pow_le9 k hk with rfl | rfl | rfl | rfl | rfl | rfl | rfl | rfl | rfl | rfl <;> simp at h ⊢ <;> omega

theorem enc_step (k c : Nat) (hk : k < 9) (h : 128 ≤ c) : [c % 128 + 128] ++ encF (9 - (k + 1)) (c / 128) = encF (9 - k) c := by
  rw [show 9 - k = (9 - (k + 1)) + 1 from by omega, encF, if_neg (by omega)]
  rfl

theorem enc_end (k c : Nat) (h : ¬ 128 ≤ c) : encF k c = [c] := by
  cases k with
  | zero => rfl
  | succ k => rw [encF, if_pos (by omega)]

/-- What holds at the head of Put's loop, k groups having been put. -/
def PutRel (w : World) (len : Nat) (zs : List Int) (u : Nat) (su so : Value) (wr : World) : Prop :=
  ∃ (k c : Nat) (xs : List Nat), k ≤ 9 ∧ su = .int .u64 c ∧ so = .slice (some ⟨w.heap.size, 0, none⟩) (len + k) (len + 10) ∧
      wr.ownsRow w.heap.size 5 1 (.slice (some ⟨w.heap.size, 0, none⟩) (len + k) (len + 10)) (len + k) (zs.map (Value.int .u8) ++ xs.map (fun (n : Nat) => Value.int .u8 n)) ∧ xs ++ encF (9 - k) c = encF 9 u ∧ c < 2 ^ (64 - 7 * k) ∧ Below w.heap.size w wr

/-- What Put answers. -/
def PutPost (w : World) (zs : List Int) (u : Nat) (e : Ending) (w' : World) : Prop :=
  ∃ v m, e = .returned v ∧ w'.ownsRow w.heap.size 5 1 v m (zs.map (Value.int .u8) ++ (encF 9 u).map (fun (n : Nat) => Value.int .u8 n)) ∧ Below w.heap.size w w'

set_option maxRecDepth 100000 in
theorem put_any (b : Option Addr) (len cap : Nat) (zs : List Int) (u : Nat) (w : World) (hb : Row .u8 w b len cap zs) (hreach : len ≤ 140737488351232) (hu : u < 18446744073709551616) :
    Calls Tryd.prog 115 #[.slice b len cap, .int .u64 u] w (PutPost w zs u) := by
  obtain ⟨i0, hi, hz0, hz1, hz2⟩ := info_parts info5
  have hsz : (Tryd.prog.info? 5).map (·.size) = some 1 := by rw [hi]; simp [hz1]
  go_enter Tryd.func115, Tryd.ntmps115
  have hmax : len + 10 ≤ maxLen := by unfold maxLen; omega
  have hml : (zs.map (Value.int .u8)).length = len := by simp [hb.len_eq]
  have hsrc : ∀ (w1 : World), w.grownBy w1 none → ∀ ad, b = some ad → ∀ j v, (zs.map (Value.int .u8))[j]? = some v → w1.cell? (ad.add j) = some v := by
    intro w1 hg ad had j v hj
    have hjl : j < len := by rw [← hml]; exact (List.getElem?_eq_some_iff.1 hj).1
    have hc := hb.cells ad had j hjl
    rw [List.getElem?_map] at hj
    have hz : zs[j]? = some (zs.getD j 0) := by rw [List.getD_eq_getElem?_getD]; rw [List.getElem?_eq_getElem (by rw [hb.len_eq]; exact hjl)]; rfl
    rw [hz] at hj
    simp at hj
    subst hj
    exact hg.cell (by simpa using hc) (by simp)
  have hone : ∀ v ∈ zs.map (Value.int .u8), v.oneCell' = true := ints_oneCell .u8 zs
  have hnone : b = none → len = 0 := fun h => by have := hb.nil h; have := hb.le; omega
  go_wp2_with (first
    | (at_make; refine wpList_make_len _ rfl (.tmp 7) (.tmp 10) 78 rfl w.heap.size 5 i0 (.int .u8 0) 1 Tryd.underlying78 hi hz0 hz1 hz2 rfl .i64 .i64 _ _ len (len + 10) rfl rfl (by simp) (by simp) (by omega) (by omega) hmax (Nat.le_refl _) ?_; intro w1 hown1 hgrow1)
    | (with_reducible refine wpList_copy_row (o := ⟨some 14, _, _, _, _, _⟩) rfl (.tmp 12) (.tmp 13) 78 78 rfl 5 Tryd.underlying78 hsz w.heap.size w.heap.size len (len + 10) _ hown1 b len cap rfl rfl (zs.map (Value.int .u8)) (by simp [hb.len_eq]) hnone (hsrc _ hgrow1) hone ?_; intro w2 hown2 hgrow2))
  go_frame
  rw [hml]
  simp only [goInt]
  go_loopw [1, 5] (fun su so wr => PutRel w len zs u su so wr)
    (fun su _ _ => (intOf su).toNat)
  case atStart => exact ⟨0, u, [], by omega, rfl, rfl, by simpa [hb.len_eq] using hown2, by simp, by simpa using hu, ((Below.refl _ _).grown hgrow1 (Nat.le_refl _) (fun k h => by cases h)).grown hgrow2 hgrow1.size (fun k h => by cases h; exact Nat.le_refl _)⟩
  case round =>
    obtain ⟨k, c, xs, hk, rfl, rfl, hown, henc, hc, hbel⟩ := hrel
    clear hown1 hgrow1 hown2 hgrow2 hsrc hone hnone hmax
    have hsz' : w.heap.size ≤ wr.heap.size := hbel.size
    have he : bits BinOp.or IntKind.u8 ((c : Int) % 256) 128 = (c : Int) % 128 + 128 := or128 c
    have HC := Lib.hid hc
    have HU := Lib.hid hu
    have HE := Lib.hid henc
    clear hc hu henc hml
    by_cases h128 : 128 ≤ c
    · have hd : decide ((128 : Int) ≤ (c : Int)) = true := by simp; omega
      have hk9 : k < 9 := (put_step k c hk HC.out h128).1
      go_wp2_with (at_builtin; refine wpList_append_fits _ rfl (.tmp 17) (.tmp 21) 78 rfl w.heap.size 5 i0 1 Tryd.underlying78 hi hz1 w.heap.size (len + k) (len + 10) _ rfl (hown.alloc _) ⟨wr.heap.size, 0, none⟩ 1 1 [.int .u8 ((c : Int) % 128 + 128)] rfl rfl (by intro t u ht; match t, ht with | 0, ht => simp at ht; subst ht; simp [Addr.add]) (by intro u hu; simp at hu; subst hu; rfl) (by omega) ?_; intro w1 hown1 hgrow1)
      have R : PutRel w len zs u (.int .u64 ((c / 128 : Nat) : Int)) (.slice (some ⟨w.heap.size, 0, none⟩) (len + (k + 1)) (len + 10)) w1 := ⟨k + 1, c / 128, xs ++ [c % 128 + 128], by omega, rfl, rfl, by simpa [Nat.add_assoc] using hown1, by rw [← HE.out, List.append_assoc]; congr 1; exact enc_step k c hk9 h128, (put_step k c hk HC.out h128).2, (hbel.alloc hsz' _).grown hgrow1 (by simp; omega) (fun k hk => by cases hk; exact Nat.le_refl _)⟩
      go_wp2
      go_roundw
      case rel => exact R
      case measure => simp [intOf]; omega
    · have hd : decide ((128 : Int) ≤ (c : Int)) = false := by simp; omega
      have hcc : (c : Int) % 256 = (c : Int) := by omega
      go_wp2_with (at_builtin; refine wpList_append_fits _ rfl (.tmp 25) (.tmp 28) 78 rfl w.heap.size 5 i0 1 Tryd.underlying78 hi hz1 w.heap.size (len + k) (len + 10) _ rfl (hown.alloc _) ⟨wr.heap.size, 0, none⟩ 1 1 [.int .u8 (c : Int)] rfl rfl (by intro t u ht; match t, ht with | 0, ht => simp at ht; subst ht; simp [Addr.add]) (by intro u hu; simp at hu; subst hu; rfl) (by omega) ?_; intro w1 hown1 hgrow1)
      go_ret
      refine ⟨.slice (some ⟨w.heap.size, 0, none⟩) (len + k + 1) (len + 10), len + k + 1, rfl, ?_, (hbel.alloc hsz' _).grown hgrow1 (by simp; omega) (fun k hk => by cases hk; exact Nat.le_refl _)⟩
      have e : encF 9 u = xs ++ [c] := by rw [← HE.out, enc_end (9 - k) c h128]
      rw [e]
      simpa using hown1
end Go.Proofs.YtjcklfbpdjfibaaDoor

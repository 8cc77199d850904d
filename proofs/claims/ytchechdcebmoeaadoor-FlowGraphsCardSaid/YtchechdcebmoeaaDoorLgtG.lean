/-
  Chapter 5's light: is a graph small?
-/
import Derived.Test.YtchechdcebmoeaaDoorGrfT
import Derived.Test.YtchechdcebmoeaaDoorChnP
namespace Go.Proofs.YtchechdcebmoeaaDoor
open Go.RowKit

def sumD (g : List (List Int)) : Nat → Nat
  | 0 => 0
  | i + 1 => sumD g i + degW g i
theorem sumD_le (g : List (List Int)) {D : Nat} (h : ∀ v, degW g v ≤ D) : ∀ i, sumD g i ≤ i * D
  | 0 => by simp [sumD]
  | i + 1 => by unfold sumD; have := sumD_le g h i; have := h i; rw [Nat.succ_mul]; omega
theorem deg_sum (g : List (List Int)) {v : Nat} : ∀ n, v < n → degW g v ≤ sumD g n
  | 0, h => absurd h (Nat.not_lt_zero _)
  | n + 1, h => by
    unfold sumD
    by_cases e : v = n
    · subst e; omega
    · have := deg_sum g (v := v) n (by omega); omega
theorem deg_out (g : List (List Int)) {v : Nat} (h : g.length ≤ v) : degW g v = 0 := by unfold degW; simp [List.getD, h]
theorem rest_sum (g : List (List Int)) (S : Nat → Nat) : ∀ n, restW g S n ≤ sumD g n + 2 * n
  | 0 => by simp [restW]
  | n + 1 => by
    unfold restW sumD
    have := rest_sum g S n
    split <;> omega

/-- A small graph. -/
structure Small (g : List (List Int)) : Prop where
  len : g.length ≤ 60
  sum : sumD g g.length ≤ 400
theorem Small.deg {g : List (List Int)} (h : Small g) (v : Nat) : degW g v ≤ 400 := by
  by_cases hv : v < g.length
  · have := deg_sum g (v := v) g.length hv; have := h.sum; omega
  · rw [deg_out g (by omega)]; omega
theorem Small.mu {g : List (List Int)} (h : Small g) : muW g beginW + 1 ≤ 1000 := by
  unfold muW
  have h1 := rest_sum g beginW.st g.length
  have h2 := h.deg 0
  have h3 : pathW g beginW.path = degW g 0 + 1 := by simp [beginW, pathW]
  have := h.len
  have := h.sum
  omega

def LgtRel (g : List (List Int)) (n : Nat) (w : World) (s3 s4 : Value) (wr : World) : Prop :=
  ∃ i : Nat, i ≤ n ∧ i ≤ 61 ∧ s4 = .int .i64 i ∧ s3 = .int .i64 (sumD g i : Nat) ∧ wr = w

def LgtPost (g : List (List Int)) (w : World) (e : Ending) (w' : World) : Prop := ∃ d : Bool, e = .returned (.bool d) ∧ w = w' ∧ (d = true → Small g)

set_option maxHeartbeats 2000000 in
set_option maxRecDepth 100000 in
theorem lightG_any (a : Option Addr) (len cap : Nat) (g : List (List Int)) (w : World) (hg : Grfs w a len cap g) :
    Calls Tryd.prog 47 #[.slice a len cap] w (LgtPost g w) := by
  have hle := hg.grf.le
  have hmax := hg.grf.max
  unfold maxLen at hmax
  have HG := Lib.hid hg
  have R0 : Hid (LgtRel g len w (.int .i64 0) (.int .i64 0) w) := Lib.hid ⟨0, Nat.zero_le _, by omega, rfl, rfl, rfl⟩
  clear hg
  go_enter Tryd.func47, Tryd.ntmps47
  go_wp2_with fail
  go_loopw [3, 4] (fun s3 s4 wr => LgtRel g len w s3 s4 wr) (fun _ s4 _ => 61 - (intOf s4).toNat)
  case atStart => exact R0.out
  case round =>
    clear R0
    obtain ⟨i, hi, hi2, rfl, rfl, rfl⟩ := hrel
    have hsl := sumD_le g HG.out.size i
    have hsb : sumD g i ≤ 1100000000000000 := Nat.le_trans hsl (Nat.le_trans (Nat.mul_le_mul_right _ hi2) (by decide))
    clear hsl
    by_cases hlt : i < len
    · have t1 : decide ((i : Int) < len) = true := by simp; omega
      have t1' : decide (i < len) = true := by simpa using hlt
      by_cases h60 : i ≤ 60
      · have t2 : decide ((i : Int) ≤ 60) = true := by simp; omega
        have t2' : decide (i ≤ 60) = true := by simpa using h60
        obtain ⟨gb, go, rfl, _, hgc⟩ := HG.out.grf.at_ (by omega)
        obtain ⟨ra, rc, cg, _⟩ := hgc i hlt
        have hdg := HG.out.size i
        have HS : Hid (sumD g (i + 1) = sumD g i + degW g i) := Lib.hid rfl
        clear hgc
        generalize sumD g i = S at *
        generalize degW g i = D at *
        go_wp2_with fail
        go_roundw
        case rel => exact ⟨i + 1, by omega, by omega, by go_num, by rw [HS.out]; go_num, rfl⟩
        case measure => simp [intOf]; omega
      · have t2 : decide ((i : Int) ≤ 60) = false := by simp; omega
        have t2' : decide (i ≤ 60) = false := by simpa using h60
        have t3 : decide ((len : Int) ≤ 60) = false := by simp; omega
        have t3' : decide (len ≤ 60) = false := by simp; omega
        go_wp2_with fail
        go_ret
        exact ⟨false, rfl, rfl, fun h => by cases h⟩
    · obtain rfl : len = i := by omega
      have t1 : decide ((len : Int) < len) = false := by simp
      have t1' : decide (len < len) = false := by simp
      by_cases h60 : len ≤ 60
      · have t3 : decide ((len : Int) ≤ 60) = true := by simp; omega
        have t3' : decide (len ≤ 60) = true := by simpa using h60
        obtain ⟨d, hd⟩ : ∃ d, decide ((sumD g len : Int) ≤ 400) = d := ⟨_, rfl⟩
        have hd2 : decide (sumD g len ≤ 400) = d := by rw [← hd]; congr 1; rw [eq_iff_iff]; omega
        have FIN : Hid (d = true → Small g) := Lib.hid fun h => by
          rw [h] at hd2
          exact ⟨by rw [HG.out.grf.len_eq]; exact h60, by rw [HG.out.grf.len_eq]; simpa using hd2⟩
        generalize sumD g len = S at *
        go_wp2_with fail
        go_ret
        exact ⟨d, rfl, rfl, FIN.out⟩
      · have t3 : decide ((len : Int) ≤ 60) = false := by simp; omega
        have t3' : decide (len ≤ 60) = false := by simpa using h60
        go_wp2_with fail
        go_ret
        exact ⟨false, rfl, rfl, fun h => by cases h⟩

end Go.Proofs.YtchechdcebmoeaaDoor

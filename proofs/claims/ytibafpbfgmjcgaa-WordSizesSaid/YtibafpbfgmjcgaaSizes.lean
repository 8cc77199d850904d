/-
  WordSizes, walked: it returns true, and writes nothing that was there.
-/
import Derived.Test.YtibafpbfgmjcgaaBack
import Derived.Test.YtibafpbfgmjcgaaShifts
import Derived.WalkLawsBesides
namespace Go.Proofs.Ytibafpbfgmjcgaa
open Go.RowKit

/-- What holds at the head of the loop that counts the groups. -/
def SizeRel (u : Nat) (ss sx : Value) : Prop :=
  ∃ k c : Nat, ss = .int .i64 ((k + 1 : Nat) : Int) ∧ sx = .int .u64 c ∧ c < 2 ^ (64 - 7 * (k + 1)) ∧ k ≤ 9 ∧ (0 < c → k ≤ 8) ∧ (encF 9 u).length = k + 1 + (if c = 0 then 0 else (encF (8 - k) c).length)

theorem size_start (u : Nat) (hu : u < 18446744073709551616) : SizeRel u (.int .i64 1) (.int .u64 ((u : Int) / 128)) := by
  refine ⟨0, u / 128, rfl, rfl, by simp; omega, by omega, by omega, ?_⟩
  rw [encF]
  by_cases h : u < 128
  · rw [if_pos h, if_pos (by omega)]; rfl
  · rw [if_neg h, if_neg (by omega), show 8 - 0 = 8 from rfl]; simp only [List.length_cons]; omega

theorem size_next (u k c : Nat) (hc : 0 < c) (hb : c < 2 ^ (64 - 7 * (k + 1))) (hk : 0 < c → k ≤ 8) (hl : (encF 9 u).length = k + 1 + (if c = 0 then 0 else (encF (8 - k) c).length)) :
    SizeRel u (.int .i64 ((k : Int) + 1 + 1)) (.int .u64 ((c : Int) / 128)) := by
  have hk8 := hk hc
  have hb' : k + 1 ≤ 9 := by omega
  refine ⟨k + 1, c / 128, rfl, rfl, ?_, by omega, fun h => ?_, ?_⟩
  · rcases pow_le9 (k + 1) hb' with e | e | e | e | e | e | e | e | e | e <;> (rw [e] at hb ⊢; simp at hb ⊢; omega)
  · by_cases h9 : k = 8
    · subst h9; simp at hb; omega
    · omega
  · rw [hl, if_neg (by omega)]
    by_cases h9 : k = 8
    · subst h9
      have : c < 2 := by simpa using hb
      rw [if_pos (by omega)]; rfl
    · rw [show 8 - k = (8 - (k + 1)) + 1 by omega, encF]
      by_cases h : c < 128
      · rw [if_pos h, if_pos (by omega)]; rfl
      · rw [if_neg h, if_neg (by omega)]; simp only [List.length_cons]; omega

theorem enc_mono : ∀ (f c d : Nat), c ≤ d → (encF f c).length ≤ (encF f d).length := by
  intro f
  induction f with
  | zero => intro c d _; simp [encF]
  | succ f ih =>
    intro c d h
    rw [encF, encF]
    by_cases hc : c < 128
    · rw [if_pos hc]
      split <;> simp
    · rw [if_neg hc, if_neg (by omega)]
      simp only [List.length_cons]
      have := ih (c / 128) (d / 128) (by omega)
      omega

theorem neg_next (n : Int) (n0 : -9223372036854775808 ≤ n) (n1 : n ≤ 9223372036854775807) : wrap64 (-wrap64 (n + 1)) = -n - 1 := by unfold wrap64; omega

theorem twice_next (x : Int) (h0 : 0 ≤ x) (h1 : x ≤ 9223372036854775807) : IntKind.u64.wrap (IntKind.u64.wrap (2 * IntKind.u64.wrap x) + 1) = 2 * x + 1 := by
  simp only [IntKind.wrap_u64]; omega

theorem zig_bit (n : Int) (n0 : -9223372036854775808 ≤ n) (n1 : n ≤ 9223372036854775807) : bits BinOp.and IntKind.u64 (zig n) 1 = IntKind.u64.wrap (two 19 n 0).1 := by
  rw [and1_u64 _ (zig_range n n0 n1).1 (zig_range n n0 n1).2, lt_def, IntKind.wrap_u64]
  unfold zig
  by_cases h : 0 ≤ n
  · rw [if_pos h, if_neg (by omega)]; omega
  · rw [if_neg h, if_pos (by omega)]; omega

set_option maxRecDepth 100000 in
set_option maxHeartbeats 1000000 in
theorem sizes_walk (u v : Nat) (n x m T : Int) (w : World) (u1 : u < 18446744073709551616) (v1 : v < 18446744073709551616) (n0 : -9223372036854775808 ≤ n) (n1 : n ≤ 9223372036854775807)
    (kM : wrap64 (-wrap64 (n + 1)) = m) (hx : (m ≤ n ∧ x = n) ∨ (n < m ∧ x = m)) (kT : IntKind.u64.wrap (IntKind.u64.wrap (2 * IntKind.u64.wrap x) + 1) = T) (gz : zig n ≤ T) :
    Calls Try.prog 8 #[.int .u64 u, .int .u64 v, .int .i64 n] w (TruePost w) := by
  have k1 : bits BinOp.and IntKind.u64 (zig n) 1 = IntKind.u64.wrap (two 19 n 0).1 := zig_bit n n0 n1
  have gz' : decide (zig n ≤ T) = true := by simpa using gz
  have HU := Lib.hid u1
  have HV := Lib.hid v1
  have HN := Lib.hid (And.intro n0 n1)
  have HG := Lib.hid gz
  have HXX := Lib.hid hx
  have HM := Lib.hid kM
  have HT := Lib.hid kT
  have H1 := Lib.hid k1
  clear u1 v1 n0 n1 gz hx kM kT k1
  go_enter Try.func8, Try.ntmps8
  go_wp2_with (go_at_call 10; refine (first_any _).mono ?_; rintro e w1 ⟨rfl, hb1⟩)
  go_loop [8, 9] (fun ss sx => SizeRel u ss sx) (fun _ sx => (intOf sx).toNat)
  case atStart => exact size_start u HU.out
  case round =>
    obtain ⟨k, c, rfl, rfl, hcb, hk9, hk8, hl⟩ := hrel
    by_cases hc : 0 < c
    · have HB := Lib.hid hcb
      have HL := Lib.hid hl
      have HK := Lib.hid hk8
      clear hcb hl hk8
      go_wp2
      go_round
      case rel => exact size_next u k c hc HB.out HK.out HL.out
      case measure => simp [intOf]; omega
    · obtain rfl : c = 0 := by omega
      have hl' : (encF 9 u).length = k + 1 := by rw [hl]; rfl
      have HL := Lib.hid hl'
      clear hc hcb hl hl' hk8
      go_wp2_with fail
      refine (put_row none 0 0 [] u _ (row_nil _ _) (by omega) HU.out).mono ?_
      rintro e w2 ⟨ua, um, ucap, rfl, hq, hqa, hb2⟩
      have hum : um = k + 1 := by rw [← hq.len_eq, ← HL.out]; simp
      subst hum
      clear hq hqa
      go_wp2_with fail
      refine (put_row none 0 0 [] v _ (row_nil _ _) (by omega) HV.out).mono ?_
      rintro e w3 ⟨va, vm, vcap, rfl, hq, hqa, hb3⟩
      have hvm : vm = (encF 9 v).length := by rw [← hq.len_eq]; simp
      have hbel : Below w.heap.size w w3 := (hb1.trans (hb2.mono hb1.size)).trans (hb3.mono (Nat.le_trans hb1.size hb2.size))
      have HBE := Lib.hid hbel
      have o1 : u ≤ v → k + 1 ≤ vm := fun h => by rw [hvm, ← HL.out]; exact enc_mono 9 u v h
      have o2 : v ≤ u → vm ≤ k + 1 := fun h => by rw [hvm, ← HL.out]; exact enc_mono 9 v u h
      clear hq hqa hb1 hb2 hb3 hbel hvm
      go_wp2_with fail
      refine (zig_any n _ HN.out.1 HN.out.2).mono ?_
      rintro e w' ⟨rfl, rfl⟩
      have kM := HM.out
      have kT := HT.out
      have k1 := H1.out
      have fin : (u < v ∧ k + 1 ≤ vm) ∨ (v < u ∧ vm ≤ k + 1) ∨ (u = v ∧ vm = k + 1) := by
        rcases Nat.lt_trichotomy u v with h | h | h
        · exact .inl ⟨h, o1 (by omega)⟩
        · exact .inr (.inr ⟨h, by have := o1 (by omega); have := o2 (by omega); omega⟩)
        · exact .inr (.inl ⟨h, o2 (by omega)⟩)
      clear o1 o2
      rcases HXX.out with ⟨hmn, hx⟩ | ⟨hmn, hx⟩
      · subst hx
        rcases fin with ⟨h1, h2⟩ | ⟨h1, h2⟩ | ⟨h1, h2⟩
        · go_wp2_with (go_at_call 26; refine (func2_any _ _ _ _).mono ?_; rintro e w' ⟨rfl, rfl⟩)
          go_ret
          exact ⟨by simp; omega, HBE.out⟩
        · go_wp2_with (go_at_call 26; refine (func2_any _ _ _ _).mono ?_; rintro e w' ⟨rfl, rfl⟩)
          go_ret
          exact ⟨by simp; omega, HBE.out⟩
        · subst h1 h2
          go_wp2_with (go_at_call 26; refine (func2_any _ _ _ _).mono ?_; rintro e w' ⟨rfl, rfl⟩)
          go_ret
          exact ⟨by simp, HBE.out⟩
      · subst hx
        rcases fin with ⟨h1, h2⟩ | ⟨h1, h2⟩ | ⟨h1, h2⟩
        · go_wp2_with (go_at_call 26; refine (func2_any _ _ _ _).mono ?_; rintro e w' ⟨rfl, rfl⟩)
          go_ret
          exact ⟨by simp; omega, HBE.out⟩
        · go_wp2_with (go_at_call 26; refine (func2_any _ _ _ _).mono ?_; rintro e w' ⟨rfl, rfl⟩)
          go_ret
          exact ⟨by simp; omega, HBE.out⟩
        · subst h1 h2
          go_wp2_with (go_at_call 26; refine (func2_any _ _ _ _).mono ?_; rintro e w' ⟨rfl, rfl⟩)
          go_ret
          exact ⟨by simp, HBE.out⟩

theorem sizes_law (u v n : Int) (w : World) (hu : (Lit.int .u64 u).wf = true) (hv : (Lit.int .u64 v).wf = true) (hn : (Lit.int .i64 n).wf = true) :
    Calls Try.prog 8 #[.int .u64 u, .int .u64 v, .int .i64 n] w (TruePost w) := by
  obtain ⟨u0, u1⟩ := wf_u64 hu
  obtain ⟨v0, v1⟩ := wf_u64 hv
  obtain ⟨n0, n1⟩ := wf_i64 hn
  obtain ⟨u, rfl⟩ := Int.eq_ofNat_of_zero_le u0
  obtain ⟨v, rfl⟩ := Int.eq_ofNat_of_zero_le v0
  have hM := neg_next n n0 n1
  by_cases h : 0 ≤ n
  · exact sizes_walk u v n n (-n - 1) (2 * n + 1) w (by omega) (by omega) n0 n1 hM (.inl ⟨by omega, rfl⟩) (twice_next n h n1) (by unfold zig; rw [if_pos h]; omega)
  · exact sizes_walk u v n (-n - 1) (-n - 1) (2 * (-n - 1) + 1) w (by omega) (by omega) n0 n1 hM (.inr ⟨by omega, rfl⟩) (twice_next _ (by omega) (by omega)) (by unfold zig; rw [if_neg h]; omega)
end Go.Proofs.Ytibafpbfgmjcgaa

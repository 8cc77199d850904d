/-
  How many are in: bits.OnesCount64 and the set's Len.
-/
import Derived.Test.YtpfpieakemnadaaDoorSet
import Derived.Laws.BitsAllLaws
namespace Go.Proofs.YtpfpieakemnadaaDoor
open Go.RowKit

theorem low7_i64 (a : Int) : bits BinOp.and IntKind.i64 a 127 = a % 128 := by
  have key : (BitVec.ofInt 64 a &&& BitVec.ofInt 64 127).toNat = (a % ((2 ^ 64 : Nat) : Int)).toNat % 2 ^ 7 := by
    have hm : BitVec.ofInt 64 127 = BitVec.ofNat 64 (2 ^ 7 - 1) := by decide
    rw [BitVec.toNat_and, hm, BitVec.toNat_ofNat, BitVec.toNat_ofInt, Nat.mod_eq_of_lt (by omega), Nat.and_two_pow_sub_one_eq_mod]
  show IntKind.i64.wrap ((BitVec.ofInt 64 a &&& BitVec.ofInt 64 127).toNat : Nat) = _
  rw [key, IntKind.wrap_i64]
  have e64 : (2 : Nat) ^ 64 = 18446744073709551616 := by decide
  have e10 : (2 : Nat) ^ 7 = 128 := by decide
  rw [e64, e10]
  omega

/-- The number of bits set in all the words. -/
def sumBits (ws : List Nat) : Nat := (ws.map fun x => (bitsOf x).length).sum

theorem ones_parts (x : Nat) (hx : x < 18446744073709551616) :
    ∃ y z u v t : Nat, y < 18446744073709551616 ∧ z < 18446744073709551616 ∧ u < 18446744073709551616 ∧ v < 18446744073709551616 ∧ t < 18446744073709551616 ∧
      (x / 2 &&& 6148914691236517205) + (x &&& 6148914691236517205) = y ∧ (y / 4 &&& 3689348814741910323) + (y &&& 3689348814741910323) = z ∧
      z / 16 + z < 18446744073709551616 ∧ (z / 16 + z) &&& 1085102592571150095 = u ∧ u + u / 256 = v ∧ v + v / 65536 = t ∧ t + t / 4294967296 < 18446744073709551616 ∧
      (t + t / 4294967296) % 128 = (bitsOf x).length ∧ (bitsOf x).length ≤ 64 := by
  have m1 : mask 0x55 (bytes8 x).length = 6148914691236517205 := by show mask 0x55 8 = _; decide
  have m2 : mask 0x33 (bytes8 x).length = 3689348814741910323 := by show mask 0x33 8 = _; decide
  have m3 : mask 0x0f (bytes8 x).length = 1085102592571150095 := by show mask 0x0f 8 = _; decide
  have hf := fields (bytes8 x) (bytes8_lt x) _ _ rfl rfl
  rw [bytes8_val x hx, m1, m2, m3] at hf
  obtain ⟨y, hy⟩ : ∃ y, (x / 2 &&& 6148914691236517205) + (x &&& 6148914691236517205) = y := ⟨_, rfl⟩
  rw [hy] at hf
  obtain ⟨z, hz⟩ : ∃ z, (y / 4 &&& 3689348814741910323) + (y &&& 3689348814741910323) = z := ⟨_, rfl⟩
  rw [hz] at hf
  have y1 : x / 2 &&& 6148914691236517205 ≤ 6148914691236517205 := Nat.and_le_right
  have y2 : x &&& 6148914691236517205 ≤ 6148914691236517205 := Nat.and_le_right
  have z1 : y / 4 &&& 3689348814741910323 ≤ 3689348814741910323 := Nat.and_le_right
  have z2 : y &&& 3689348814741910323 ≤ 3689348814741910323 := Nat.and_le_right
  obtain ⟨u, hu⟩ : ∃ u, (z / 16 + z) &&& 1085102592571150095 = u := ⟨_, rfl⟩
  have u1 : u ≤ 1085102592571150095 := by rw [← hu]; exact Nat.and_le_right
  rw [hu] at hf
  have hb := bytes8_lt x
  have e8 : (bytes8 x).map pop = [pop (x % 256), pop (x / 256 % 256), pop (x / 65536 % 256), pop (x / 16777216 % 256), pop (x / 4294967296 % 256), pop (x / 1099511627776 % 256), pop (x / 281474976710656 % 256), pop (x / 72057594037927936 % 256)] := rfl
  have hsum := bitsOf_bytes x
  rw [e8] at hf hsum
  have p0 := pop_le (x % 256) (by omega)
  have p1 := pop_le (x / 256 % 256) (by omega)
  have p2 := pop_le (x / 65536 % 256) (by omega)
  have p3 := pop_le (x / 16777216 % 256) (by omega)
  have p4 := pop_le (x / 4294967296 % 256) (by omega)
  have p5 := pop_le (x / 1099511627776 % 256) (by omega)
  have p6 := pop_le (x / 281474976710656 % 256) (by omega)
  have p7 := pop_le (x / 72057594037927936 % 256) (by omega)
  obtain ⟨t1, t2, t3, t4⟩ := total _ _ _ _ _ _ _ _ u _ _ p0 p1 p2 p3 p4 p5 p6 p7 hf rfl rfl
  simp only [List.sum_cons, List.sum_nil] at hsum
  refine ⟨y, z, u, _, _, by omega, by omega, by omega, t1, t2, hy, hz, by omega, hu, rfl, rfl, t3, ?_, ?_⟩
  · rw [t4, hsum]
  · rw [hsum]; omega

theorem step1 (x y : Nat) (hx : x < 18446744073709551616) (by0 : y < 18446744073709551616) (ey : (x / 2 &&& 6148914691236517205) + (x &&& 6148914691236517205) = y) :
    IntKind.u64.wrap (bits BinOp.and IntKind.u64 ((x : Int) / 2) 6148914691236517205 + bits BinOp.and IntKind.u64 (x : Int) 6148914691236517205) = (y : Int) := by
  have a1 := u64_and_nat (x / 2) 6148914691236517205 (by omega) (by omega)
  have a2 := u64_and_nat x 6148914691236517205 hx (by omega)
  have e1 : ((x / 2 : Nat) : Int) = (x : Int) / 2 := by omega
  have e2 : ((6148914691236517205 : Nat) : Int) = 6148914691236517205 := by omega
  rw [e1, e2] at a1
  rw [e2] at a2
  rw [a1, a2, IntKind.wrap_u64, ← ey]
  generalize (x / 2 &&& 6148914691236517205) = p at *
  generalize (x &&& 6148914691236517205) = q at *
  omega

theorem step2 (x y : Nat) (hx : x < 18446744073709551616) (by0 : y < 18446744073709551616) (ey : (x / 4 &&& 3689348814741910323) + (x &&& 3689348814741910323) = y) :
    IntKind.u64.wrap (bits BinOp.and IntKind.u64 ((x : Int) / 4) 3689348814741910323 + bits BinOp.and IntKind.u64 (x : Int) 3689348814741910323) = (y : Int) := by
  have a1 := u64_and_nat (x / 4) 3689348814741910323 (by omega) (by omega)
  have a2 := u64_and_nat x 3689348814741910323 hx (by omega)
  have e1 : ((x / 4 : Nat) : Int) = (x : Int) / 4 := by omega
  have e2 : ((3689348814741910323 : Nat) : Int) = 3689348814741910323 := by omega
  rw [e1, e2] at a1
  rw [e2] at a2
  rw [a1, a2, IntKind.wrap_u64, ← ey]
  generalize (x / 4 &&& 3689348814741910323) = p at *
  generalize (x &&& 3689348814741910323) = q at *
  omega

theorem step3 (z u : Nat) (b1 : z / 16 + z < 18446744073709551616) (eu : (z / 16 + z) &&& 1085102592571150095 = u) :
    bits BinOp.and IntKind.u64 (IntKind.u64.wrap ((z : Int) / 16 + (z : Int))) 1085102592571150095 = (u : Int) := by
  have a1 := u64_and_nat (z / 16 + z) 1085102592571150095 b1 (by omega)
  have e1 : IntKind.u64.wrap ((z : Int) / 16 + (z : Int)) = ((z / 16 + z : Nat) : Int) := by rw [IntKind.wrap_u64]; omega
  have e2 : ((1085102592571150095 : Nat) : Int) = 1085102592571150095 := by omega
  rw [e2] at a1
  rw [e1, a1, eu]

theorem step4 (u v : Nat) (hv : v < 18446744073709551616) (e : u + u / 256 = v) : IntKind.u64.wrap ((u : Int) + (u : Int) / 256) = (v : Int) := by rw [IntKind.wrap_u64]; omega
theorem step5 (u v : Nat) (hv : v < 18446744073709551616) (e : u + u / 65536 = v) : IntKind.u64.wrap ((u : Int) + (u : Int) / 65536) = (v : Int) := by rw [IntKind.wrap_u64]; omega
theorem step6 (t m : Nat) (hv : t + t / 4294967296 < 18446744073709551616) (e : (t + t / 4294967296) % 128 = m) :
    bits BinOp.and IntKind.i64 (wrap64 (IntKind.u64.wrap ((t : Int) + (t : Int) / 4294967296))) 127 = (m : Int) := by
  have e1 : IntKind.u64.wrap ((t : Int) + (t : Int) / 4294967296) = ((t + t / 4294967296 : Nat) : Int) := by rw [IntKind.wrap_u64]; omega
  rw [low7_i64, e1]
  unfold wrap64
  generalize t + t / 4294967296 = q at *
  omega

set_option maxHeartbeats 1000000 in
theorem ones_any (x : Nat) (w : World) (hx : x < 18446744073709551616) :
    Calls Tryd.prog 61 #[.int .u64 x] w fun e w' => e = .returned (.int .i64 (bitsOf x).length) ∧ w = w' := by
  obtain ⟨y, z, u, v, t, by0, bz, bu, bv, bt, ey, ez, b1, eu, ev, et, b2, er, _⟩ := ones_parts x hx
  have w1 := step1 x y hx by0 ey
  have w2 := step2 y z by0 bz ez
  have w3 := step3 z u b1 eu
  have w4 := step4 u v bv ev
  have w5 := step5 v t bt et
  have w6 := step6 t _ b2 er
  clear ey ez b1 eu ev et b2 er by0 bz bu bv bt
  generalize (bitsOf x).length = m at *
  have HX := Lib.hid hx
  clear hx
  go_enter Tryd.func61, Tryd.ntmps61
  go_wp2_with fail
  go_ret
  exact ⟨rfl, rfl⟩

theorem sum_take (ws : List Nat) (k : Nat) (h : k < ws.length) : sumBits (ws.take (k + 1)) = sumBits (ws.take k) + (bitsOf (ws.getD k 0)).length := by
  have e : ws.take (k + 1) = ws.take k ++ [ws.getD k 0] := by rw [List.take_add_one]; simp [List.getD, h]
  unfold sumBits
  rw [e, List.map_append, List.sum_append]
  rfl

theorem bitsOf_le (x : Nat) : (bitsOf x).length ≤ 64 := by
  unfold bitsOf
  exact Nat.le_trans (List.length_filter_le _ _) (by simp)

theorem sum_le : ∀ ws : List Nat, sumBits ws ≤ 64 * ws.length
  | [] => by simp [sumBits]
  | x :: ws => by
    have := sum_le ws
    have h := bitsOf_le x
    simp only [sumBits, List.map_cons, List.sum_cons, List.length_cons] at *
    omega

theorem len_set {B s r n : Nat} {ws : List Nat} (w : World) (h : SetW B s r n ws w) :
    Calls Tryd.prog 30 #[.pointer (some ⟨s, 0, none⟩)] w fun e w' => e = .returned (.int .i64 (sumBits ws)) ∧ w = w' := by
  obtain ⟨c0, c1⟩ := h.cells
  have hn := h.nle
  have hl := h.len
  have H := Lib.hid h
  clear h c0
  generalize hm : ws.length = m at *
  have HM := Lib.hid hm
  clear hm
  go_enter Tryd.func30, Tryd.ntmps30
  go_wp2_with fail
  go_loop [3, 11] (fun sn si => ∃ k : Nat, k ≤ m ∧ si = .int .i64 k ∧ sn = .int .i64 (sumBits (ws.take k))) (fun _ si => m - (intOf si).toNat)
  case atStart => exact ⟨0, Nat.zero_le _, rfl, rfl⟩
  case round =>
    obtain ⟨k, hk, rfl, rfl⟩ := hrel
    by_cases hlt : k < m
    · have hkl : k < ws.length := by rw [HM.out]; exact hlt
      have hs := sum_take ws k hkl
      have b1 := sum_le (ws.take k)
      have b2 := bitsOf_le (ws.getD k 0)
      have cw := H.out.cell k hkl
      have hx := H.out.word_lt k
      rw [List.length_take] at b1
      have b3 : sumBits (ws.take k) ≤ 64 * 16385 := by omega
      clear b1
      generalize ws.getD k 0 = x at *
      have HX := Lib.hid hx
      clear hx
      have HS := Lib.hid hs
      clear hs
      generalize sumBits (ws.take k) = a at *
      have a1 : IntKind.i64.wrap ((a : Int) + ((bitsOf x).length : Int)) = ((a + (bitsOf x).length : Nat) : Int) := by
        rw [IntWalk.i64_in _ (by omega)]; omega
      rw [← HS.out] at a1
      have t1 : decide (k < m) = true := by simpa using hlt
      go_wp2_with (go_at_call 61; refine (ones_any _ _ HX.out).mono ?_; rintro e w' ⟨rfl, rfl⟩)
      go_round
      case rel => exact ⟨k + 1, by omega, by go_num, rfl⟩
      case measure => simp [intOf]; omega
    · obtain rfl : k = m := by omega
      have t1 : decide (k < k) = false := by simp
      have e1 : ws.take k = ws := by rw [← HM.out, List.take_length]
      rw [e1]
      go_wp2_with fail
      go_ret
      exact ⟨rfl, rfl⟩

end Go.Proofs.YtpfpieakemnadaaDoor

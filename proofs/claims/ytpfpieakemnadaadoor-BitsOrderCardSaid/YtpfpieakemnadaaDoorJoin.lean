/-
  Join and Clone, each by a contract.
-/
import Derived.Test.YtpfpieakemnadaaDoorSet2
namespace Go.Proofs.YtpfpieakemnadaaDoor
open Go.RowKit

/-- The bits of word k that stand for numbers below n. -/
def maskOf (n k : Nat) : Nat := if n - 64 * k < 64 then 2 ^ (n - 64 * k) - 1 else 18446744073709551615

theorem maskOf_lt (n k : Nat) : maskOf n k < 18446744073709551616 := by
  unfold maskOf
  split
  · rename_i h
    have : 2 ^ (n - 64 * k) < 2 ^ 64 := Nat.pow_lt_pow_right (by decide) h
    omega
  · omega

theorem maskOf_bit (n k b : Nat) (hb : b < 64) : (maskOf n k).testBit b = decide (64 * k + b < n) := by
  unfold maskOf
  split
  · rename_i h
    rw [Nat.testBit_two_pow_sub_one, decide_eq_decide]
    omega
  · rename_i h
    rw [show (18446744073709551615 : Nat) = 2 ^ 64 - 1 by decide, Nat.testBit_two_pow_sub_one, decide_eq_decide]
    omega

theorem mask_in {B s r n : Nat} {ws : List Nat} (k : Nat) (w : World) (h : SetW B s r n ws w) (hk : k < ws.length) :
    Calls Tryd.prog 59 #[.pointer (some ⟨s, 0, none⟩), .int .i64 k] w fun e w' => e = .returned (.int .u64 (maskOf n k : Nat)) ∧ w' = w := by
  obtain ⟨c0, c1⟩ := h.cells
  have hn := h.nle
  have hl := h.len
  clear h c1
  have hkn : 64 * k < n := by omega
  have a1 : IntKind.i64.wrap (64 * (k : Int)) = 64 * (k : Int) := IntWalk.i64_in _ (by omega)
  obtain ⟨d, hd⟩ : ∃ d : Nat, n = 64 * k + d := ⟨n - 64 * k, by omega⟩
  have a2 : IntKind.i64.wrap ((n : Int) - 64 * (k : Int)) = (d : Int) := by rw [IntWalk.i64_in _ (by omega)]; omega
  have hkk : k < 16385 := by omega
  by_cases h : d < 64
  · have e0 : maskOf n k = 2 ^ d - 1 := by unfold maskOf; rw [show n - 64 * k = d by omega, if_pos h]
    rw [e0]
    have t1 : decide ((d : Int) < 64) = true := by simp; omega
    have t2 : 0 ≤ (d : Int) := by omega
    have hp : 2 ^ d < 2 ^ 64 := Nat.pow_lt_pow_right (by decide) h
    have hp0 : 0 < 2 ^ d := Nat.two_pow_pos d
    have a3 : IntKind.u64.wrap ((2 : Int) ^ d) = ((2 ^ d : Nat) : Int) := by
      have e : ((2 : Int) ^ d) = ((2 ^ d : Nat) : Int) := by rw [Int.natCast_pow]; rfl
      rw [e, IntKind.wrap_u64]
      exact Int.emod_eq_of_lt (Int.natCast_nonneg _) (by omega)
    have a4 : IntKind.u64.wrap ((2 : Int) ^ d - 1) = ((2 ^ d - 1 : Nat) : Int) := by
      have e : ((2 : Int) ^ d) = ((2 ^ d : Nat) : Int) := by rw [Int.natCast_pow]; rfl
      rw [e, IntKind.wrap_u64]
      omega
    clear hl hd
    have h63 : d ≤ 63 := by omega
    go_enter Tryd.func59, Tryd.ntmps59
    go_wp2_with fail
    go_ret
    exact ⟨rfl, rfl⟩
  · have e0 : maskOf n k = 18446744073709551615 := by unfold maskOf; rw [if_neg (by omega)]
    rw [e0]
    have t1 : decide ((d : Int) < 64) = false := by simp; omega
    clear hl hd
    go_enter Tryd.func59, Tryd.ntmps59
    go_wp2_with fail
    go_ret
    exact ⟨rfl, rfl⟩

theorem zero_bits {z : Nat} (hz : z < 18446744073709551616) : z ≠ 0 ↔ ∃ b, b < 64 ∧ z.testBit b = true := by
  constructor
  · intro h
    obtain ⟨b, hb⟩ := Nat.exists_testBit_of_ne_zero h
    refine ⟨b, ?_, hb⟩
    apply Nat.lt_of_not_le
    intro hle
    have := Nat.testBit_lt_two_pow (Nat.lt_of_lt_of_le hz (Nat.pow_le_pow_right (n := 2) (by decide) hle))
    rw [this] at hb
    cases hb
  · rintro ⟨b, _, hb⟩ rfl
    simp at hb

def JoinPost (B s r n : Nat) (ws vs : List Nat) (w : World) (e : Ending) (w' : World) : Prop :=
  ∃ fr : Bool, e = .returned (.bool fr) ∧ (∃ xs, SetW B s r n xs w' ∧ ∀ j, bitAt xs j = (bitAt ws j || (bitAt vs j && decide (j < n)))) ∧ (fr = true ↔ ∃ j, j < n ∧ bitAt vs j = true ∧ bitAt ws j = false) ∧ w.grownBy w' (some r)

def JoinRel (B s r n C u v m : Nat) (ws vs : List Nat) (w : World) (M : Nat) (sf si : Value) (wr : World) : Prop :=
  ∃ (k : Nat) (xs : List Nat) (fr : Bool), k ≤ M ∧ si = .int .i64 k ∧ sf = .bool fr ∧ xs.length = ws.length ∧ SetW B s r n xs wr ∧ SetW C u v m vs wr ∧ (∀ j, bitAt xs j = (bitAt ws j || (decide (j / 64 < k) && (bitAt vs j && decide (j < n))))) ∧
    (fr = true ↔ ∃ j, j / 64 < k ∧ j < n ∧ bitAt vs j = true ∧ bitAt ws j = false) ∧ w.grownBy wr (some r)

def freshW (x v M : Nat) : Nat := (v &&& M) &&& (18446744073709551615 - x)

theorem fresh_bit (x v M b : Nat) (hx : x < 18446744073709551616) (hb : b < 64) : (freshW x v M).testBit b = (v.testBit b && M.testBit b && !x.testBit b) := by
  unfold freshW
  rw [andNot_bit _ _ _ hx hb, Nat.testBit_and]

theorem join_word {B s r n C u v m : Nat} {ws vs xs : List Nat} {w wr : World} {M k : Nat} {fr : Bool} (nq : Nat) (hk : k < M) (hkl : k < xs.length) (hl : xs.length = ws.length) (h1 : SetW B s r n xs wr) (h2 : SetW C u v m vs wr) (hru : r ≠ u) (hrv : r ≠ v)
    (hb : ∀ j, bitAt xs j = (bitAt ws j || (decide (j / 64 < k) && (bitAt vs j && decide (j < n))))) (hf : fr = true ↔ ∃ j, j / 64 < k ∧ j < n ∧ bitAt vs j = true ∧ bitAt ws j = false) (hg : w.grownBy wr (some r))
    (z : Nat) (hz : z = freshW (xs.getD k 0) (vs.getD k 0) (maskOf n k)) (y : Nat) (hy : y = xs.getD k 0 ||| z) (fr2 : Bool) (hfr : fr2 = (fr || decide (z ≠ 0))) :
    JoinRel B s r n C u v m ws vs w M (.bool fr2) (.int .i64 ((k : Int) + 1)) ((wr.drewN nq).setCell ⟨r, k, none⟩ (.int .u64 (y : Nat))) := by
  have hx64 := h1.word_lt k
  have hv := h2.word_lt k
  have hzl : z < 2 ^ 64 := by rw [hz]; exact Nat.lt_of_le_of_lt Nat.and_le_left (Nat.lt_of_le_of_lt Nat.and_le_left hv)
  have hy64 : y < 2 ^ 64 := by rw [hy]; exact or_lt hx64 hzl
  have hnew : ∀ j, j / 64 = k → z.testBit (j % 64) = (bitAt vs j && decide (j < n) && !bitAt ws j) := fun j e => by
    rw [hz, fresh_bit _ _ _ _ hx64 (Nat.mod_lt _ (by decide)), maskOf_bit _ _ _ (Nat.mod_lt _ (by decide))]
    have a1 : (xs.getD k 0).testBit (j % 64) = bitAt xs j := by unfold bitAt; rw [e]
    have a2 : (vs.getD k 0).testBit (j % 64) = bitAt vs j := by unfold bitAt; rw [e]
    have a3 : bitAt xs j = bitAt ws j := by rw [hb]; have : ¬ j / 64 < k := by omega
                                            simp [this]
    rw [a1, a2, a3, show 64 * k + j % 64 = j by omega]
  have hbit : ∀ j, bitAt (xs.set k y) j = (bitAt ws j || (decide (j / 64 < k + 1) && (bitAt vs j && decide (j < n)))) := fun j => by
    rw [bitAt_put _ _ _ _ hkl]
    by_cases e : j / 64 = k
    · have a1 : (xs.getD k 0).testBit (j % 64) = bitAt xs j := by unfold bitAt; rw [e]
      rw [if_pos e, hy, Nat.testBit_or, hnew j e, a1, hb]
      have : ¬ j / 64 < k := by omega
      have : j / 64 < k + 1 := by omega
      cases bitAt ws j <;> simp [*]
    · rw [if_neg e, hb]
      by_cases h : j / 64 < k
      · have : j / 64 < k + 1 := by omega
        simp [*]
      · have : ¬ j / 64 < k + 1 := by omega
        simp [*]
  have hs2 : SetW B s r n xs (wr.drewN nq) := h1.kept rfl rfl
  refine ⟨k + 1, xs.set k y, fr2, by omega, by simp, rfl, by simpa using hl, hs2.stored k y hy64 fun j hj => ?_, SetW.kept h2 (Below.heap_setCell (wr.drewN nq) ⟨r, k, none⟩ _ u (Ne.symm hru)) (Below.heap_setCell (wr.drewN nq) ⟨r, k, none⟩ _ v (Ne.symm hrv)), hbit, ?_, ?_⟩
  · rw [hbit]
    have h0 : bitAt xs j = false := h1.top j hj
    rw [hb] at h0
    have hn : ¬ j < n := by omega
    simpa [hn] using h0
  · rw [hfr, Bool.or_eq_true, hf, decide_eq_true_iff, zero_bits hzl]
    constructor
    · rintro (⟨j, h1, h2, h3, h4⟩ | ⟨b, hb64, hbz⟩)
      · exact ⟨j, by omega, h2, h3, h4⟩
      · have e : (64 * k + b) / 64 = k := by omega
        have e2 : (64 * k + b) % 64 = b := by omega
        have := hnew (64 * k + b) e
        rw [e2, hbz] at this
        have h3 := this.symm
        simp only [Bool.and_eq_true, decide_eq_true_iff, Bool.not_eq_true'] at h3
        exact ⟨64 * k + b, by omega, h3.1.2, h3.1.1, h3.2⟩
    · rintro ⟨j, h1, h2, h3, h4⟩
      by_cases e : j / 64 = k
      · right
        refine ⟨j % 64, Nat.mod_lt _ (by decide), ?_⟩
        rw [hnew j e, h3, h4]
        simp [h2]
      · exact .inl ⟨j, by omega, h2, h3, h4⟩
  · have k1 := grown_store (wr.drewN nq) r k (.int .u64 (y : Nat))
    exact ⟨k1.os.trans hg.os, k1.tape.trans hg.tape, k1.output.trans hg.output, Nat.le_trans hg.size k1.size, fun i hi hne => (k1.block i (by have := hg.size; simp; omega) hne).trans (hg.block i hi hne)⟩

set_option maxHeartbeats 4000000 in
theorem join_set {B s r n C u v m : Nat} {ws vs : List Nat} (w : World) (h1 : SetW B s r n ws w) (h2 : SetW C u v m vs w) (hru : r ≠ u) (hrv : r ≠ v) :
    Calls Tryd.prog 24 #[.pointer (some ⟨s, 0, none⟩), .pointer (some ⟨u, 0, none⟩)] w (JoinPost B s r n ws vs w) := by
  obtain ⟨c0, c1⟩ := h1.cells
  obtain ⟨d0, d1⟩ := h2.cells
  have hq1 : ws.length ≤ 16384 := by have := h1.len; have := h1.nle; omega
  have hq2 : vs.length ≤ 16384 := by have := h2.len; have := h2.nle; omega
  have H1 := Lib.hid h1
  have H2 := Lib.hid h2
  clear h1 h2 c0 d0
  generalize e1 : ws.length = p at *
  generalize e2 : vs.length = q at *
  have E1 := Lib.hid e1
  have E2 := Lib.hid e2
  clear e1 e2
  go_enter Tryd.func24, Tryd.ntmps24
  go_wp2
  go_quiet (fail)
  all_goals go_wp2_with fail
  all_goals
    first
      | (have hP : Hid (q ≤ ws.length) := Lib.hid (by have := E1.out; omega)
         have hQ : Hid (q ≤ vs.length) := Lib.hid (by have := E2.out; omega)
         have hE : Hid (q = ws.length ∨ q = vs.length) := Lib.hid (.inr E2.out.symm)
         have hM := hq2
         generalize q = M at *)
      | (have hP : Hid (p ≤ ws.length) := Lib.hid (by have := E1.out; omega)
         have hQ : Hid (p ≤ vs.length) := Lib.hid (by have := E2.out; omega)
         have hE : Hid (p = ws.length ∨ p = vs.length) := Lib.hid (.inl E1.out.symm)
         have hM := hq1
         generalize p = M at *)
    have R0 : Hid (JoinRel B s r n C u v m ws vs w M (.bool false) (.int .i64 ((0 : Nat) : Int)) (w.drewN nq)) := Lib.hid ⟨0, ws, false, Nat.zero_le _, rfl, rfl, rfl, H1.out.kept rfl rfl, H2.out.kept rfl rfl, fun j => by simp, by simp, ⟨rfl, rfl, rfl, Nat.le_refl _, fun _ _ _ => rfl⟩⟩
    clear c1 d1 hq1 hq2 H1 H2
    go_loopw [5, 19] (fun sf si wr => JoinRel B s r n C u v m ws vs w M sf si wr) (fun _ si _ => M - (intOf si).toNat)
    case atStart => exact R0.out
    case round =>
      obtain ⟨k, xs, fr, hk, rfl, rfl, hxl, hs, ht, hb, hf, hg⟩ := hrel
      clear R0
      have HS := Lib.hid hs
      have HT := Lib.hid ht
      have HB := Lib.hid hb
      have HF := Lib.hid hf
      have HG := Lib.hid hg
      have HXL := Lib.hid hxl
      clear hs ht hb hg hxl hf
      by_cases hlt : k < M
      · have t1 : decide (k < M) = true := by simpa using hlt
        have hkx : k < xs.length := by have := HXL.out; have := hP.out; omega
        have hkv : k < vs.length := by have := hQ.out; omega
        have HKX := Lib.hid hkx
        have s1 := HS.out.cells.2
        have s2 := HT.out.cells.2
        have cw := HS.out.cell k hkx
        have cv := HT.out.cell k hkv
        have cf := HS.out.frozen k
        have hst : ∀ nq fr2, fr2 = (fr || decide (freshW (xs.getD k 0) (vs.getD k 0) (maskOf n k) ≠ 0)) → JoinRel B s r n C u v m ws vs w M (.bool fr2) (.int .i64 ((k : Int) + 1)) ((wr.drewN nq).setCell ⟨r, k, none⟩ (.int .u64 ((xs.getD k 0 ||| freshW (xs.getD k 0) (vs.getD k 0) (maskOf n k) : Nat)))) :=
          fun nq fr2 h => join_word nq hlt hkx HXL.out HS.out HT.out hru hrv HB.out HF.out HG.out _ rfl _ rfl fr2 h
        have hx64 := HS.out.word_lt k
        have hv64 := HT.out.word_lt k
        have hm64 := maskOf_lt n k
        have hva : vs.getD k 0 &&& maskOf n k < 18446744073709551616 := Nat.lt_of_le_of_lt Nat.and_le_left hv64
        have hz64 : freshW (xs.getD k 0) (vs.getD k 0) (maskOf n k) < 18446744073709551616 := Nat.lt_of_le_of_lt Nat.and_le_left hva
        have b1 := u64_and_nat (vs.getD k 0) (maskOf n k) hv64 hm64
        have b2 := u64_andNot_nat (vs.getD k 0 &&& maskOf n k) (xs.getD k 0) hva hx64
        have b3 := u64_or_nat (xs.getD k 0) (freshW (xs.getD k 0) (vs.getD k 0) (maskOf n k)) hx64 hz64
        have b4 : (vs.getD k 0 &&& maskOf n k) &&& (18446744073709551615 - xs.getD k 0) = freshW (xs.getD k 0) (vs.getD k 0) (maskOf n k) := rfl
        rw [b4] at b2
        have hx1 : xs.length ≤ 16385 := by have := HS.out.len; have := HS.out.nle; omega
        have hv1 : vs.length ≤ 16385 := by have := HT.out.len; have := HT.out.nle; omega
        clear b4
        have HMK : ∀ nq, Hid (Calls Tryd.prog 59 #[.pointer (some ⟨s, 0, none⟩), .int .i64 k] (wr.drewN nq) fun e w' => e = .returned (.int .u64 (maskOf n k : Nat)) ∧ w' = wr.drewN nq) := fun nq => Lib.hid (mask_in k _ (HS.out.kept rfl rfl) hkx)
        generalize xs.length = p1 at hkx hx1 s1
        generalize vs.length = q1 at hkv hv1 s2
        generalize freshW (xs.getD k 0) (vs.getD k 0) (maskOf n k) = z at *
        generalize (xs.getD k 0 ||| z) = z2 at *
        generalize vs.getD k 0 &&& maskOf n k = z1 at *
        generalize maskOf n k = mk at *
        generalize xs.getD k 0 = x at *
        generalize vs.getD k 0 = y at *
        have HST := Lib.hid hst
        clear hst
        go_wp2_with fail
        go_quiet ((go_at_call 59; exact Calls.quiet_of_same (HMK _).out))
        all_goals
          cases fr with
          | true =>
            go_wp2_with fail
            go_roundw
            case rel => exact HST.out _ _ (by simp)
            case measure => simp [intOf]; omega
          | false =>
            by_cases hz : z = 0
            · have t2 : ((z : Int) != 0) = false := by simp only [bne_eq_false_iff_eq]; omega
              have HZ := Lib.hid hz
              clear hz
              go_wp2_with fail
              go_roundw
              case rel => first | exact HST.out _ false (by simp [HZ.out]) | exact HST.out _ true (by simp [HZ.out])
              case measure => simp [intOf]; omega
            · have t2 : ((z : Int) != 0) = true := by simp only [bne_iff_ne, ne_eq]; omega
              have HZ := Lib.hid hz
              clear hz
              go_wp2_with fail
              go_roundw
              case rel => first | exact HST.out _ false (by simp [HZ.out]) | exact HST.out _ true (by simp [HZ.out])
              case measure => simp [intOf]; omega
      · obtain rfl : k = M := by omega
        have t1 : decide (k < k) = false := by simp
        go_wp2_with fail
        go_ret
        refine ⟨fr, rfl, ⟨xs, HS.out, fun j => ?_⟩, ?_, HG.out⟩
        · rw [HB.out]
          by_cases h : j / 64 < k
          · simp [h]
          · rcases hE.out with e | e
            · have hj : ¬ j < n := fun hj => by have := HS.out.len; have := HXL.out; omega
              simp [hj]
            · have : bitAt vs j = false := bitAt_over (by omega)
              simp [this]
        · rw [HF.out]
          constructor
          · rintro ⟨j, _, h2, h3, h4⟩
            exact ⟨j, h2, h3, h4⟩
          · rintro ⟨j, h2, h3, h4⟩
            refine ⟨j, ?_, h2, h3, h4⟩
            apply Nat.lt_of_not_le
            intro h
            rcases hE.out with e | e
            · have := HS.out.len; have := HXL.out; omega
            · have : bitAt vs j = false := bitAt_over (by omega)
              rw [this] at h3
              cases h3

/-! ### Clone -/

theorem splice_all (xs ys : List Value) (h : ys.length = xs.length) : splice xs 0 ys = ys := by
  unfold splice
  rw [h, List.take_zero, List.nil_append, Nat.zero_add, List.drop_length, List.append_nil]

set_option maxHeartbeats 2000000 in
theorem clone_set {B s r n : Nat} {ws : List Nat} (w : World) (h : SetW B s r n ws w) :
    Calls Tryd.prog 26 #[.pointer (some ⟨s, 0, none⟩)] w fun e w' => ∃ u v, e = .returned (.pointer (some ⟨u, 0, none⟩)) ∧ SetW w.heap.size u v n ws w' ∧ Below w.heap.size w w' := by
  obtain ⟨c0, c1⟩ := h.cells
  obtain ⟨ls, lr⟩ := h.lt
  have H := Lib.hid h
  have HN := Lib.hid h.nle
  clear h c1
  go_enter Tryd.func26, Tryd.ntmps26
  go_wp2_with fail
  refine (snew_nat n _ HN.out).mono ?_
  rintro e w1 ⟨u, v, rfl, hs, hb, _, _⟩
  have K := H.out.kept (hb.block s ls) (hb.block r lr)
  have HS := Lib.hid hs
  have HB := Lib.hid hb
  have d1 := hs.cells.2
  have k1 := K.cells.2
  have hl := K.len
  rw [List.length_replicate, ← hl] at d1
  have hrow0 : w1.drew.heap[v]? = some (.cells ((List.replicate ((n + 63) / 64) 0).map fun x : Nat => Value.int .u64 (x : Int)).toArray 104 (0, 0)) := hs.row
  have hsrc0 : ∀ j x, (ws.map fun x : Nat => Value.int .u64 (x : Int))[j]? = some x → w1.drew.cell? ((⟨r, 0, none⟩ : Addr).add j) = some x := by
    intro j x hx
    have hj : j < ws.length := by
      have := (List.getElem?_eq_some_iff.1 hx).1
      simpa using this
    have e2 : (⟨r, 0, none⟩ : Addr).add j = ⟨r, j, none⟩ := by
      unfold Addr.add
      split
      · rename_i h0; subst h0; rfl
      · simp
    rw [e2]
    show w1.cell? ⟨r, j, none⟩ = some x
    rw [K.cell j hj, ← hx]
    simp [List.getD, hj]
  have hrow := Lib.hid hrow0
  obtain ⟨va, hva⟩ : ∃ va : Option Addr, va = some ⟨v, 0, none⟩ := ⟨_, rfl⟩
  have hpos : Hid (0 < (ws.map fun x : Nat => Value.int .u64 (x : Int)).length → va = some ⟨v, 0, none⟩ ∧ ∃ ad, (some (⟨r, 0, none⟩ : Addr)) = some ad ∧ ∀ j x, (ws.map fun x : Nat => Value.int .u64 (x : Int))[j]? = some x → w1.drew.cell? (ad.add j) = some x) := Lib.hid fun _ => ⟨hva, _, rfl, hsrc0⟩
  have hn : Hid ((ws.map fun x : Nat => Value.int .u64 (x : Int)).length = Nat.min ws.length ws.length) := Lib.hid (by simp)
  have hfit : Hid (0 + (ws.map fun x : Nat => Value.int .u64 (x : Int)).length ≤ ((List.replicate ((n + 63) / 64) 0).map fun x : Nat => Value.int .u64 (x : Int)).length) := Lib.hid (by simp [hl])
  have h1c : Hid (∀ x ∈ (ws.map fun x : Nat => Value.int .u64 (x : Int)), x.oneCell' = true) := Lib.hid (by
    intro x hx
    obtain ⟨y, _, rfl⟩ := List.mem_map.1 hx
    rfl)
  have heq : Hid (((List.replicate ((n + 63) / 64) 0).map fun x : Nat => Value.int .u64 (x : Int)).length = (ws.map fun x : Nat => Value.int .u64 (x : Int)).length) := Lib.hid (by simp [hl])
  clear hs hb c0 hl hrow0 hsrc0
  have HK := Lib.hid K
  clear K
  obtain ⟨Y, hY⟩ : ∃ Y, Y = ws.map fun x : Nat => Value.int .u64 (x : Int) := ⟨_, rfl⟩
  rw [← hY] at hn hfit h1c hpos heq
  obtain ⟨Z, hZ⟩ : ∃ Z, Z = (List.replicate ((n + 63) / 64) 0).map fun x : Nat => Value.int .u64 (x : Int) := ⟨_, rfl⟩
  rw [← hZ] at hrow hfit heq
  have HY := Lib.hid hY
  have HVA := Lib.hid hva
  clear hY hZ hva
  obtain ⟨L, hL⟩ : ∃ L, L = ws.length := ⟨_, rfl⟩
  rw [← hL] at d1 k1 hn
  have HL := Lib.hid hL
  clear hL
  go_wp2_with fail
  go_region_law? (refine step_copy_grown rfl (.tmp 12) (.tmp 16) 101 101 rfl 104 Tryd.underlying101 (by kernel_rfl) (some ⟨v, 0, none⟩) (some ⟨r, 0, none⟩) L L L L (by simp [Act.eval, Act.put]) (by simp [Act.eval, Act.put]) v 0 Z 104 hrow.out Y hn.out (by have h := hpos.out; rw [HVA.out] at h; exact h) hfit.out h1c.out ?_; intro w4 hg4 hb4)
  all_goals go_wp2_with fail
  all_goals
    go_ret
    have hg5 := hg4.out
    rw [splice_all _ _ heq.out.symm, HY.out] at hg5
    have hbb : w1.grownBy w4 (some v) := ⟨hb4.os, hb4.tape, hb4.output, hb4.size, hb4.block⟩
    have hS := HS.out
    have hK := HK.out
    refine ⟨u, v, rfl, ⟨hK.len, hK.small, hK.top, hK.nle, ?_, hg5, hS.ne, hS.los, hS.lor⟩, below_own HB.out hbb hS.lor⟩
    rw [hbb.block u hS.lt.1 (by simp; exact hS.ne), hS.box, List.length_replicate, hK.len]

end Go.Proofs.YtpfpieakemnadaaDoor

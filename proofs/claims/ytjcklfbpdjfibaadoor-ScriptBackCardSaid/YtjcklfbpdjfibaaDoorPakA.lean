/-
  Package script: Pack of any options.
-/
import Derived.Test.YtjcklfbpdjfibaaDoorScrU
import Derived.IntWalk
namespace Go.Proofs.YtjcklfbpdjfibaaDoor
open Go.RowKit

def clampR (r : Int) : Nat := if r < 1 then 1 else if 16 < r then 16 else r.toNat
theorem clampR_in (r : Int) : 1 ≤ clampR r ∧ clampR r ≤ 16 := by unfold clampR; split <;> (try split) <;> omega

/-- The bits of the first k of five. -/
def lowS (y : Nat → Bool) : Nat → Nat
  | 0 => 0
  | k + 1 => lowS y k + if y k then 2 ^ k else 0
theorem lowS_lt (y : Nat → Bool) : ∀ k, lowS y k < 2 ^ k
  | 0 => by show 0 < 2 ^ 0; decide
  | k + 1 => by
    have := lowS_lt y k
    rw [lowS, Nat.pow_succ]
    split <;> omega
def packS (r : Int) (y : Nat → Bool) (k : Nat) : Nat := (clampR r - 1) * 32 + lowS y k

theorem or_small (R s k : Nat) (hR : R < 16) (hk : k < 5) (hs : s < 2 ^ k) : bits BinOp.or IntKind.i64 ((R * 32 + s : Nat) : Int) ((2 ^ k : Nat) : Int) = ((R * 32 + (s + 2 ^ k) : Nat) : Int) := by
  have key : ∀ (R : Fin 16) (k : Fin 5) (s : Fin 16), s.val < 2 ^ k.val → (R.val * 32 + s.val) ||| 2 ^ k.val = R.val * 32 + (s.val + 2 ^ k.val) := by decide +kernel
  have hs16 : s < 16 := Nat.lt_of_lt_of_le hs (by
    have : k ≤ 4 := by omega
    calc 2 ^ k ≤ 2 ^ 4 := Nat.pow_le_pow_right (by omega) this
      _ = 16 := by decide)
  have h := key ⟨R, hR⟩ ⟨k, hk⟩ ⟨s, hs16⟩ hs
  simp only at h
  have h2 : (2 : Nat) ^ k ≤ 16 := by
    calc 2 ^ k ≤ 2 ^ 4 := Nat.pow_le_pow_right (by omega) (by omega)
      _ = 16 := by decide
  have e1 : BitVec.ofInt 64 ((R * 32 + s : Nat) : Int) = BitVec.ofNat 64 (R * 32 + s) := BitVec.ofInt_natCast _ _
  have e2 : BitVec.ofInt 64 ((2 ^ k : Nat) : Int) = BitVec.ofNat 64 (2 ^ k) := BitVec.ofInt_natCast _ _
  show IntKind.i64.wrap ((BitVec.ofInt 64 ((R * 32 + s : Nat) : Int) ||| BitVec.ofInt 64 ((2 ^ k : Nat) : Int)).toNat : Nat) = _
  rw [e1, e2, BitVec.toNat_or, BitVec.toNat_ofNat, BitVec.toNat_ofNat, Nat.mod_eq_of_lt (by omega), Nat.mod_eq_of_lt (by omega), h]
  exact IntWalk.i64_in _ (by omega)

def five (y0 y1 y2 y3 y4 : Bool) (k : Nat) : Bool := if k = 0 then y0 else if k = 1 then y1 else if k = 2 then y2 else if k = 3 then y3 else y4

def PkRel (R : Nat) (y : Nat → Bool) (sb si : Value) : Prop := ∃ (k : Nat) (i : Int), k ≤ 5 ∧ i = (k : Int) ∧ si = .int .i64 i ∧ sb = .int .i64 ((R * 32 + lowS y k : Nat) : Int)

set_option maxHeartbeats 4000000 in
theorem pack_any (y0 y1 y2 y3 y4 : Bool) (r : Int) (w : World) : Calls Tryd.prog 71 #[.agg #[.bool y0, .bool y1, .bool y2, .bool y3, .bool y4, .int .i64 r]] w fun e w' => e = .returned (.int .i64 (packS r (five y0 y1 y2 y3 y4) 5)) ∧ Below w.heap.size w w' := by
  obtain ⟨R, hR, hR16⟩ : ∃ R, clampR r - 1 = R ∧ R < 16 := ⟨_, rfl, by have := clampR_in r; omega⟩
  have HR := Lib.hid hR
  have a1 : IntKind.i64.wrap ((R : Int) * 32) = (R : Int) * 32 := IntWalk.i64_in _ (by omega)
  have hb : Below w.heap.size w ((w.alloc (.cells #[.bool y0, .bool y1, .bool y2, .bool y3, .bool y4, .int .i64 r] 90)).alloc (.cells #[.bool y0, .bool y1, .bool y2, .bool y3, .bool y4] 4)) := ((Below.refl _ _).alloc (Nat.le_refl _) _).alloc (by simp) _
  have hal := heap_alloc_new (w.alloc (.cells #[.bool y0, .bool y1, .bool y2, .bool y3, .bool y4, .int .i64 r] 90)) (.cells #[.bool y0, .bool y1, .bool y2, .bool y3, .bool y4] 4)
  rw [World.size_alloc] at hal
  have HB := Lib.hid hb
  have HAL := Lib.hid hal
  clear hb hal
  have hc : (r < 1 ∧ R = 0) ∨ (1 ≤ r ∧ r ≤ 16 ∧ r = (R : Int) + 1) ∨ (16 < r ∧ R = 15) := by
    unfold clampR at hR
    split at hR
    · exact .inl ⟨by assumption, by omega⟩
    · split at hR
      · exact .inr (.inr ⟨by assumption, by omega⟩)
      · exact .inr (.inl ⟨by omega, by omega, by omega⟩)
  clear hR
  rcases hc with ⟨h1, h2⟩ | ⟨h1, h2, h3⟩ | ⟨h1, h2⟩
  · have H2 := Lib.hid h2
    clear h2
    go_enter Tryd.func71, Tryd.ntmps71
    go_wp2_with fail
    generalize ((w.alloc (.cells #[.bool y0, .bool y1, .bool y2, .bool y3, .bool y4, .int .i64 r] 90)).alloc (.cells #[.bool y0, .bool y1, .bool y2, .bool y3, .bool y4] 4)) = W at *
    have R0 : Hid (PkRel R (five y0 y1 y2 y3 y4) (.int .i64 0) (.int .i64 0)) := Lib.hid ⟨0, 0, by omega, rfl, rfl, by show Value.int .i64 _ = .int .i64 ((R * 32 + 0 : Nat) : Int); congr 1 <;> (have := H2.out; omega)⟩
    go_loop [3, 24] (fun sb si => PkRel R (five y0 y1 y2 y3 y4) sb si) (fun _ si => 5 - (intOf si).toNat)
    case atStart => exact R0.out
    case round =>
      obtain ⟨k, i, hk, hik, rfl, rfl⟩ := hrel
      by_cases hlt : k < 5
      · have hs := lowS_lt (five y0 y1 y2 y3 y4) k
        have hor := or_small R (lowS (five y0 y1 y2 y3 y4) k) k hR16 hlt hs
        have hnx : Hid (lowS (five y0 y1 y2 y3 y4) (k + 1) = lowS (five y0 y1 y2 y3 y4) k + if five y0 y1 y2 y3 y4 k then 2 ^ k else 0) := Lib.hid rfl
        have ck : W.cell? ⟨w.heap.size + 1, k, none⟩ = some (.bool (five y0 y1 y2 y3 y4 k)) := by
          rw [cell_of_row W (w.heap.size + 1) k _ 4 (0, 0) HAL.out]
          match k, hlt with
          | 0, _ => rfl
          | 1, _ => rfl
          | 2, _ => rfl
          | 3, _ => rfl
          | 4, _ => rfl
        have hs16 : lowS (five y0 y1 y2 y3 y4) k < 16 := Nat.lt_of_lt_of_le hs (Nat.pow_le_pow_right (by omega) (show k ≤ 4 by omega))
        generalize hlo : lowS (five y0 y1 y2 y3 y4) k = s at *
        clear hlo hs
        have hkk : k = 0 ∨ k = 1 ∨ k = 2 ∨ k = 3 ∨ k = 4 := by omega
        obtain ⟨x, hx⟩ : ∃ x, R * 32 + s = x := ⟨_, rfl⟩
        have hor2 : bits BinOp.or IntKind.i64 (x : Int) ((2 ^ k : Nat) : Int) = ((x + 2 ^ k : Nat) : Int) := by rw [← hx, hor, Nat.add_assoc]
        rw [hx]
        have HX := Lib.hid hx
        have hx1 : x ≤ 600 := by omega
        clear hor hx hs16
        rcases hkk with rfl | rfl | rfl | rfl | rfl
        · obtain rfl : i = 0 := by omega
          clear hik
          have hor3 : bits BinOp.or IntKind.i64 (x : Int) 1 = (x : Int) + 1 := by
            have h := hor2
            rw [show (2 : Nat) ^ 0 = 1 from by decide] at h
            exact h
          clear hor2
          cases hy : five y0 y1 y2 y3 y4 0 with
          | true =>
            rw [hy] at ck
            rw [hy] at hnx
            clear hy
            go_wp2_with fail
            go_round
            case rel => exact ⟨0 + 1, 0 + 1, by omega, by decide, rfl, by rw [hnx.out]; show Value.int .i64 _ = .int .i64 _; congr 1; have := HX.out; simp; omega⟩
            case measure => simp [intOf]
          | false =>
            rw [hy] at ck
            rw [hy] at hnx
            clear hy
            go_wp2_with fail
            go_round
            case rel => exact ⟨0 + 1, 0 + 1, by omega, by decide, rfl, by rw [hnx.out]; show Value.int .i64 _ = .int .i64 _; congr 1; have := HX.out; simp; omega⟩
            case measure => simp [intOf]
        · obtain rfl : i = 1 := by omega
          clear hik
          have hor3 : bits BinOp.or IntKind.i64 (x : Int) 2 = (x : Int) + 2 := by
            have h := hor2
            rw [show (2 : Nat) ^ 1 = 2 from by decide] at h
            exact h
          clear hor2
          cases hy : five y0 y1 y2 y3 y4 1 with
          | true =>
            rw [hy] at ck
            rw [hy] at hnx
            clear hy
            go_wp2_with fail
            go_round
            case rel => exact ⟨1 + 1, 1 + 1, by omega, by decide, rfl, by rw [hnx.out]; show Value.int .i64 _ = .int .i64 _; congr 1; have := HX.out; simp; omega⟩
            case measure => simp [intOf]
          | false =>
            rw [hy] at ck
            rw [hy] at hnx
            clear hy
            go_wp2_with fail
            go_round
            case rel => exact ⟨1 + 1, 1 + 1, by omega, by decide, rfl, by rw [hnx.out]; show Value.int .i64 _ = .int .i64 _; congr 1; have := HX.out; simp; omega⟩
            case measure => simp [intOf]
        · obtain rfl : i = 2 := by omega
          clear hik
          have hor3 : bits BinOp.or IntKind.i64 (x : Int) 4 = (x : Int) + 4 := by
            have h := hor2
            rw [show (2 : Nat) ^ 2 = 4 from by decide] at h
            exact h
          clear hor2
          cases hy : five y0 y1 y2 y3 y4 2 with
          | true =>
            rw [hy] at ck
            rw [hy] at hnx
            clear hy
            go_wp2_with fail
            go_round
            case rel => exact ⟨2 + 1, 2 + 1, by omega, by decide, rfl, by rw [hnx.out]; show Value.int .i64 _ = .int .i64 _; congr 1; have := HX.out; simp; omega⟩
            case measure => simp [intOf]
          | false =>
            rw [hy] at ck
            rw [hy] at hnx
            clear hy
            go_wp2_with fail
            go_round
            case rel => exact ⟨2 + 1, 2 + 1, by omega, by decide, rfl, by rw [hnx.out]; show Value.int .i64 _ = .int .i64 _; congr 1; have := HX.out; simp; omega⟩
            case measure => simp [intOf]
        · obtain rfl : i = 3 := by omega
          clear hik
          have hor3 : bits BinOp.or IntKind.i64 (x : Int) 8 = (x : Int) + 8 := by
            have h := hor2
            rw [show (2 : Nat) ^ 3 = 8 from by decide] at h
            exact h
          clear hor2
          cases hy : five y0 y1 y2 y3 y4 3 with
          | true =>
            rw [hy] at ck
            rw [hy] at hnx
            clear hy
            go_wp2_with fail
            go_round
            case rel => exact ⟨3 + 1, 3 + 1, by omega, by decide, rfl, by rw [hnx.out]; show Value.int .i64 _ = .int .i64 _; congr 1; have := HX.out; simp; omega⟩
            case measure => simp [intOf]
          | false =>
            rw [hy] at ck
            rw [hy] at hnx
            clear hy
            go_wp2_with fail
            go_round
            case rel => exact ⟨3 + 1, 3 + 1, by omega, by decide, rfl, by rw [hnx.out]; show Value.int .i64 _ = .int .i64 _; congr 1; have := HX.out; simp; omega⟩
            case measure => simp [intOf]
        · obtain rfl : i = 4 := by omega
          clear hik
          have hor3 : bits BinOp.or IntKind.i64 (x : Int) 16 = (x : Int) + 16 := by
            have h := hor2
            rw [show (2 : Nat) ^ 4 = 16 from by decide] at h
            exact h
          clear hor2
          cases hy : five y0 y1 y2 y3 y4 4 with
          | true =>
            rw [hy] at ck
            rw [hy] at hnx
            clear hy
            go_wp2_with fail
            go_round
            case rel => exact ⟨4 + 1, 4 + 1, by omega, by decide, rfl, by rw [hnx.out]; show Value.int .i64 _ = .int .i64 _; congr 1; have := HX.out; simp; omega⟩
            case measure => simp [intOf]
          | false =>
            rw [hy] at ck
            rw [hy] at hnx
            clear hy
            go_wp2_with fail
            go_round
            case rel => exact ⟨4 + 1, 4 + 1, by omega, by decide, rfl, by rw [hnx.out]; show Value.int .i64 _ = .int .i64 _; congr 1; have := HX.out; simp; omega⟩
            case measure => simp [intOf]
      · obtain rfl : k = 5 := by omega
        obtain rfl : i = 5 := by omega
        clear hik
        have FIN : Hid ((R * 32 + lowS (five y0 y1 y2 y3 y4) 5 : Nat) = packS r (five y0 y1 y2 y3 y4) 5) := Lib.hid (by rw [packS, HR.out])
        go_wp2_with fail
        go_ret
        exact ⟨by rw [← FIN.out]; rfl, HB.out⟩
  · subst h3
    have H2 := Lib.hid h2
    go_enter Tryd.func71, Tryd.ntmps71
    go_wp2_with fail
    generalize ((w.alloc (.cells #[.bool y0, .bool y1, .bool y2, .bool y3, .bool y4, .int .i64 ((R : Int) + 1)] 90)).alloc (.cells #[.bool y0, .bool y1, .bool y2, .bool y3, .bool y4] 4)) = W at *
    have R0 : Hid (PkRel R (five y0 y1 y2 y3 y4) (.int .i64 ((R : Int) * 32)) (.int .i64 0)) := Lib.hid ⟨0, 0, by omega, rfl, rfl, by show Value.int .i64 _ = .int .i64 ((R * 32 + 0 : Nat) : Int); congr 1 <;> (have := H2.out; omega)⟩
    go_loop [3, 24] (fun sb si => PkRel R (five y0 y1 y2 y3 y4) sb si) (fun _ si => 5 - (intOf si).toNat)
    case atStart => exact R0.out
    case round =>
      obtain ⟨k, i, hk, hik, rfl, rfl⟩ := hrel
      by_cases hlt : k < 5
      · have hs := lowS_lt (five y0 y1 y2 y3 y4) k
        have hor := or_small R (lowS (five y0 y1 y2 y3 y4) k) k hR16 hlt hs
        have hnx : Hid (lowS (five y0 y1 y2 y3 y4) (k + 1) = lowS (five y0 y1 y2 y3 y4) k + if five y0 y1 y2 y3 y4 k then 2 ^ k else 0) := Lib.hid rfl
        have ck : W.cell? ⟨w.heap.size + 1, k, none⟩ = some (.bool (five y0 y1 y2 y3 y4 k)) := by
          rw [cell_of_row W (w.heap.size + 1) k _ 4 (0, 0) HAL.out]
          match k, hlt with
          | 0, _ => rfl
          | 1, _ => rfl
          | 2, _ => rfl
          | 3, _ => rfl
          | 4, _ => rfl
        have hs16 : lowS (five y0 y1 y2 y3 y4) k < 16 := Nat.lt_of_lt_of_le hs (Nat.pow_le_pow_right (by omega) (show k ≤ 4 by omega))
        generalize hlo : lowS (five y0 y1 y2 y3 y4) k = s at *
        clear hlo hs
        have hkk : k = 0 ∨ k = 1 ∨ k = 2 ∨ k = 3 ∨ k = 4 := by omega
        obtain ⟨x, hx⟩ : ∃ x, R * 32 + s = x := ⟨_, rfl⟩
        have hor2 : bits BinOp.or IntKind.i64 (x : Int) ((2 ^ k : Nat) : Int) = ((x + 2 ^ k : Nat) : Int) := by rw [← hx, hor, Nat.add_assoc]
        rw [hx]
        have HX := Lib.hid hx
        have hx1 : x ≤ 600 := by omega
        clear hor hx hs16
        rcases hkk with rfl | rfl | rfl | rfl | rfl
        · obtain rfl : i = 0 := by omega
          clear hik
          have hor3 : bits BinOp.or IntKind.i64 (x : Int) 1 = (x : Int) + 1 := by
            have h := hor2
            rw [show (2 : Nat) ^ 0 = 1 from by decide] at h
            exact h
          clear hor2
          cases hy : five y0 y1 y2 y3 y4 0 with
          | true =>
            rw [hy] at ck
            rw [hy] at hnx
            clear hy
            go_wp2_with fail
            go_round
            case rel => exact ⟨0 + 1, 0 + 1, by omega, by decide, rfl, by rw [hnx.out]; show Value.int .i64 _ = .int .i64 _; congr 1; have := HX.out; simp; omega⟩
            case measure => simp [intOf]
          | false =>
            rw [hy] at ck
            rw [hy] at hnx
            clear hy
            go_wp2_with fail
            go_round
            case rel => exact ⟨0 + 1, 0 + 1, by omega, by decide, rfl, by rw [hnx.out]; show Value.int .i64 _ = .int .i64 _; congr 1; have := HX.out; simp; omega⟩
            case measure => simp [intOf]
        · obtain rfl : i = 1 := by omega
          clear hik
          have hor3 : bits BinOp.or IntKind.i64 (x : Int) 2 = (x : Int) + 2 := by
            have h := hor2
            rw [show (2 : Nat) ^ 1 = 2 from by decide] at h
            exact h
          clear hor2
          cases hy : five y0 y1 y2 y3 y4 1 with
          | true =>
            rw [hy] at ck
            rw [hy] at hnx
            clear hy
            go_wp2_with fail
            go_round
            case rel => exact ⟨1 + 1, 1 + 1, by omega, by decide, rfl, by rw [hnx.out]; show Value.int .i64 _ = .int .i64 _; congr 1; have := HX.out; simp; omega⟩
            case measure => simp [intOf]
          | false =>
            rw [hy] at ck
            rw [hy] at hnx
            clear hy
            go_wp2_with fail
            go_round
            case rel => exact ⟨1 + 1, 1 + 1, by omega, by decide, rfl, by rw [hnx.out]; show Value.int .i64 _ = .int .i64 _; congr 1; have := HX.out; simp; omega⟩
            case measure => simp [intOf]
        · obtain rfl : i = 2 := by omega
          clear hik
          have hor3 : bits BinOp.or IntKind.i64 (x : Int) 4 = (x : Int) + 4 := by
            have h := hor2
            rw [show (2 : Nat) ^ 2 = 4 from by decide] at h
            exact h
          clear hor2
          cases hy : five y0 y1 y2 y3 y4 2 with
          | true =>
            rw [hy] at ck
            rw [hy] at hnx
            clear hy
            go_wp2_with fail
            go_round
            case rel => exact ⟨2 + 1, 2 + 1, by omega, by decide, rfl, by rw [hnx.out]; show Value.int .i64 _ = .int .i64 _; congr 1; have := HX.out; simp; omega⟩
            case measure => simp [intOf]
          | false =>
            rw [hy] at ck
            rw [hy] at hnx
            clear hy
            go_wp2_with fail
            go_round
            case rel => exact ⟨2 + 1, 2 + 1, by omega, by decide, rfl, by rw [hnx.out]; show Value.int .i64 _ = .int .i64 _; congr 1; have := HX.out; simp; omega⟩
            case measure => simp [intOf]
        · obtain rfl : i = 3 := by omega
          clear hik
          have hor3 : bits BinOp.or IntKind.i64 (x : Int) 8 = (x : Int) + 8 := by
            have h := hor2
            rw [show (2 : Nat) ^ 3 = 8 from by decide] at h
            exact h
          clear hor2
          cases hy : five y0 y1 y2 y3 y4 3 with
          | true =>
            rw [hy] at ck
            rw [hy] at hnx
            clear hy
            go_wp2_with fail
            go_round
            case rel => exact ⟨3 + 1, 3 + 1, by omega, by decide, rfl, by rw [hnx.out]; show Value.int .i64 _ = .int .i64 _; congr 1; have := HX.out; simp; omega⟩
            case measure => simp [intOf]
          | false =>
            rw [hy] at ck
            rw [hy] at hnx
            clear hy
            go_wp2_with fail
            go_round
            case rel => exact ⟨3 + 1, 3 + 1, by omega, by decide, rfl, by rw [hnx.out]; show Value.int .i64 _ = .int .i64 _; congr 1; have := HX.out; simp; omega⟩
            case measure => simp [intOf]
        · obtain rfl : i = 4 := by omega
          clear hik
          have hor3 : bits BinOp.or IntKind.i64 (x : Int) 16 = (x : Int) + 16 := by
            have h := hor2
            rw [show (2 : Nat) ^ 4 = 16 from by decide] at h
            exact h
          clear hor2
          cases hy : five y0 y1 y2 y3 y4 4 with
          | true =>
            rw [hy] at ck
            rw [hy] at hnx
            clear hy
            go_wp2_with fail
            go_round
            case rel => exact ⟨4 + 1, 4 + 1, by omega, by decide, rfl, by rw [hnx.out]; show Value.int .i64 _ = .int .i64 _; congr 1; have := HX.out; simp; omega⟩
            case measure => simp [intOf]
          | false =>
            rw [hy] at ck
            rw [hy] at hnx
            clear hy
            go_wp2_with fail
            go_round
            case rel => exact ⟨4 + 1, 4 + 1, by omega, by decide, rfl, by rw [hnx.out]; show Value.int .i64 _ = .int .i64 _; congr 1; have := HX.out; simp; omega⟩
            case measure => simp [intOf]
      · obtain rfl : k = 5 := by omega
        obtain rfl : i = 5 := by omega
        clear hik
        have FIN : Hid ((R * 32 + lowS (five y0 y1 y2 y3 y4) 5 : Nat) = packS ((R : Int) + 1) (five y0 y1 y2 y3 y4) 5) := Lib.hid (by rw [packS, HR.out])
        go_wp2_with fail
        go_ret
        exact ⟨by rw [← FIN.out]; rfl, HB.out⟩
  · have H2 := Lib.hid h2
    clear h2
    go_enter Tryd.func71, Tryd.ntmps71
    go_wp2_with fail
    generalize ((w.alloc (.cells #[.bool y0, .bool y1, .bool y2, .bool y3, .bool y4, .int .i64 r] 90)).alloc (.cells #[.bool y0, .bool y1, .bool y2, .bool y3, .bool y4] 4)) = W at *
    have R0 : Hid (PkRel R (five y0 y1 y2 y3 y4) (.int .i64 480) (.int .i64 0)) := Lib.hid ⟨0, 0, by omega, rfl, rfl, by show Value.int .i64 _ = .int .i64 ((R * 32 + 0 : Nat) : Int); congr 1 <;> (have := H2.out; omega)⟩
    go_loop [3, 24] (fun sb si => PkRel R (five y0 y1 y2 y3 y4) sb si) (fun _ si => 5 - (intOf si).toNat)
    case atStart => exact R0.out
    case round =>
      obtain ⟨k, i, hk, hik, rfl, rfl⟩ := hrel
      by_cases hlt : k < 5
      · have hs := lowS_lt (five y0 y1 y2 y3 y4) k
        have hor := or_small R (lowS (five y0 y1 y2 y3 y4) k) k hR16 hlt hs
        have hnx : Hid (lowS (five y0 y1 y2 y3 y4) (k + 1) = lowS (five y0 y1 y2 y3 y4) k + if five y0 y1 y2 y3 y4 k then 2 ^ k else 0) := Lib.hid rfl
        have ck : W.cell? ⟨w.heap.size + 1, k, none⟩ = some (.bool (five y0 y1 y2 y3 y4 k)) := by
          rw [cell_of_row W (w.heap.size + 1) k _ 4 (0, 0) HAL.out]
          match k, hlt with
          | 0, _ => rfl
          | 1, _ => rfl
          | 2, _ => rfl
          | 3, _ => rfl
          | 4, _ => rfl
        have hs16 : lowS (five y0 y1 y2 y3 y4) k < 16 := Nat.lt_of_lt_of_le hs (Nat.pow_le_pow_right (by omega) (show k ≤ 4 by omega))
        generalize hlo : lowS (five y0 y1 y2 y3 y4) k = s at *
        clear hlo hs
        have hkk : k = 0 ∨ k = 1 ∨ k = 2 ∨ k = 3 ∨ k = 4 := by omega
        obtain ⟨x, hx⟩ : ∃ x, R * 32 + s = x := ⟨_, rfl⟩
        have hor2 : bits BinOp.or IntKind.i64 (x : Int) ((2 ^ k : Nat) : Int) = ((x + 2 ^ k : Nat) : Int) := by rw [← hx, hor, Nat.add_assoc]
        rw [hx]
        have HX := Lib.hid hx
        have hx1 : x ≤ 600 := by omega
        clear hor hx hs16
        rcases hkk with rfl | rfl | rfl | rfl | rfl
        · obtain rfl : i = 0 := by omega
          clear hik
          have hor3 : bits BinOp.or IntKind.i64 (x : Int) 1 = (x : Int) + 1 := by
            have h := hor2
            rw [show (2 : Nat) ^ 0 = 1 from by decide] at h
            exact h
          clear hor2
          cases hy : five y0 y1 y2 y3 y4 0 with
          | true =>
            rw [hy] at ck
            rw [hy] at hnx
            clear hy
            go_wp2_with fail
            go_round
            case rel => exact ⟨0 + 1, 0 + 1, by omega, by decide, rfl, by rw [hnx.out]; show Value.int .i64 _ = .int .i64 _; congr 1; have := HX.out; simp; omega⟩
            case measure => simp [intOf]
          | false =>
            rw [hy] at ck
            rw [hy] at hnx
            clear hy
            go_wp2_with fail
            go_round
            case rel => exact ⟨0 + 1, 0 + 1, by omega, by decide, rfl, by rw [hnx.out]; show Value.int .i64 _ = .int .i64 _; congr 1; have := HX.out; simp; omega⟩
            case measure => simp [intOf]
        · obtain rfl : i = 1 := by omega
          clear hik
          have hor3 : bits BinOp.or IntKind.i64 (x : Int) 2 = (x : Int) + 2 := by
            have h := hor2
            rw [show (2 : Nat) ^ 1 = 2 from by decide] at h
            exact h
          clear hor2
          cases hy : five y0 y1 y2 y3 y4 1 with
          | true =>
            rw [hy] at ck
            rw [hy] at hnx
            clear hy
            go_wp2_with fail
            go_round
            case rel => exact ⟨1 + 1, 1 + 1, by omega, by decide, rfl, by rw [hnx.out]; show Value.int .i64 _ = .int .i64 _; congr 1; have := HX.out; simp; omega⟩
            case measure => simp [intOf]
          | false =>
            rw [hy] at ck
            rw [hy] at hnx
            clear hy
            go_wp2_with fail
            go_round
            case rel => exact ⟨1 + 1, 1 + 1, by omega, by decide, rfl, by rw [hnx.out]; show Value.int .i64 _ = .int .i64 _; congr 1; have := HX.out; simp; omega⟩
            case measure => simp [intOf]
        · obtain rfl : i = 2 := by omega
          clear hik
          have hor3 : bits BinOp.or IntKind.i64 (x : Int) 4 = (x : Int) + 4 := by
            have h := hor2
            rw [show (2 : Nat) ^ 2 = 4 from by decide] at h
            exact h
          clear hor2
          cases hy : five y0 y1 y2 y3 y4 2 with
          | true =>
            rw [hy] at ck
            rw [hy] at hnx
            clear hy
            go_wp2_with fail
            go_round
            case rel => exact ⟨2 + 1, 2 + 1, by omega, by decide, rfl, by rw [hnx.out]; show Value.int .i64 _ = .int .i64 _; congr 1; have := HX.out; simp; omega⟩
            case measure => simp [intOf]
          | false =>
            rw [hy] at ck
            rw [hy] at hnx
            clear hy
            go_wp2_with fail
            go_round
            case rel => exact ⟨2 + 1, 2 + 1, by omega, by decide, rfl, by rw [hnx.out]; show Value.int .i64 _ = .int .i64 _; congr 1; have := HX.out; simp; omega⟩
            case measure => simp [intOf]
        · obtain rfl : i = 3 := by omega
          clear hik
          have hor3 : bits BinOp.or IntKind.i64 (x : Int) 8 = (x : Int) + 8 := by
            have h := hor2
            rw [show (2 : Nat) ^ 3 = 8 from by decide] at h
            exact h
          clear hor2
          cases hy : five y0 y1 y2 y3 y4 3 with
          | true =>
            rw [hy] at ck
            rw [hy] at hnx
            clear hy
            go_wp2_with fail
            go_round
            case rel => exact ⟨3 + 1, 3 + 1, by omega, by decide, rfl, by rw [hnx.out]; show Value.int .i64 _ = .int .i64 _; congr 1; have := HX.out; simp; omega⟩
            case measure => simp [intOf]
          | false =>
            rw [hy] at ck
            rw [hy] at hnx
            clear hy
            go_wp2_with fail
            go_round
            case rel => exact ⟨3 + 1, 3 + 1, by omega, by decide, rfl, by rw [hnx.out]; show Value.int .i64 _ = .int .i64 _; congr 1; have := HX.out; simp; omega⟩
            case measure => simp [intOf]
        · obtain rfl : i = 4 := by omega
          clear hik
          have hor3 : bits BinOp.or IntKind.i64 (x : Int) 16 = (x : Int) + 16 := by
            have h := hor2
            rw [show (2 : Nat) ^ 4 = 16 from by decide] at h
            exact h
          clear hor2
          cases hy : five y0 y1 y2 y3 y4 4 with
          | true =>
            rw [hy] at ck
            rw [hy] at hnx
            clear hy
            go_wp2_with fail
            go_round
            case rel => exact ⟨4 + 1, 4 + 1, by omega, by decide, rfl, by rw [hnx.out]; show Value.int .i64 _ = .int .i64 _; congr 1; have := HX.out; simp; omega⟩
            case measure => simp [intOf]
          | false =>
            rw [hy] at ck
            rw [hy] at hnx
            clear hy
            go_wp2_with fail
            go_round
            case rel => exact ⟨4 + 1, 4 + 1, by omega, by decide, rfl, by rw [hnx.out]; show Value.int .i64 _ = .int .i64 _; congr 1; have := HX.out; simp; omega⟩
            case measure => simp [intOf]
      · obtain rfl : k = 5 := by omega
        obtain rfl : i = 5 := by omega
        clear hik
        have FIN : Hid ((R * 32 + lowS (five y0 y1 y2 y3 y4) 5 : Nat) = packS r (five y0 y1 y2 y3 y4) 5) := Lib.hid (by rw [packS, HR.out])
        go_wp2_with fail
        go_ret
        exact ⟨by rw [← FIN.out]; rfl, HB.out⟩

end Go.Proofs.YtjcklfbpdjfibaaDoor

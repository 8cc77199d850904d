/-
  overdriveref1's Take, Put and overdriveref's Bytes.
-/
import Derived.Test.YtibafpbfgmjcgaaRows1
namespace Go.Proofs.Ytibafpbfgmjcgaa
open Go.RowKit

/-- What the document's Take answers: as Take; where there is nothing, why. -/
def RTakePost (bs : List Nat) (i : Int) (w : World) (e : Ending) (w' : World) : Prop :=
  ((∃ y : Int, (y = 1 ∨ y = 2) ∧ takeAt bs i = none ∧ e = .returned (.tuple #[.int .u64 0, .int .i64 0, .int .i64 y])) ∨
   (∃ v n : Nat, takeAt bs i = some (v, n) ∧ e = .returned (.tuple #[.int .u64 (v : Int), .int .i64 (i + (n : Int)), .int .i64 0]))) ∧ w = w'

theorem rpost_none {bs : List Nat} {i y : Int} {w : World} (h : takeAt bs i = none) (hy : y = 1 ∨ y = 2) : RTakePost bs i w (.returned (.tuple #[.int .u64 0, .int .i64 0, .int .i64 y])) w :=
  ⟨.inl ⟨y, hy, h, rfl⟩, rfl⟩

theorem rpost_some {bs : List Nat} {i : Int} {w : World} {v n : Nat} {V N : Int} (h : takeAt bs i = some (v, n)) (hV : V = v) (hN : N = i + n) : RTakePost bs i w (.returned (.tuple #[.int .u64 V, .int .i64 N, .int .i64 0])) w := by
  rw [hV, hN]; exact ⟨.inr ⟨v, n, h, rfl⟩, rfl⟩

set_option maxRecDepth 100000 in
set_option maxHeartbeats 400000 in
theorem rtake_in (b off len cap : Nat) (bs : List Nat) (i : Nat) (w : World) (hlen : bs.length = len) (hi : i < len) (hreach : len ≤ 140737488351232)
    (hbs : ∀ g ∈ bs, g < 256) (hc : ∀ j, j < len → w.cell? ⟨b, off + j, none⟩ = some (.int .u8 ((bs.getD j 0 : Nat) : Int))) :
    Calls Try.prog 17 #[.slice (some ⟨b, off, none⟩) len cap, .int .i64 i] w (RTakePost bs i w) := by
  have h0 : decide ((i : Int) < 0) = false := by simp
  have h1 : decide ((len : Int) ≤ (i : Int)) = false := by simp; omega
  have HC := Lib.hid hc
  have HL := Lib.hid hlen
  clear hc hlen
  go_enter Try.func17, Try.ntmps17
  go_wp2
  go_loop [7, 8] (fun su sk => TakeRel bs i su sk) (fun _ sk => 10 - (intOf sk).toNat)
  case atStart => exact ⟨0, 0, by omega, by have := HL.out; omega, rfl, rfl, fun _ => by simp, rfl⟩
  case round =>
    obtain ⟨k, U, hk, hik, rfl, rfl, hU, hT⟩ := hrel
    have HU := Lib.hid hU
    have HT := Lib.hid hT
    clear hU hT
    by_cases hk10 : k < 10
    · have t1 : decide ((k : Int) < 10) = true := by simp; omega
      by_cases hin : i + k < len
      · have t2 : decide ((len : Int) - (i : Int) ≤ (k : Int)) = false := by simp; omega
        obtain ⟨g, hg⟩ : ∃ g, g = bs.getD (i + k) 0 := ⟨_, rfl⟩
        have hcell : w.cell? ⟨b, off + (i + k), none⟩ = some (.int .u8 (g : Int)) := by rw [hg]; exact HC.out (i + k) hin
        have hg256 : g < 256 := by
          have hm : bs.getD (i + k) 0 ∈ bs := by
            have hl : i + k < bs.length := by have := HL.out; omega
            rw [List.getD_eq_getElem?_getD, List.getElem?_eq_getElem hl]; exact List.getElem_mem hl
          rw [hg]; exact hbs _ hm
        have HG := Lib.hid hg
        clear hg
        obtain ⟨V, hV, hVe⟩ := or_term U k g (by omega) (HU.out (by omega)) hg256
        have HV := Lib.hid hVe
        clear hVe
        have hsh : IntKind.u64.wrap (7 * (k : Int)) = 7 * (k : Int) := by rw [IntKind.wrap_u64]; omega
        have hgl : i + k < bs.length := by have := HL.out; omega
        have hT1 := HT.out
        rw [drop_get bs (i + k) hgl, ← HG.out] at hT1
        by_cases h9 : k = 9 ∧ 1 < g
        · obtain ⟨rfl, hg1⟩ := h9
          have hA : takeAt bs (i : Int) = none := by
            rw [takeAt_nat, ← hT1]
            by_cases h128 : g < 128
            · exact takeL_bad g _ 9 U hk10 h128 (.inr ⟨rfl, hg1⟩)
            · rw [takeL_more g _ 9 U hk10 (by omega)]; exact takeL_end _ _ _ (by omega)
          have HA := Lib.hid hA
          have t3 : decide ((1 : Int) < (g : Int)) = true := by simp; omega
          clear hA hT1 hV hsh
          go_wp2
          go_ret3
          exact rpost_none HA.out (.inr rfl)
        · by_cases h128 : g < 128
          · have t3 : decide ((g : Int) < 128) = true := by simp; omega
            by_cases hb : g = 0 ∧ 0 < k
            · obtain ⟨rfl, hk0⟩ := hb
              have hA : takeAt bs (i : Int) = none := by rw [takeAt_nat, ← hT1]; exact takeL_bad 0 _ k U hk10 h128 (.inl ⟨rfl, hk0⟩)
              have HA := Lib.hid hA
              have hcell' : w.cell? ⟨b, off + (i + k), none⟩ = some (.int .u8 0) := by simpa using hcell
              have t4 : decide ((0 : Int) < (k : Int)) = true := by simp; omega
              clear hA hT1 hcell hV h9
              by_cases hk9 : k = 9
              · subst hk9
                go_wp2
                go_ret3
                exact rpost_none HA.out (.inr rfl)
              · have t5 : ((k : Int) == 9) = false := by simp; omega
                go_wp2
                go_ret3
                exact rpost_none HA.out (.inr rfl)
            · have hA : takeAt bs (i : Int) = some (U + g * 128 ^ k, k + 1) := by rw [takeAt_nat, ← hT1]; exact takeL_good g _ k U hk10 h128 (by omega)
              have hVV : V = U + g * 128 ^ k := by
                rw [HV.out (by omega), Nat.mod_eq_of_lt h128]
              have HA := Lib.hid hA
              have HVV := Lib.hid hVV
              clear hA hT1 hVV
              by_cases hg0 : g = 0
              · subst hg0
                obtain rfl : k = 0 := by omega
                have hV' : bits BinOp.or IntKind.u64 (U : Int) (IntKind.u64.wrap (IntKind.u64.wrap (bits BinOp.and IntKind.u8 0 127))) = (V : Int) := by simpa using hV
                have hcell' : w.cell? ⟨b, off + i, none⟩ = some (.int .u8 0) := by simpa using hcell
                clear hV hcell hsh h9 hb
                go_wp2
                go_ret3
                exact rpost_some HA.out (by rw [HVV.out]) (by simp)
              · have t4 : ((g : Int) == 0) = false := by simp; omega
                by_cases hk9 : k = 9
                · subst hk9
                  have t5 : decide ((1 : Int) < (g : Int)) = false := by simp; omega
                  have hV' : bits BinOp.or IntKind.u64 (U : Int) (IntKind.u64.wrap (IntKind.u64.wrap (bits BinOp.and IntKind.u8 (g : Int) 127) * 9223372036854775808)) = (V : Int) := by rw [← hV]; rfl
                  clear hV hsh h9 hb
                  go_wp2
                  go_ret3
                  exact rpost_some HA.out (by rw [HVV.out]) (by simp; omega)
                · have t5 : ((k : Int) == 9) = false := by simp; omega
                  clear h9 hb
                  go_wp2
                  go_ret3
                  exact rpost_some HA.out (by rw [HVV.out]) (by simp; omega)
          · have t3 : decide ((g : Int) < 128) = false := by simp; omega
            have hk9 : k ≠ 9 := by omega
            have t5 : ((k : Int) == 9) = false := by simp; omega
            clear hT1 h9
            go_wp2
            go_round
            case rel => exact rel_next (by omega) (by have := HL.out; omega) HU.out HG.out (by omega) HV.out HT.out
            case measure => simp [intOf]; omega
      · have t2 : decide ((len : Int) - (i : Int) ≤ (k : Int)) = true := by simp; omega
        go_wp2
        go_ret3
        exact rpost_none (at_end (.inr (by have := HL.out; omega)) HT.out) (.inl rfl)
    · have t1 : decide ((k : Int) < 10) = false := by simp; omega
      go_wp2
      go_ret3
      exact rpost_none (at_end (.inl (by omega)) HT.out) (.inr rfl)

set_option maxRecDepth 100000 in
theorem rtake_any (a : Option Addr) (len cap : Nat) (zs : List Int) (i : Int) (w : World) (hr : Row .u8 w a len cap zs) (hreach : len ≤ 140737488351232) :
    Calls Try.prog 17 #[.slice a len cap, .int .i64 i] w (RTakePost (nats zs) i w) := by
  by_cases h0 : 0 ≤ i
  · by_cases h1 : i < len
    · obtain ⟨b, off, rfl, hc⟩ := Row_at hr (by omega)
      obtain ⟨n, rfl⟩ := Int.eq_ofNat_of_zero_le h0
      exact rtake_in b off len cap (nats zs) n w (by rw [nats_length, hr.len_eq]) (by omega) hreach (nats_lt hr.wf) (fun j hj => by rw [hc j hj, getD_nats hr.wf])
    · have hn : takeAt (nats zs) i = none := by
        rw [takeAt, if_pos h0, List.drop_of_length_le (by rw [nats_length, hr.len_eq]; omega)]; rfl
      have HN := Lib.hid hn
      have t0 : decide (i < 0) = false := by simp; omega
      have t1 : decide ((len : Int) ≤ i) = true := by simp; omega
      clear hn hr h0 h1
      go_enter Try.func17, Try.ntmps17
      go_wp2
      go_ret3
      exact rpost_none HN.out (.inl rfl)
  · have hn : takeAt (nats zs) i = none := by rw [takeAt, if_neg h0]
    have HN := Lib.hid hn
    have t0 : decide (i < 0) = true := by simp; omega
    clear hn hr h0
    go_enter Try.func17, Try.ntmps17
    go_wp2
    go_ret3
    exact rpost_none HN.out (.inl rfl)
end Go.Proofs.Ytibafpbfgmjcgaa

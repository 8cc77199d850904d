/-
  WordSays, walked: it returns true, and writes nothing that was there.
-/
import Derived.Test.YtibafpbfgmjcgaaRefPut
namespace Go.Proofs.Ytibafpbfgmjcgaa
open Go.RowKit

theorem grown_of_below {a w : World} (h : Below a.heap.size a w) : a.grownBy w none := ⟨h.os, h.tape, h.output, h.size, fun k hk _ => h.block k hk⟩

theorem own_form {B : Nat} {w : World} {v : Value} {e n : Nat} {xs : List Value} (h : w.ownsRow B e 1 v n xs) (hn : 0 < n) : ∃ g cap, v = .slice (some ⟨g, 0, none⟩) n cap := by
  rcases h.2 with ⟨_, h0⟩ | ⟨g, cap, cur, hv, _⟩
  · omega
  · exact ⟨g, cap, hv⟩

theorem enc_one (l : List Nat) : ∀ v ∈ l.map (fun (n : Nat) => Value.int .u8 (n : Int)), v.oneCell' = true := by
  intro v hv
  obtain ⟨n, _, rfl⟩ := List.mem_map.1 hv
  rfl

theorem says_long (op a b : Int) (u : Int) (l : Option Addr) (len cap : Nat) (i : Int) (w : World) (h : 1000 < len) :
    Calls Try.prog 3 #[.int .i64 op, .int .i64 a, .int .i64 b, .int .u64 u, .slice l len cap, .int .i64 i] w (TruePost w) := by
  have t0 : decide ((1000 : Int) < (len : Int)) = true := by simp; omega
  clear h
  go_enter Try.func3, Try.ntmps3
  go_wp2_with (go_at_call 10; refine (first_any _).mono ?_; rintro e w1 ⟨rfl, hb⟩)
  go_ret
  exact ⟨rfl, by assumption⟩

/-- The document's Take, its answer in one form: the number, the place, and whether there is nothing. -/
theorem rtake_form (a : Option Addr) (len cap : Nat) (zs : List Int) (i : Int) (w : World) (hr : Row .u8 w a len cap zs) (hreach : len ≤ 140737488351232) :
    ∃ v n : Int, ∃ has : Bool, (Calls Try.prog 16 #[.slice a len cap, .int .i64 i] w fun e w' => e = .returned (.tuple #[.int .u64 v, .int .i64 n, .bool has]) ∧ w = w') ∧
      (Calls Try.prog 17 #[.slice a len cap, .int .i64 i] w fun e w' => ∃ y : Int, e = .returned (.tuple #[.int .u64 v, .int .i64 n, .int .i64 y]) ∧ (y == 0) = has ∧ w = w') := by
  cases hq : takeAt (nats zs) i with
  | none =>
    refine ⟨0, 0, false, take_no a len cap zs i w hr hreach hq, (rtake_any a len cap zs i w hr hreach).mono ?_⟩
    rintro e w' ⟨h | ⟨v, n, h, _⟩, hw⟩
    · obtain ⟨y, hy, _, rfl⟩ := h
      exact ⟨y, rfl, by rcases hy with rfl | rfl <;> rfl, hw⟩
    · rw [hq] at h; cases h
  | some xn =>
    obtain ⟨x, k⟩ := xn
    refine ⟨x, i + k, true, take_yes a len cap zs i x k w hr hreach hq, (rtake_any a len cap zs i w hr hreach).mono ?_⟩
    rintro e w' ⟨h | ⟨v, n, h, he⟩, hw⟩
    · obtain ⟨y, hy, h, _⟩ := h
      rw [hq] at h; cases h
    · rw [hq] at h
      cases h
      exact ⟨0, he, rfl, hw⟩

set_option maxRecDepth 100000 in
set_option maxHeartbeats 2000000 in
theorem says_short (op a b : Int) (u : Nat) (l : Option Addr) (len cap : Nat) (zs : List Int) (i : Int) (w : World) (hop : op = 18 ∨ ((op == 18) = false ∧ pure' op = true) ∨ ((op == 18) = false ∧ pure' op = false)) (h : len ≤ 1000) (hr : Row .u8 w l len cap zs)
    (a0 : -9223372036854775808 ≤ a) (a1 : a ≤ 9223372036854775807) (u1 : u < 18446744073709551616) :
    Calls Try.prog 3 #[.int .i64 op, .int .i64 a, .int .i64 b, .int .u64 (u : Int), .slice l len cap, .int .i64 i] w (TruePost w) := by
  obtain ⟨i0, hi, hz0, hz1, hz2⟩ := info_parts info5
  have t0 : decide ((1000 : Int) < (len : Int)) = false := by simp; omega
  have HR := Lib.hid hr
  have HA := Lib.hid (And.intro a0 a1)
  have HU := Lib.hid u1
  have p18 : pure' 18 = true := by decide
  clear hr a0 a1 u1
  rcases hop with rfl | ⟨g1, g2⟩ | ⟨g1, g2⟩
  all_goals
    go_enter Try.func3, Try.ntmps3
    go_wp2_with (first
      | (go_at_call 10; refine (first_any _).mono ?_; rintro e w1 ⟨rfl, hb1⟩)
      | (go_at_call 11; refine (two_any _ _ _ _).mono ?_; rintro e w' ⟨rfl, rfl⟩)
      | (go_at_call 12; refine (rtwo_any _ _ _ _).mono ?_; rintro e w' ⟨rfl, rfl⟩)
      | (go_at_call 13; refine (one_any _ _ _).mono ?_; rintro e w' ⟨rfl, rfl⟩)
      | (go_at_call 14; refine (pure_any _ _).mono ?_; rintro e w' ⟨rfl, rfl⟩)
      | (go_at_call 15; refine (rpure_any _ _).mono ?_; rintro e w' ⟨rfl, rfl⟩))
    have hr1 : Row .u8 w1 l len cap zs := Row_cells HR.out hb1
    obtain ⟨tv, tn, has, htk, hrt⟩ := rtake_form l len cap zs i w1 hr1 (by omega)
    have HB1 := Lib.hid hb1
    have HR1 := Lib.hid hr1
    have HTK := Lib.hid htk
    have HRT := Lib.hid hrt
    clear hb1 hr1 htk hrt
    refine (HTK.out).mono ?_
    rintro e w' ⟨rfl, rfl⟩
    go_wp2_with fail
    refine (HRT.out).mono ?_
    rintro e w' ⟨y, rfl, hy, rfl⟩
    go_wp2_with fail
    refine (put_row l len cap zs u _ HR1.out (by omega) HU.out).mono ?_
    rintro e w2 ⟨pa, pm, pcap, rfl, hp, hpa, hb2⟩
    have HP := Lib.hid hp
    have HB2 := Lib.hid hb2
    clear hp hb2 hpa
    go_wp2_with fail
    refine (bytes_any l len cap zs _ (Row_cells HR1.out HB2.out) (by omega)).mono ?_
    rintro e w3 ⟨rfl, hown3, hb3⟩
    have HO3 := Lib.hid hown3
    have HB3 := Lib.hid hb3
    clear hown3 hb3
    go_wp2_with fail
    refine (rput_any u _ HU.out).mono ?_
    rintro e w4 ⟨v4, m4, rfl, hown4, hb4⟩
    have hm4 : m4 = (encF 9 u).length := by have := hown4.1; simpa using this.symm
    obtain ⟨g4, c4, rfl⟩ := own_form hown4 (by have := enc_pos 9 u; omega)
    have hown34 := HO3.out.kept (grown_of_below hb4) (.inr (by simp [Value.ownBlock]))
    have hcells := hown4.cells (g := g4) rfl
    have hlen10 := enc_len 9 u
    have b1 : len + m4 ≤ maxLen := by unfold maxLen; omega
    have b2 : (len + m4) * 1 ≤ 140737488355328 := by omega
    have hs3 := HB3.out.size
    have hs4 := hb4.size
    have b3 : w2.heap.size ≤ w4.heap.size := by omega
    have HM := Lib.hid hm4
    have HB4 := Lib.hid hb4
    have HO := Lib.hid hown34
    have HC := Lib.hid hcells
    clear hm4 hb4 hown34 hcells hown4 hs3 hs4 hlen10
    go_wp2_with (at_builtin; refine wpList_append_own _ rfl (.tmp 132) (.tmp 134) 23 rfl w2.heap.size 5 i0 (.int .u8 0) 1 1 Try.underlying23 hi hz0 hz1 hz2 rfl (by decide) _ len _ rfl HO.out ⟨g4, 0, none⟩ m4 c4 _ rfl (by simp; exact HM.out.symm) HC.out (enc_one _) b1 b2 b3 ?_; intro v5 w5 hown5 hgrow5 _)
    have hk5 : w2.heap.size ≤ w2.heap.size := Nat.le_refl _
    have hb25 : Below w2.heap.size w2 w5 := (HB3.out.trans (HB4.out.mono HB3.out.size)).grown hgrow5 b3 (own_block_lt HO.out)
    have hbel : Below w.heap.size w w5 := (HB1.out.trans (HB2.out.mono HB1.out.size)).trans (hb25.mono (Nat.le_trans HB1.out.size HB2.out.size))
    have hp5 : Row .u8 w5 pa pm pcap (zs ++ (encF 9 u).map (fun (n : Nat) => (n : Int))) := Row_cells HP.out hb25
    have e1 : zs.map (Value.int .u8) ++ (encF 9 u).map (fun (n : Nat) => Value.int .u8 (n : Int)) = (zs ++ (encF 9 u).map (fun (n : Nat) => (n : Int))).map (Value.int .u8) := by
      rw [List.map_append, List.map_map]; rfl
    rw [e1] at hown5
    obtain ⟨a5, c5, rfl, hrow5⟩ := row_of_owns hown5 HP.out.wf
    have hpm : pm ≤ 140737488351232 := by
      have h1 := HP.out.len_eq
      have h2 := HR.out.len_eq
      have h3 := enc_len 9 u
      rw [List.length_append, List.length_map] at h1
      omega
    have HP5 := Lib.hid hp5
    have HR5 := Lib.hid hrow5
    have HBE := Lib.hid hbel
    clear hk5 hb25 hbel hp5 e1 hown5 hgrow5 hrow5 b1 b2 b3
    go_wp2_with fail
    refine (same_any pa a5 pm pcap _ c5 _ _ w5 HP5.out HR5.out hpm).mono ?_
    rintro e w6 ⟨rfl, k, rfl⟩
    have hdec : decide ((zs ++ (encF 9 u).map (fun (n : Nat) => (n : Int))) = (zs ++ (encF 9 u).map (fun (n : Nat) => (n : Int)))) = true := by simp
    go_wp2_with fail
    refine (zig_any a _ HA.out.1 HA.out.2).mono ?_
    rintro e w' ⟨rfl, rfl⟩
    go_wp2_with fail
    refine (rzig_any a _ HA.out.1 HA.out.2).mono ?_
    rintro e w' ⟨rfl, rfl⟩
    go_wp2_with fail
    refine (zag_any (u : Int) _ (by omega) (by have := HU.out; omega)).mono ?_
    rintro e w' ⟨rfl, rfl⟩
    go_wp2_with fail
    refine (rzag_any u _ HU.out).mono ?_
    rintro e w' ⟨rfl, rfl⟩
    go_wp2
    go_ret
    exact ⟨by simp, below_drewN HBE.out k⟩

theorem says_law (op a b u : Int) (l : Option Addr) (len cap : Nat) (zs : List Int) (i : Int) (w : World) (_hop : (Lit.int .i64 op).wf = true) (ha : (Lit.int .i64 a).wf = true) (_hb : (Lit.int .i64 b).wf = true) (hu : (Lit.int .u64 u).wf = true) (hr : Row .u8 w l len cap zs) (_hi : (Lit.int .i64 i).wf = true) :
    Calls Try.prog 3 #[.int .i64 op, .int .i64 a, .int .i64 b, .int .u64 u, .slice l len cap, .int .i64 i] w (TruePost w) := by
  obtain ⟨u0, u1⟩ := wf_u64 hu
  obtain ⟨v, rfl⟩ := Int.eq_ofNat_of_zero_le u0
  by_cases h : len ≤ 1000
  · refine says_short op a b v l len cap zs i w ?_ h hr (wf_i64 ha).1 (wf_i64 ha).2 (by omega)
    by_cases ho : op = 18
    · exact .inl ho
    · cases hp : pure' op
      · exact .inr (.inr ⟨by simpa using ho, rfl⟩)
      · exact .inr (.inl ⟨by simpa using ho, rfl⟩)
  · exact says_long op a b v l len cap i w (by omega)
end Go.Proofs.Ytibafpbfgmjcgaa

/-
  Package scan over any bytes: what may not be a number leaves an error behind.
-/
import Derived.Test.YtjcklfbpdjfibaaDoorS6
import Derived.Test.YtjcklfbpdjfibaaDoorRdr3
namespace Go.Proofs.YtjcklfbpdjfibaaDoor
open Go.RowKit

def CutAny (w : World) (e : Ending) (w' : World) : Prop := (∃ v, e = .returned (.bool v)) ∧ ∃ n, w' = w.drewN n

theorem cut_any (r b off bl bc p : Nat) (bs : List Nat) (w : World) (h : RBx r (some ⟨b, off, none⟩) bl bc p .nilIface w) (_hlen : bs.length = bl) (hp : p ≤ bl) (hbc : bl ≤ bc) (hm : bc ≤ maxLen) (hbl : bl ≤ 1000000) (hcell : ∀ j, j < bl → w.cell? ⟨b, off + j, none⟩ = some (.int .u8 (bs.getD j 0 : Nat))) :
    Calls Tryd.prog 152 #[.pointer (some ⟨r, 0, none⟩)] w (CutAny w) := by
  obtain ⟨c0, c1, c2, f1, f2⟩ := h.cells
  unfold maxLen at hm
  have HH : Hid (∀ j, p + j < bl → ∃ g : Nat, w.cell? ⟨b, off + p + j, none⟩ = some (.int .u8 (g : Int))) := Lib.hid fun j hj => ⟨bs.getD (p + j) 0, by rw [Nat.add_assoc]; exact hcell (p + j) hj⟩
  clear h hcell _hlen
  by_cases hpb : p = bc
  · have hz : bl = p := by omega
    subst hz
    subst hpb
    go_enter Tryd.func152, Tryd.ntmps152
    go_wp2_with fail
    go_quiet (fail)
    all_goals go_wp2_with fail
    all_goals
      go_loop [17] (fun si => si = .int .i64 0) (fun _ => 0)
      case atStart => rfl
      case round =>
        obtain rfl := hrel
        go_wp2_with fail
        go_ret
        exact ⟨⟨_, rfl⟩, _, rfl⟩
  · have t1 : (bc == p) = false := by simp; omega
    have t2 : ¬ bc = p := by omega
    have t3 : ¬ p = bc := hpb
    obtain ⟨m, hm2⟩ : ∃ m, bl - p = m := ⟨_, rfl⟩
    go_enter Tryd.func152, Tryd.ntmps152
    go_wp2_with fail
    go_quiet (fail)
    all_goals go_wp2_with fail
    all_goals
      go_loop [17] (fun si => ∃ j : Nat, j ≤ m ∧ si = .int .i64 j) (fun si => m - (intOf si).toNat)
      case atStart => exact ⟨0, Nat.zero_le _, rfl⟩
      case round =>
        obtain ⟨j, hj, rfl⟩ := hrel
        by_cases hjm : j < m
        · have t4 : decide (j < m) = true := by simpa using hjm
          obtain ⟨g, hg⟩ := HH.out j (by omega)
          by_cases hg8 : g < 128
          · have t5 : decide ((g : Int) < 128) = true := by simp; omega
            clear hg8
            go_wp2_with fail
            go_ret
            exact ⟨⟨_, rfl⟩, _, rfl⟩
          · have t5 : decide ((g : Int) < 128) = false := by simp; omega
            clear hg8
            go_wp2_with fail
            go_round
            case rel => exact ⟨j + 1, by omega, by go_num⟩
            case measure => simp [intOf]; omega
        · obtain rfl : j = m := by omega
          have t4 : decide (j < j) = false := by simp
          go_wp2_with fail
          go_ret
          exact ⟨⟨_, rfl⟩, _, rfl⟩

/-- An error that was laid. -/
def BadP (_a : Nat → Addr) (r : Nat) (ba : Option Addr) (bl bc : Nat) (w : World) (v : Value) (e : Ending) (w' : World) : Prop :=
  e = .returned v ∧ ∃ p' b, RBx r ba bl bc p' (atErr b) w' ∧ w.grownBy w' (some r)

set_option maxHeartbeats 2000000 in
set_option maxRecDepth 100000 in
theorem wide_bad (a : Nat → Addr) (r b off bl bc p : Nat) (bs : List Nat) (w : World) (hS : Sents6 a w) (h : RBx r (some ⟨b, off, none⟩) bl bc p .nilIface w) (hr : Row .u8 w (some ⟨b, off, none⟩) bl bc (intsR bs)) (hm : bc ≤ maxLen) (hbl : bl ≤ 1000000) (hp : p ≤ bl) (hpos : 0 < bl) (hC : takeAt bs (p : Int) = none) :
    Calls Tryd.prog 139 #[.pointer (some ⟨r, 0, none⟩)] w (BadP a r (some ⟨b, off, none⟩) bl bc w (.int .u64 0)) := by
  have hle := hr.le
  have hlen : bs.length = bl := by have := hr.len_eq; simpa [intsR] using this
  have KT : Hid (∀ n, Calls Tryd.prog 151 #[.slice (some ⟨b, off, none⟩) bl bc, .int .i64 p] (w.drewN n) fun e w' => e = .returned (.tuple #[.int .u64 0, .int .i64 0, .bool false]) ∧ w' = w.drewN n) := Lib.hid fun n => by
    refine (take_any (some ⟨b, off, none⟩) bl bc (intsR bs) p (w.drewN n) (Row_drewN hr n) (by omega)).mono ?_
    rintro e w' ⟨he, rfl⟩
    rw [nats_ints, hC] at he
    exact ⟨he, rfl⟩
  have KC : Hid (∀ n, Calls Tryd.prog 152 #[.pointer (some ⟨r, 0, none⟩)] (w.drewN n) fun e w' => (∃ v, e = .returned (.bool v)) ∧ ∃ m, w' = w.drewN m) := Lib.hid fun n => by
    obtain ⟨b', off', e, hc⟩ := Row_at hr hpos
    cases e
    refine (cut_any r b off bl bc p bs (w.drewN n) h hlen hp hle hm hbl (fun j hj => ?_)).mono ?_
    · have h1 : w.cell? ⟨b, off + j, none⟩ = some (.int .u8 ((intsR bs).getD j 0)) := hc j hj
      have e2 : (intsR bs).getD j 0 = ((bs.getD j 0 : Nat) : Int) := by
        simp [intsR, List.getD_eq_getElem?_getD, List.getElem?_eq_getElem (show j < bs.length by omega)]
      rw [e2] at h1
      exact h1
    · rintro e w' ⟨he, m, rfl⟩
      exact ⟨he, n + m, by simp [World.drewN, Nat.add_assoc]⟩
  have c5 := hS.c5
  have c6 := hS.c6
  have HS := Lib.hid hS
  have HB := Lib.hid h
  obtain ⟨c0, c1, c2, f1, f2⟩ := h.cells
  obtain ⟨x, hx⟩ : ∃ x, a 5 = x := ⟨_, rfl⟩
  obtain ⟨y, hy⟩ : ∃ y, a 6 = y := ⟨_, rfl⟩
  rw [hx] at c5
  rw [hy] at c6
  have HX := Lib.hid hx
  have HY := Lib.hid hy
  clear hS h hr hC hx hy hlen
  go_enter Tryd.func139, Tryd.ntmps139
  go_wp2_with fail
  go_quiet ((go_at_call 151; exact Calls.quiet_of_same (KT.out _)))
  all_goals go_wp2_with fail
  all_goals
    refine (KC.out _).mono ?_
    rintro e w2 ⟨⟨v, rfl⟩, n2, rfl⟩
    have hW : RBx r (some ⟨b, off, none⟩) bl bc p .nilIface (w.drewN n2) := HB.out
    have cW : (w.drewN n2).cell? ⟨7, 0, none⟩ = some (.iface 211 (.pointer (some x))) := c5
    have cV : (w.drewN n2).cell? ⟨5, 0, none⟩ = some (.iface 211 (.pointer (some y))) := c6
    have hgW : w.grownBy (w.drewN n2) (some r) := ⟨rfl, rfl, rfl, Nat.le_refl _, fun _ _ _ => rfl⟩
    clear c0 c1 c2 f1 f2 c5 c6 KT KC
    generalize w.drewN n2 = W at *
    obtain ⟨c0, c1, c2, f1, f2⟩ := hW.cells
    have HW := Lib.hid hW
    have HGW := Lib.hid hgW
    clear hW hgW
    have hg2 : w.grownBy W.drew (some r) := ⟨HGW.out.os, HGW.out.tape, HGW.out.output, HGW.out.size, HGW.out.block⟩
    have hW2 : RBx r (some ⟨b, off, none⟩) bl bc p .nilIface W.drew := HW.out
    have FIN : Hid (∀ m pos w3, FailP a r (some ⟨b, off, none⟩) bl bc p m pos W.drew w3 → BadP a r (some ⟨b, off, none⟩) bl bc w (.int .u64 0) (.returned (.int .u64 0)) w3) := Lib.hid fun m pos w3 hf => by
      obtain ⟨q, hq1, hq2, hq3, hq4⟩ := hf
      exact ⟨rfl, p, q, hq1, ⟨hq4.os.trans hg2.os, hq4.tape.trans hg2.tape, hq4.output.trans hg2.output, Nat.le_trans hg2.size hq4.size, fun k hk hne => (hq4.block k (Nat.lt_of_lt_of_le hk hg2.size) hne).trans (hg2.block k hk hne)⟩⟩
    have F5 := Lib.hid (fail_new a r (some ⟨b, off, none⟩) bl bc p 5 (bl : Int) x HX.out W.drew hW2)
    have F6 := Lib.hid (fail_new a r (some ⟨b, off, none⟩) bl bc p 6 (p : Int) y HY.out W.drew hW2)
    clear hg2 hW2
    cases v with
    | true =>
      go_wp2_with fail
      go_still_tail 7, (by kernel_rfl)
      change wpList _ _ _ _ _ W.drew
      clear c0 c1 c2 f1 f2 cW cV
      generalize W.drew = W2 at *
      go_wp2_with fail
      refine F5.out.mono ?_
      rintro e w3 ⟨rfl, hf⟩
      have HF := Lib.hid (FIN.out _ _ _ hf)
      clear hf
      go_wp2_with fail
      go_ret
      exact HF.out
    | false =>
      go_wp2_with fail
      go_still_tail 6, (by kernel_rfl)
      change wpList _ _ _ _ _ W.drew
      clear c0 c1 c2 f1 f2 cW cV
      generalize W.drew = W2 at *
      go_wp2_with fail
      refine F6.out.mono ?_
      rintro e w3 ⟨rfl, hf⟩
      have HF := Lib.hid (FIN.out _ _ _ hf)
      clear hf
      go_wp2_with fail
      go_ret
      exact HF.out

theorem number_bad (a : Nat → Addr) (r b off bl bc p : Nat) (bs : List Nat) (w : World) (hS : Sents6 a w) (h : RBx r (some ⟨b, off, none⟩) bl bc p .nilIface w) (hr : Row .u8 w (some ⟨b, off, none⟩) bl bc (intsR bs)) (hm : bc ≤ maxLen) (hbl : bl ≤ 1000000) (hp : p ≤ bl) (hpos : 0 < bl) (hC : ∀ u k, takeAt bs (p : Int) = some (u, k) → 1048576 < u ∧ u < 18446744073709551616) :
    Calls Tryd.prog 106 #[.pointer (some ⟨r, 0, none⟩), .int .i64 0, .int .i64 1048576] w (BadP a r (some ⟨b, off, none⟩) bl bc w (.int .i64 0)) := by
  cases hT : takeAt bs (p : Int) with
  | none =>
    have KW := Lib.hid (wide_bad a r b off bl bc p bs w hS h hr hm hbl hp hpos hT)
    obtain ⟨c0, c1, c2, f1, f2⟩ := h.cells
    clear h hr hC hS hT
    go_enter Tryd.func106, Tryd.ntmps106
    go_wp2_with fail
    refine KW.out.mono ?_
    rintro e w2 ⟨rfl, p', q, h1, h4⟩
    have FIN : Hid (BadP a r (some ⟨b, off, none⟩) bl bc w (.int .i64 0) (.returned (.int .i64 0)) w2) := Lib.hid ⟨rfl, p', q, h1, h4⟩
    obtain ⟨d0, d1, d2, g1, g2⟩ := h1.cells
    unfold atErr at d2
    clear c0 c1 c2 f1 f2 h1 h4
    go_wp2_with fail
    go_ret
    exact FIN.out
  | some x =>
    obtain ⟨u, k⟩ := x
    obtain ⟨hu, hu2⟩ := hC u k hT
    have KW := Lib.hid (wide_ok r (some ⟨b, off, none⟩) bl bc p u k bs w h hr hbl hT)
    have HS := Lib.hid hS
    obtain ⟨y, hy⟩ : ∃ y, a 6 = y := ⟨_, rfl⟩
    have HY := Lib.hid hy
    have HRL : Hid (r < w.heap.size) := Lib.hid (Array.getElem?_eq_some_iff.1 h).1
    have c6 := hS.c6
    have hne : r ≠ 5 := fun e => by
      rw [e] at h
      have h2 := cell_of_row w 5 0 _ _ (0, 0) h
      rw [c6] at h2
      simp at h2
    obtain ⟨c0, c1, c2, f1, f2⟩ := h.cells
    clear h hr hC hS hT hy
    go_enter Tryd.func106, Tryd.ntmps106
    go_wp2_with fail
    refine KW.out.mono ?_
    rintro e w2 ⟨rfl, hb, hg⟩
    have e6 : w2.cell? ⟨5, 0, none⟩ = some (.iface 211 (.pointer (some y))) := by
      have h1 := HS.out.c6
      rw [HY.out] at h1
      rw [World.cell?_of_block (a := ⟨5, 0, none⟩) (hg.block _ (World.block_lt_of_cell? w _ h1) (fun e => hne (by cases e; rfl)))]
      exact h1
    have FN := Lib.hid (fail_new a r (some ⟨b, off, none⟩) bl bc (p + k) 6 (p : Int) y HY.out w2 hb)
    have HG := Lib.hid hg
    obtain ⟨d0, d1, d2, g1, g2⟩ := hb.cells
    have t1 : decide ((u : Int) < 0) = false := by simp
    have t2 : decide ((1048576 : Int) < (u : Int)) = true := by simp; omega
    clear c0 c1 c2 f1 f2 c6 hb hg hne
    go_wp2_with fail
    refine FN.out.mono ?_
    rintro e w3 ⟨rfl, q, h1, h2, h3, h4⟩
    have FIN : Hid (BadP a r (some ⟨b, off, none⟩) bl bc w (.int .i64 0) (.returned (.int .i64 0)) w3) := Lib.hid ⟨rfl, p + k, q, h1, ⟨h4.os.trans HG.out.os, h4.tape.trans HG.out.tape, h4.output.trans HG.out.output, Nat.le_trans HG.out.size h4.size, fun k hk hne => (h4.block k (Nat.lt_of_lt_of_le hk HG.out.size) hne).trans (HG.out.block k hk hne)⟩⟩
    clear d0 d1 d2 g1 g2
    obtain ⟨d0, d1, d2, g1, g2⟩ := h1.cells
    unfold atErr at d2
    clear h1 h2 h3 h4 e6 FN
    go_wp2_with fail
    go_ret
    exact FIN.out

end Go.Proofs.YtjcklfbpdjfibaaDoor

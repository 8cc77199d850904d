/-
  Package scan: Wide and Number where a number is whole, where the bytes end within it, behind an error.
-/
import Derived.Test.YtjcklfbpdjfibaaDoorRdr
import Derived.StillTailTactics
namespace Go.Proofs.YtjcklfbpdjfibaaDoor
open Go.RowKit

def intsR (l : List Nat) : List Int := l.map fun (n : Nat) => (n : Int)
theorem nats_ints (l : List Nat) : nats (intsR l) = l := by
  unfold nats intsR
  rw [List.map_map]
  conv => rhs; rw [← List.map_id l]
  exact List.map_congr_left fun x _ => by simp

def WideOk (r : Nat) (ba : Option Addr) (bl bc p _u k : Nat) (w : World) (v : Value) (e : Ending) (w' : World) : Prop :=
  e = .returned v ∧ RBx r ba bl bc (p + k) .nilIface w' ∧ w.grownBy w' (some r)

theorem grown_setCellR (w : World) (a : Addr) (u : Value) : w.grownBy (w.setCell a u) (some a.block) :=
  ⟨rfl, rfl, rfl, by simp, fun k _ hk => heap_setCell_other w a k u (fun e => hk (by rw [e]))⟩

theorem wide_ok (r : Nat) (ba : Option Addr) (bl bc p u k : Nat) (bs : List Nat) (w : World) (h : RBx r ba bl bc p .nilIface w) (hr : Row .u8 w ba bl bc (intsR bs)) (hl : bl ≤ 1000000) (hT : takeAt bs (p : Int) = some (u, k)) :
    Calls Tryd.prog 139 #[.pointer (some ⟨r, 0, none⟩)] w (WideOk r ba bl bc p u k w (.int .u64 u)) := by
  have KT : Hid (∀ n, Calls Tryd.prog 151 #[.slice ba bl bc, .int .i64 p] (w.drewN n) fun e w' => e = .returned (.tuple #[.int .u64 u, .int .i64 ((p : Int) + (k : Int)), .bool true]) ∧ w' = w.drewN n) := Lib.hid fun n => by
    refine (take_any ba bl bc (intsR bs) p (w.drewN n) (Row_drewN hr n) (by omega)).mono ?_
    rintro e w' ⟨he, rfl⟩
    rw [nats_ints, hT] at he
    exact ⟨he, rfl⟩
  have FIN : Hid (∀ n, WideOk r ba bl bc p u k w (.int .u64 u) (.returned (.int .u64 u)) ((w.drewN n).setCell ⟨r, 1, none⟩ (.int .i64 ((p : Int) + (k : Int))))) := Lib.hid fun n => by
    have h2 : RBx r ba bl bc p .nilIface (w.drewN n) := h
    refine ⟨rfl, ?_, ?_⟩
    · have h3 := (heap_setCell_same (w.drewN n) r 1 _ _ (.int .i64 ((p : Int) + (k : Int))) h2).trans rfl
      have e : ((p + k : Nat) : Int) = (p : Int) + (k : Int) := by omega
      unfold RBx
      rw [e]
      exact h3
    · have hg := grown_setCellR (w.drewN n) ⟨r, 1, none⟩ (.int .i64 ((p : Int) + (k : Int)))
      exact ⟨hg.os, hg.tape, hg.output, hg.size, hg.block⟩
  obtain ⟨c0, c1, c2, f1, f2⟩ := h.cells
  clear h hr hT
  go_enter Tryd.func139, Tryd.ntmps139
  go_wp2_with fail
  go_quiet ((go_at_call 151; exact Calls.quiet_of_same (KT.out _)))
  all_goals go_wp2_with fail
  all_goals go_ret
  all_goals exact FIN.out _

theorem wide_err (r : Nat) (ba : Option Addr) (bl bc p b : Nat) (w : World) (h : RBx r ba bl bc p (atErr b) w) :
    Calls Tryd.prog 139 #[.pointer (some ⟨r, 0, none⟩)] w fun e w' => e = .returned (.int .u64 0) ∧ w = w' := by
  obtain ⟨c0, c1, c2, f1, f2⟩ := h.cells
  unfold atErr at c2
  clear h
  go_enter Tryd.func139, Tryd.ntmps139
  go_wp2_with fail
  go_ret
  exact ⟨rfl, rfl⟩

def WideCut (a : Nat → Addr) (r : Nat) (ba : Option Addr) (bl bc p : Nat) (w : World) (v : Value) (e : Ending) (w' : World) : Prop :=
  e = .returned v ∧ FailP a r ba bl bc p 5 (bl : Int) w w'

set_option maxHeartbeats 2000000 in
set_option maxRecDepth 100000 in
theorem wide_cut (a : Nat → Addr) (r b off bl bc p : Nat) (bs : List Nat) (w : World) (hS : Sents a w) (h : RBx r (some ⟨b, off, none⟩) bl bc p .nilIface w) (hr : Row .u8 w (some ⟨b, off, none⟩) bl bc (intsR bs)) (hm : bc ≤ maxLen) (hbl : bl ≤ 1000000) (hp : p ≤ bl) (hpos : 0 < bl) (hC : CutAt bs p) :
    Calls Tryd.prog 139 #[.pointer (some ⟨r, 0, none⟩)] w (WideCut a r (some ⟨b, off, none⟩) bl bc p w (.int .u64 0)) := by
  have hle := hr.le
  have hlen : bs.length = bl := by have := hr.len_eq; simpa [intsR] using this
  have KT : Hid (∀ n, Calls Tryd.prog 151 #[.slice (some ⟨b, off, none⟩) bl bc, .int .i64 p] (w.drewN n) fun e w' => e = .returned (.tuple #[.int .u64 0, .int .i64 0, .bool false]) ∧ w' = w.drewN n) := Lib.hid fun n => by
    refine (take_any (some ⟨b, off, none⟩) bl bc (intsR bs) p (w.drewN n) (Row_drewN hr n) (by omega)).mono ?_
    rintro e w' ⟨he, rfl⟩
    rw [nats_ints, hC.none] at he
    exact ⟨he, rfl⟩
  have KC : Hid (∀ n, Calls Tryd.prog 152 #[.pointer (some ⟨r, 0, none⟩)] (w.drewN n) fun e w' => e = .returned (.bool true) ∧ ∃ m, w' = w.drewN m) := Lib.hid fun n => by
    obtain ⟨b', off', e, hc⟩ := Row_at hr hpos
    cases e
    refine (cut_yes r b off bl bc p bs (w.drewN n) h hlen hp hle hm hC (fun j hj => ?_)).mono ?_
    · have h1 : w.cell? ⟨b, off + j, none⟩ = some (.int .u8 ((intsR bs).getD j 0)) := hc j hj
      have e2 : (intsR bs).getD j 0 = ((bs.getD j 0 : Nat) : Int) := by
        simp [intsR, List.getD_eq_getElem?_getD, List.getElem?_eq_getElem (show j < bs.length by omega)]
      rw [e2] at h1
      exact h1
    · rintro e w' ⟨he, m, rfl⟩
      exact ⟨he, n + m, by simp [World.drewN, Nat.add_assoc]⟩
  have c5 := hS.c5
  have HS := Lib.hid hS
  have HB := Lib.hid h
  obtain ⟨c0, c1, c2, f1, f2⟩ := h.cells
  obtain ⟨x, hx⟩ : ∃ x, a 5 = x := ⟨_, rfl⟩
  rw [hx] at c5
  have HX := Lib.hid hx
  clear hS h hr hC hx hlen
  go_enter Tryd.func139, Tryd.ntmps139
  go_wp2_with fail
  go_quiet ((go_at_call 151; exact Calls.quiet_of_same (KT.out _)))
  all_goals go_wp2_with fail
  all_goals
    refine (KC.out _).mono ?_
    rintro e w2 ⟨rfl, n2, rfl⟩
    have hW : RBx r (some ⟨b, off, none⟩) bl bc p .nilIface (w.drewN n2) := HB.out
    have cW : (w.drewN n2).cell? ⟨7, 0, none⟩ = some (.iface 211 (.pointer (some x))) := c5
    have hgW : w.grownBy (w.drewN n2) (some r) := ⟨rfl, rfl, rfl, Nat.le_refl _, fun _ _ _ => rfl⟩
    clear c0 c1 c2 f1 f2 c5 KT KC
    generalize w.drewN n2 = W at *
    obtain ⟨c0, c1, c2, f1, f2⟩ := hW.cells
    have HW := Lib.hid hW
    have HGW := Lib.hid hgW
    clear hW hgW
    go_wp2_with fail
    go_still_tail 7, (by kernel_rfl)
    change wpList _ _ _ _ _ W.drew
    have hW2 : RBx r (some ⟨b, off, none⟩) bl bc p .nilIface W.drew := HW.out
    have hg2 : w.grownBy W.drew (some r) := ⟨HGW.out.os, HGW.out.tape, HGW.out.output, HGW.out.size, HGW.out.block⟩
    clear c0 c1 c2 f1 f2 cW
    generalize W.drew = W2 at *
    have FN := Lib.hid (fail_new a r (some ⟨b, off, none⟩) bl bc p 5 (bl : Int) x HX.out W2 hW2)
    have HG2 := Lib.hid hg2
    clear hW2 hg2
    go_wp2_with fail
    refine FN.out.mono ?_
    rintro e w3 ⟨rfl, q, hq1, hq2, hq3, hq4⟩
    have FIN : Hid (WideCut a r (some ⟨b, off, none⟩) bl bc p w (.int .u64 0) (.returned (.int .u64 0)) w3) := Lib.hid ⟨rfl, q, hq1, hq2, Nat.le_trans HG2.out.size hq3, ⟨hq4.os.trans HG2.out.os, hq4.tape.trans HG2.out.tape, hq4.output.trans HG2.out.output, Nat.le_trans HG2.out.size hq4.size, fun k hk hne => (hq4.block k (Nat.lt_of_lt_of_le hk HG2.out.size) hne).trans (HG2.out.block k hk hne)⟩⟩
    clear hq1 hq2 hq3 hq4 FN
    go_wp2_with fail
    go_ret
    exact FIN.out

end Go.Proofs.YtjcklfbpdjfibaaDoor

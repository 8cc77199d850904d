/-
  Two lists of picks compared; a script asked: what is left.
-/
import Derived.Test.YtjcklfbpdjfibaaDoorPik1
import Derived.StillTailTactics
namespace Go.Proofs.YtjcklfbpdjfibaaDoor
open Go.RowKit

theorem same_pick (T K A B : Int) (w : World) : Calls Tryd.prog 119 #[.agg #[.int .i64 T, .int .i64 K, .int .i64 A, .int .i64 B], .agg #[.int .i64 T, .int .i64 K, .int .i64 A, .int .i64 B]] w (TruePost w) := by
  have hb : Below w.heap.size w ((w.alloc (.cells #[.int .i64 T, .int .i64 K, .int .i64 A, .int .i64 B] 107)).alloc (.cells #[.int .i64 T, .int .i64 K, .int .i64 A, .int .i64 B] 107)) := ((Below.refl _ _).alloc (Nat.le_refl _) _).alloc (by simp) _
  have HB := Lib.hid hb
  clear hb
  go_enter Tryd.func119, Tryd.ntmps119
  go_wp2_with fail
  go_ret
  exact ⟨rfl, HB.out⟩

def SPRel (w : World) (n : Nat) (si : Value) (wr : World) : Prop := ∃ k : Nat, k ≤ n ∧ si = .int .i64 k ∧ Below w.heap.size w wr

set_option maxHeartbeats 2000000 in
set_option maxRecDepth 100000 in
theorem same_picks (a1 a2 : Option Addr) (n c1 c2 : Nat) (gv : Nat → Nat → Int) (w : World) (h1 : Picks w a1 n c1 gv) (h2 : Picks w a2 n c2 gv) (hn : n ≤ 400) :
    Calls Tryd.prog 68 #[.slice a1 n c1, .slice a2 n c2] w (TruePost w) := by
  have H1 := Lib.hid h1
  have H2 := Lib.hid h2
  have R0 : Hid (SPRel w n (.int .i64 ((0 : Nat) : Int)) w) := Lib.hid ⟨0, Nat.zero_le _, rfl, Below.refl _ _⟩
  clear h1 h2
  go_enter Tryd.func68, Tryd.ntmps68
  go_wp2_with fail
  go_loopw [5] (fun si wr => SPRel w n si wr) (fun si _ => n - (intOf si).toNat)
  case atStart => exact R0.out
  case round =>
    obtain ⟨k, hk, rfl, hb⟩ := hrel
    clear R0
    by_cases hlt : k < n
    · have t1 : decide (k < n) = true := by simpa using hlt
      obtain ⟨b1, o1, rfl, hl1, hc1⟩ := Picks_at H1.out (by omega)
      obtain ⟨b2, o2, rfl, hl2, hc2⟩ := Picks_at H2.out (by omega)
      have hcell1 : ∀ j, j < 4 → wr.cell? ⟨b1, o1 + (k * 4 + j), none⟩ = some (.int .i64 (gv k j)) := fun j hj => (hb.cell (p := ⟨b1, o1 + (k * 4 + j), none⟩) hl1).trans (hc1 k j hlt hj)
      have hcell2 : ∀ j, j < 4 → wr.cell? ⟨b2, o2 + (k * 4 + j), none⟩ = some (.int .i64 (gv k j)) := fun j hj => (hb.cell (p := ⟨b2, o2 + (k * 4 + j), none⟩) hl2).trans (hc2 k j hlt hj)
      have k0 := hcell1 0 (by omega)
      have k1 := hcell1 1 (by omega)
      have k2 := hcell1 2 (by omega)
      have k3 := hcell1 3 (by omega)
      have l0 := hcell2 0 (by omega)
      have l1 := hcell2 1 (by omega)
      have l2 := hcell2 2 (by omega)
      have l3 := hcell2 3 (by omega)
      clear hcell1 hcell2 hc1 hc2
      generalize gv k 0 = T at *
      generalize gv k 1 = K at *
      generalize gv k 2 = A at *
      generalize gv k 3 = B at *
      rw [Nat.add_zero] at k0 l0
      rw [← Nat.add_assoc] at k1 k2 k3 l1 l2 l3
      have HB := Lib.hid hb
      clear hb
      go_wp2_with fail
      go_still_tail 8, (by kernel_rfl)
      change wpList _ _ _ _ _ wr.drew
      have HB2 := Lib.hid (below_drew HB.out)
      clear k0 k1 k2 k3 l0 l1 l2 l3 HB
      generalize wr.drew = w2 at *
      go_wp2_with fail
      refine (same_pick T K A B _).mono ?_
      rintro e w3 ⟨rfl, hb3⟩
      have HB3 : Hid (Below w.heap.size w w3) := Lib.hid (HB2.out.trans (hb3.mono HB2.out.size))
      clear hb3 HB2
      go_wp2_with fail
      go_roundw
      case rel => exact ⟨k + 1, by omega, by go_num, HB3.out⟩
      case measure => simp [intOf]; omega
    · have t1 : decide (k < n) = false := by simpa using hlt
      have HB := Lib.hid hb
      clear hb
      go_wp2_with fail
      go_ret
      exact ⟨rfl, HB.out⟩

/-- A script: pos of its len picks are done; they lie in block c, its box is q. -/
def Scr (q c : Nat) (gv : Nat → Nat → Int) (len pos : Nat) (next : Int) (w : World) : Prop :=
  ∃ adr cp, SBox q (.slice adr (len - pos) cp) next w ∧ len - pos ≤ cp ∧ cp ≤ maxLen ∧ (pos < len → adr = some ⟨c, pos * 4, none⟩) ∧ c ≠ q ∧ ∀ i j, i < len → j < 4 → w.cell? ⟨c, i * 4 + j, none⟩ = some (.int .i64 (gv i j))

theorem SBox.lt {q : Nat} {v : Value} {next : Int} {w : World} (h : SBox q v next w) : q < w.heap.size := (Array.getElem?_eq_some_iff.1 h).1

theorem Scr.kept {q c : Nat} {gv : Nat → Nat → Int} {len pos : Nat} {next : Int} {w w' : World} {row : Option Nat} (h : Scr q c gv len pos next w) (hg : w.grownBy w' row) (hq : row ≠ some q) (hc : 0 < len → row ≠ some c) : Scr q c gv len pos next w' := by
  obtain ⟨adr, cp, hb, h1, h2, h3, h4, h5⟩ := h
  refine ⟨adr, cp, (hg.block q hb.lt (fun e => hq e.symm)).trans hb, h1, h2, h3, h4, fun i j hi hj => ?_⟩
  have hx := h5 i j hi hj
  have hl : c < w.heap.size := World.block_lt_of_cell? w _ hx
  rw [World.cell?_of_block (a := ⟨c, i * 4 + j, none⟩) (hg.block c hl (fun e => hc (by omega) e.symm))]
  exact hx

theorem grown_trans {a b c : World} {q : Nat} {row : Option Nat} (h : a.grownBy b (some q)) (h2 : b.grownBy c row) (hr : ∀ k, row = some k → k = q ∨ a.heap.size ≤ k) : a.grownBy c (some q) := by
  refine ⟨h2.os.trans h.os, h2.tape.trans h.tape, h2.output.trans h.output, Nat.le_trans h.size h2.size, fun k hk hne => ?_⟩
  rw [h2.block k (Nat.lt_of_lt_of_le hk h.size) (fun e => ?_)]
  · exact h.block k hk hne
  · rcases hr k e.symm with rfl | h1
    · exact hne rfl
    · omega

theorem left_any (q : Nat) (adr : Option Addr) (m cp : Nat) (next : Int) (w : World) (h : SBox q (.slice adr m cp) next w) :
    Calls Tryd.prog 76 #[.pointer (some ⟨q, 0, none⟩)] w fun e w' => e = .returned (.int .i64 m) ∧ w = w' := by
  have c0 : w.cell? ⟨q, 0, none⟩ = some (.slice adr m cp) := (cell_of_row w q 0 _ _ (0, 0) h).trans rfl
  clear h
  go_enter Tryd.func76, Tryd.ntmps76
  go_wp2_with fail
  go_ret
  exact ⟨rfl, rfl⟩

end Go.Proofs.YtjcklfbpdjfibaaDoor

/-
  Package script: May of a list of picks; New.
-/
import Derived.Test.YtjcklfbpdjfibaaDoorScr
namespace Go.Proofs.YtjcklfbpdjfibaaDoor
open Go.RowKit

/-- A list of picks: four numbers each. -/
structure Picks (w : World) (a : Option Addr) (len cap : Nat) (gv : Nat → Nat → Int) : Prop where
  le : len ≤ cap
  max : cap ≤ maxLen
  nil : a = none → cap = 0
  cells : ∀ ad, a = some ad → ∀ i j, i < len → j < 4 → w.cell? (ad.add (i * 4 + j)) = some (.int .i64 (gv i j))

theorem Picks_at {w : World} {a : Option Addr} {len cap : Nat} {gv : Nat → Nat → Int} (h : Picks w a len cap gv) (hp : 0 < len) :
    ∃ b off, a = some ⟨b, off, none⟩ ∧ b < w.heap.size ∧ ∀ i j, i < len → j < 4 → w.cell? ⟨b, off + (i * 4 + j), none⟩ = some (.int .i64 (gv i j)) := by
  cases a with
  | none => have h1 := h.nil rfl; have h2 := h.le; omega
  | some ad =>
    obtain ⟨b, off, s⟩ := ad
    have h0 := h.cells _ rfl 0 0 hp (by omega)
    have hs : s = none := by simpa [Addr.add] using World.cell?_spot h0
    subst hs
    have e : ∀ k, (⟨b, off, none⟩ : Addr).add k = ⟨b, off + k, none⟩ := by
      intro k
      unfold Addr.add
      split
      · rename_i h; subst h; rfl
      · rfl
    rw [e] at h0
    refine ⟨b, off, rfl, World.block_lt_of_cell? w _ h0, fun i j hi hj => ?_⟩
    have hc := h.cells _ rfl i j hi hj
    rw [e] at hc
    exact hc

theorem Picks.below {w w' : World} {a : Option Addr} {len cap : Nat} {gv : Nat → Nat → Int} (h : Picks w a len cap gv) (hb : Below w.heap.size w w') : Picks w' a len cap gv :=
  ⟨h.le, h.max, h.nil, fun ad had i j hi hj => (hb.cell (World.block_lt_of_cell? w _ (h.cells ad had i j hi hj))).trans (h.cells ad had i j hi hj)⟩

/-- The place of the pick ahead. -/
def aheadOf (gv : Nat → Nat → Int) : Nat → Int
  | 0 => 0
  | i + 1 => gv i 0
/-- What keeps pick i from being one, behind those ahead of it. -/
def codeAt (gv : Nat → Nat → Int) (i : Nat) : Nat := pickC (gv i 0) (gv i 1) (gv i 2) (gv i 3) (aheadOf gv i)

def MayRel (w : World) (gv : Nat → Nat → Int) (n : Nat) (sh si : Value) (wr : World) : Prop :=
  ∃ k : Nat, k ≤ n ∧ si = .int .i64 k ∧ sh = .int .i64 (aheadOf gv k) ∧ Below w.heap.size w wr

def MayListPost (a : Nat → Addr) (gv : Nat → Nat → Int) (len n : Nat) (w : World) (e : Ending) (w' : World) : Prop :=
  Below w.heap.size w w' ∧ ((n = len ∧ e = .returned .nilIface) ∨ (n < len ∧ ∃ b, e = .returned (.iface 164 (.pointer (some ⟨b, 0, none⟩))) ∧ w.heap.size ≤ b ∧ AtBox a b (codeAt gv n - 1) n w'))

set_option maxHeartbeats 2000000 in
set_option maxRecDepth 100000 in
/-- n: how many picks may be ahead of the first that may not. -/
theorem may_list (a : Nat → Addr) (ad : Option Addr) (len cap : Nat) (gv : Nat → Nat → Int) (n : Nat) (w : World) (h : Sents a w) (hp : Picks w ad len cap gv) (h400 : len ≤ 400) (hn : n ≤ len) (hok : ∀ i, i < n → codeAt gv i = 0) (hbad : n < len → codeAt gv n ≠ 0) :
    Calls Tryd.prog 69 #[.slice ad len cap] w (MayListPost a gv len n w) := by
  have HS := Lib.hid h
  have HP := Lib.hid hp
  have HOK := Lib.hid hok
  have HBAD := Lib.hid hbad
  clear h hp hok hbad
  have d1 : decide ((400 : Int) < (len : Int)) = false := by simp; omega
  have R0 : Hid (MayRel w gv n (.int .i64 0) (.int .i64 ((0 : Nat) : Int)) w) := Lib.hid ⟨0, Nat.zero_le _, rfl, rfl, Below.refl _ _⟩
  go_enter Tryd.func69, Tryd.ntmps69
  go_wp2_with fail
  go_loopw [3, 13] (fun sh si wr => MayRel w gv n sh si wr) (fun _ si _ => len - (intOf si).toNat)
  case atStart => exact R0.out
  case round =>
    obtain ⟨k, hk, rfl, rfl, hb⟩ := hrel
    clear R0
    have HB := Lib.hid hb
    clear hb
    by_cases hlt : k < len
    · have t1 : decide (k < len) = true := by simpa using hlt
      obtain ⟨lb, lo, rfl, hlb, hc⟩ := Picks_at HP.out (by omega)
      have hcell : ∀ j, j < 4 → wr.cell? ⟨lb, lo + (k * 4 + j), none⟩ = some (.int .i64 (gv k j)) := fun j hj =>
        (HB.out.cell (p := ⟨lb, lo + (k * 4 + j), none⟩) hlb).trans (hc k j hlt hj)
      have k0 := hcell 0 (by omega)
      have k1 := hcell 1 (by omega)
      have k2 := hcell 2 (by omega)
      have k3 := hcell 3 (by omega)
      have hcd : codeAt gv k = pickC (gv k 0) (gv k 1) (gv k 2) (gv k 3) (aheadOf gv k) := rfl
      have hnx : aheadOf gv (k + 1) = gv k 0 := rfl
      have HNX := Lib.hid hnx
      clear hcell hc hnx
      generalize aheadOf gv k = H at *
      generalize gv k 0 = T at *
      generalize gv k 1 = K at *
      generalize gv k 2 = A at *
      generalize gv k 3 = B at *
      have HCD := Lib.hid hcd
      clear hcd
      rw [Nat.add_zero] at k0
      rw [← Nat.add_assoc] at k1 k2 k3
      have hblt : Below w.heap.size w (wr.alloc (Obj.cells #[.int .i64 T, .int .i64 K, .int .i64 A, .int .i64 B] 107)) := HB.out.alloc HB.out.size _
      have hmay := may_any a T K A B H _ (HS.out.below hblt)
      rw [← HCD.out] at hmay
      have HM := Lib.hid hmay
      have HBL := Lib.hid hblt
      clear hmay hblt
      go_wp2_with fail
      refine HM.out.mono ?_
      rintro e w2 ⟨rfl, hb2⟩
      have hal := heap_alloc_new wr (Obj.cells #[.int .i64 T, .int .i64 K, .int .i64 A, .int .i64 B] 107)
      have hsz : wr.heap.size < (wr.alloc (Obj.cells #[.int .i64 T, .int .i64 K, .int .i64 A, .int .i64 B] 107)).heap.size := by simp
      have f0 : w2.cell? ⟨wr.heap.size, 0, none⟩ = some (.int .i64 T) := (hb2.cell (p := ⟨wr.heap.size, 0, none⟩) hsz).trans ((cell_of_row _ wr.heap.size 0 _ 107 (0, 0) hal).trans rfl)
      have HB2 : Hid (Below w.heap.size w w2) := Lib.hid (HBL.out.trans (hb2.mono HBL.out.size))
      clear hb2 hal hsz HM HBL k0 k1 k2 k3
      by_cases hkn : k < n
      · have hz := HOK.out k hkn
        have h0 : errV a 0 = .nilIface := rfl
        rw [hz, h0]
        clear h0 hz
        go_wp2_with fail
        go_roundw
        case rel => exact ⟨k + 1, by omega, by go_num, by rw [HNX.out], HB2.out⟩
        case measure => simp [intOf]; omega
      · obtain rfl : k = n := by omega
        obtain ⟨c, hc⟩ : ∃ c, codeAt gv k = c + 1 := ⟨codeAt gv k - 1, by have := HBAD.out hlt; omega⟩
        rw [hc]
        have HC := Lib.hid hc
        clear hc
        have he : errV a (c + 1) = .iface 211 (.pointer (some (a c))) := rfl
        rw [he]
        obtain ⟨x, hx⟩ : ∃ x, a c = x := ⟨_, rfl⟩
        rw [hx]
        have HX := Lib.hid hx
        clear hx he
        go_wp2_with fail
        go_ret
        refine ⟨HB2.out.alloc HB2.out.size _, .inr ⟨hlt, _, rfl, HB2.out.size, ?_⟩⟩
        unfold AtBox
        rw [heap_alloc_new, HC.out, Nat.add_sub_cancel, HX.out]
    · obtain rfl : n = len := by omega
      obtain rfl : k = n := by omega
      have t1 : decide (k < k) = false := by simp
      go_wp2_with fail
      go_ret
      exact ⟨HB.out, .inl ⟨rfl, rfl⟩⟩

theorem may_many (a : Nat → Addr) (ad : Option Addr) (len cap : Nat) (w : World) (h : Sents a w) (_hm : cap ≤ maxLen) (_hl : len ≤ cap) (h400 : 400 < len) :
    Calls Tryd.prog 69 #[.slice ad len cap] w fun e w' => e = .returned (.iface 211 (.pointer (some (a 0)))) ∧ w = w' := by
  have c0 := h.c0
  clear h
  unfold maxLen at _hm
  have d1 : decide ((400 : Int) < (len : Int)) = true := by simp; omega
  go_enter Tryd.func69, Tryd.ntmps69
  go_wp2_with fail
  go_ret
  exact ⟨rfl, rfl⟩

end Go.Proofs.YtjcklfbpdjfibaaDoor

/-
  Package prog: mayMethod, behind what mayHead and mayInstr answer.
-/
import Derived.Test.YtjffbojgdemooaaDoorSeeW2
import Derived.Test.YtjffbojgdemooaaDoorPickK
import Derived.Test.YtjffbojgdemooaaDoorPrg2
import Derived.StillTailTactics
namespace Go.Proofs.YtjffbojgdemooaaDoor
open Go.RowKit

/-- Nothing, or a listed error with its place around it. -/
def WherePost (a : Nat → Addr) (v : Option (Nat × Int × Int)) (w : World) (e : Ending) (w' : World) : Prop :=
  Below w.heap.size w w' ∧ match v with
    | none => e = .returned .nilIface
    | some (c, m, pc) => ∃ b, e = .returned (.iface 135 (.pointer (some ⟨b, 0, none⟩))) ∧ w.heap.size ≤ b ∧ WBox a b c m pc w'

/-- What mayMethod answers: hc the head's code, n how many instructions may be ahead of the first that may not, of len. -/
def methW (hc m len n : Nat) (ic : Nat → Nat) : Option (Nat × Int × Int) :=
  if hc ≠ 0 then some (hc - 1, m, -1) else if n < len then some (ic n - 1, m, n) else none

def MRel (w W0 : World) (n : Nat) (si : Value) (wr : World) : Prop := ∃ k : Nat, k ≤ n ∧ si = .int .i64 k ∧ Below w.heap.size w wr ∧ Below (w.heap.size + 1) W0 wr

theorem where_some {a : Nat → Addr} {c : Nat} {m pc : Int} {w w' : World} {e : Ending} (h : Below w.heap.size w w') (b : Nat) (he : e = .returned (.iface 135 (.pointer (some ⟨b, 0, none⟩)))) (hb : w.heap.size ≤ b) (hx : WBox a b c m pc w') : WherePost a (some (c, m, pc)) w e w' := ⟨h, b, he, hb, hx⟩
theorem where_none {a : Nat → Addr} {w w' : World} {e : Ending} (h : Below w.heap.size w w') (he : e = .returned .nilIface) : WherePost a none w e w' := ⟨h, he⟩

set_option maxHeartbeats 4000000 in
set_option maxRecDepth 100000 in
theorem mayMethod_any (a : Nat → Addr) (ca : Option Addr) (nc cc : Nat) (mb mo nm mc : Nat) (m : Nat) (ps ls rt : ByteArray) (co : Option Addr) (len cp : Nat) (gv : Nat → Nat → Int) (hc n : Nat) (ic : Nat → Nat) (w : World)
    (_h : Sents a w) (hm : m < nm) (_hnm : nm ≤ 1000000) (hl : len ≤ 1000000) (hP : Picks w co len cp gv)
    (x0 : w.cell? ⟨mb, mo + m * 4, none⟩ = some (.string ps)) (x1 : w.cell? ⟨mb, mo + m * 4 + 1, none⟩ = some (.string ls)) (x2 : w.cell? ⟨mb, mo + m * 4 + 2, none⟩ = some (.string rt)) (x3 : w.cell? ⟨mb, mo + m * 4 + 3, none⟩ = some (.slice co len cp))
    (hH : ∀ w', Below w.heap.size w w' → Calls Tryd.prog 152 #[.agg #[.string ps, .string ls, .string rt, .slice co len cp], .bool ((m : Int) == 0)] w' (MayPost a hc w'))
    (hI : ∀ i, i < len → ∀ w', Below w.heap.size w w' → Calls Tryd.prog 153 #[.agg #[.slice ca nc cc, .slice (some ⟨mb, mo, none⟩) nm mc], .agg #[.string ps, .string ls, .string rt, .slice co len cp], .agg #[.int .i64 (gv i 0), .int .i64 (gv i 1), .int .i64 (gv i 2), .int .i64 (gv i 3)]] w' (MayPost a (ic i) w'))
    (hn : n ≤ len) (hok : ∀ i, i < n → ic i = 0) (hbad : n < len → ic n ≠ 0) :
    Calls Tryd.prog 99 #[.agg #[.slice ca nc cc, .slice (some ⟨mb, mo, none⟩) nm mc], .int .i64 m] w (WherePost a (methW hc m len n ic) w) := by
  have hbl : Below w.heap.size w (w.alloc (.cells #[.slice ca nc cc, .slice (some ⟨mb, mo, none⟩) nm mc] 46)) := (Below.refl _ _).alloc (Nat.le_refl _) _
  have HBL := Lib.hid hbl
  have HH := Lib.hid (hH _ hbl)
  have HI := Lib.hid hI
  have HP := Lib.hid hP
  have HOK := Lib.hid hok
  have HBAD := Lib.hid hbad
  have HX : Hid (∀ w', Below w.heap.size w w' → w'.cell? ⟨mb, mo + m * 4, none⟩ = some (.string ps) ∧ w'.cell? ⟨mb, mo + m * 4 + 1, none⟩ = some (.string ls) ∧ w'.cell? ⟨mb, mo + m * 4 + 2, none⟩ = some (.string rt) ∧ w'.cell? ⟨mb, mo + m * 4 + 3, none⟩ = some (.slice co len cp)) := Lib.hid fun w' hb =>
    ⟨(hb.cell (World.block_lt_of_cell? w _ x0)).trans x0, (hb.cell (World.block_lt_of_cell? w _ x1)).trans x1, (hb.cell (World.block_lt_of_cell? w _ x2)).trans x2, (hb.cell (World.block_lt_of_cell? w _ x3)).trans x3⟩
  have PB : Hid (∀ w', Below (w.heap.size + 1) (w.alloc (.cells #[.slice ca nc cc, .slice (some ⟨mb, mo, none⟩) nm mc] 46)) w' → w'.cell? ⟨w.heap.size, 0, none⟩ = some (.slice ca nc cc) ∧ w'.cell? ⟨w.heap.size, 1, none⟩ = some (.slice (some ⟨mb, mo, none⟩) nm mc)) := Lib.hid fun w' hb => by
    have hr := (hb.block w.heap.size (by omega)).trans (heap_alloc_new w (.cells #[.slice ca nc cc, .slice (some ⟨mb, mo, none⟩) nm mc] 46))
    exact ⟨(cell_of_row _ _ 0 _ 46 (0, 0) hr).trans rfl, (cell_of_row _ _ 1 _ 46 (0, 0) hr).trans rfl⟩
  obtain ⟨x0, x1, x2, x3⟩ := HX.out _ hbl
  have hsz : (w.alloc (.cells #[.slice ca nc cc, .slice (some ⟨mb, mo, none⟩) nm mc] 46)).heap.size = w.heap.size + 1 := by simp
  have HS1 := Lib.hid hsz
  clear _h hbl hH hI hP hok hbad hsz
  go_enter Tryd.func99, Tryd.ntmps99
  go_wp2_with fail
  refine HH.out.mono ?_
  rintro e w1 ⟨rfl, hb1⟩
  rw [HS1.out] at hb1
  have HB1 : Hid (Below (w.heap.size + 1) (w.alloc (.cells #[.slice ca nc cc, .slice (some ⟨mb, mo, none⟩) nm mc] 46)) w1) := Lib.hid hb1
  have hbw : Below w.heap.size w w1 := HBL.out.trans (hb1.mono (by omega))
  have HBW := Lib.hid hbw
  obtain ⟨p0, p1⟩ := PB.out w1 hb1
  clear x0 x1 x2 x3
  obtain ⟨x0, x1, x2, x3⟩ := HX.out w1 hbw
  clear hb1 hbw HH
  by_cases hz : hc = 0
  · subst hz
    have h0 : errV a 0 = .nilIface := rfl
    rw [h0]
    clear h0
    have R0 : Hid (MRel w (w.alloc (.cells #[.slice ca nc cc, .slice (some ⟨mb, mo, none⟩) nm mc] 46)) n (.int .i64 ((0 : Nat) : Int)) w1) := Lib.hid ⟨0, Nat.zero_le _, rfl, HBW.out, HB1.out⟩
    go_wp2_with fail
    clear p0 p1 x0 x1 x2 x3
    go_loopw [31] (fun si wr => MRel w (w.alloc (.cells #[.slice ca nc cc, .slice (some ⟨mb, mo, none⟩) nm mc] 46)) n si wr) (fun si _ => len - (intOf si).toNat)
    case atStart => exact R0.out
    case round =>
      obtain ⟨k, hk, rfl, hb, hb1⟩ := hrel
      clear R0 HB1 HBW
      by_cases hlt : k < len
      · have t1 : decide (k < len) = true := by simpa using hlt
        obtain ⟨lb, lo, rfl, hlb, hcl⟩ := Picks_at HP.out (by omega)
        have hcell : ∀ j, j < 4 → wr.cell? ⟨lb, lo + (k * 4 + j), none⟩ = some (.int .i64 (gv k j)) := fun j hj =>
          (hb.cell (p := ⟨lb, lo + (k * 4 + j), none⟩) hlb).trans (hcl k j hlt hj)
        have k0 := hcell 0 (by omega)
        have k1 := hcell 1 (by omega)
        have k2 := hcell 2 (by omega)
        have k3 := hcell 3 (by omega)
        have hbl2 : Below w.heap.size w (wr.alloc (.cells #[.int .i64 (gv k 0), .int .i64 (gv k 1), .int .i64 (gv k 2), .int .i64 (gv k 3)] 67)) := hb.alloc hb.size _
        have hbl3 : Below (w.heap.size + 1) (w.alloc (.cells #[.slice ca nc cc, .slice (some ⟨mb, mo, none⟩) nm mc] 46)) (wr.alloc (.cells #[.int .i64 (gv k 0), .int .i64 (gv k 1), .int .i64 (gv k 2), .int .i64 (gv k 3)] 67)) := hb1.alloc (by have := hb1.size; simp at this; omega) _
        have HI2 := Lib.hid (HI.out k hlt _ (below_drew hbl2))
        obtain ⟨p0, p1⟩ := PB.out _ hbl3
        obtain ⟨x0, x1, x2, x3⟩ := HX.out _ hbl2
        have HBA := Lib.hid hbl2
        have HBB := Lib.hid hbl3
        clear hcell hcl hb hb1 hbl2 hbl3
        generalize gv k 0 = T at *
        generalize gv k 1 = K at *
        generalize gv k 2 = A at *
        generalize gv k 3 = B at *
        rw [Nat.add_zero] at k0
        rw [← Nat.add_assoc] at k1 k2 k3
        have hal := heap_alloc_new wr (.cells #[.int .i64 T, .int .i64 K, .int .i64 A, .int .i64 B] 67)
        have b0 := (cell_of_row _ wr.heap.size 0 _ 67 (0, 0) hal).trans rfl
        have b1 := (cell_of_row _ wr.heap.size 1 _ 67 (0, 0) hal).trans rfl
        have b2 := (cell_of_row _ wr.heap.size 2 _ 67 (0, 0) hal).trans rfl
        have b3 := (cell_of_row _ wr.heap.size 3 _ 67 (0, 0) hal).trans rfl
        clear hal
        go_wp2_with fail
        generalize (wr.alloc (.cells #[.int .i64 T, .int .i64 K, .int .i64 A, .int .i64 B] 67)) = W2 at *
        go_still_tail 7, (by kernel_rfl)
        change wpList _ _ _ _ _ W2.drew
        have HA2 := Lib.hid (below_drew HBA.out)
        have HB2 := Lib.hid (below_drew HBB.out)
        clear b0 b1 b2 b3 p0 p1 x0 x1 x2 x3 k0 k1 k2 k3 HBA HBB
        generalize W2.drew = w2 at *
        go_wp2_with fail
        refine HI2.out.mono ?_
        rintro e w3 ⟨rfl, hb3⟩
        have HA3 : Hid (Below w.heap.size w w3) := Lib.hid (HA2.out.trans (hb3.mono HA2.out.size))
        have HB3 : Hid (Below (w.heap.size + 1) (w.alloc (.cells #[.slice ca nc cc, .slice (some ⟨mb, mo, none⟩) nm mc] 46)) w3) := Lib.hid (HB2.out.trans (hb3.mono (by have := HB2.out.size; simp at this; omega)))
        clear hb3 HI2 HA2 HB2
        by_cases hkn : k < n
        · have hz := HOK.out k hkn
          have h0 : errV a 0 = .nilIface := rfl
          rw [hz, h0]
          clear h0 hz
          go_wp2_with fail
          go_roundw
          case rel => exact ⟨k + 1, by omega, by go_num, HA3.out, HB3.out⟩
          case measure => simp [intOf]; omega
        · obtain rfl : k = n := by omega
          obtain ⟨c, hc⟩ : ∃ c, ic k = c + 1 := ⟨ic k - 1, by have := HBAD.out hlt; omega⟩
          have hmw : methW 0 m len k ic = some (c, (m : Int), (k : Int)) := by rw [methW, if_neg (by simp), if_pos hlt, hc]; rfl
          have HMW := Lib.hid hmw
          rw [hc]
          have he : errV a (c + 1) = .iface 272 (.pointer (some (a c))) := rfl
          rw [he]
          obtain ⟨x, hx⟩ : ∃ x, a c = x := ⟨_, rfl⟩
          rw [hx]
          have HX2 := Lib.hid hx
          clear hx he hmw hc
          go_wp2_with fail
          go_ret
          rw [HMW.out]
          refine where_some (HA3.out.alloc HA3.out.size _) _ rfl HA3.out.size ?_
          unfold WBox
          rw [heap_alloc_new, HX2.out]
      · have t1 : decide (k < len) = false := by simpa using hlt
        obtain rfl : k = len := by omega
        have hmw : methW 0 m k n ic = none := by rw [methW, if_neg (by simp), if_neg (by omega)]
        have HBF := Lib.hid hb
        have HMW := Lib.hid hmw
        clear hb hb1 hmw
        go_wp2_with fail
        go_ret
        rw [HMW.out]
        exact where_none HBF.out rfl
  · obtain ⟨c, hcc⟩ : ∃ c, hc = c + 1 := ⟨hc - 1, by omega⟩
    have hmw : methW hc m len n ic = some (c, (m : Int), -1) := by rw [methW, if_pos hz, hcc]; rfl
    have HMW := Lib.hid hmw
    rw [hcc]
    have he : errV a (c + 1) = .iface 272 (.pointer (some (a c))) := rfl
    rw [he]
    obtain ⟨x, hx⟩ : ∃ x, a c = x := ⟨_, rfl⟩
    rw [hx]
    have HX2 := Lib.hid hx
    clear hx he hmw hz hcc
    go_wp2_with fail
    go_ret
    rw [HMW.out]
    refine where_some (HBW.out.alloc HBW.out.size _) _ rfl HBW.out.size ?_
    unfold WBox
    rw [heap_alloc_new, HX2.out]

end Go.Proofs.YtjffbojgdemooaaDoor

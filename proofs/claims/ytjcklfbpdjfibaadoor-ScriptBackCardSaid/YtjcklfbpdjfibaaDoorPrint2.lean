/-
  Package script: Print of the chapter's two picks.
-/
import Derived.Test.YtjcklfbpdjfibaaDoorScr2
import Derived.Test.YtjcklfbpdjfibaaDoorPutS
import Derived.Test.YtjcklfbpdjfibaaDoorSameB
namespace Go.Proofs.YtjcklfbpdjfibaaDoor
open Go.RowKit

theorem put_lit (b : Option Addr) (len cap : Nat) (zs : List Int) (u : Nat) (w : World) (hb : Row .u8 w b len cap zs) (hreach : len ≤ 140737488351232) (hu : u < 128) :
    Calls Tryd.prog 115 #[.slice b len cap, .int .u64 u] w fun e w' => ∃ a c, e = .returned (.slice a (len + 1) c) ∧ Row .u8 w' a (len + 1) c (zs ++ [(u : Int)]) ∧ Below w.heap.size w w' := by
  refine (put_any b len cap zs u w hb hreach (by omega)).mono ?_
  rintro e w' ⟨v, m, rfl, hown, hbel⟩
  have e1 : encF 9 u = [u] := by rw [show (9 : Nat) = 8 + 1 from rfl, encF, if_pos hu]
  rw [e1] at hown
  have e2 : zs.map (Value.int .u8) ++ [u].map (fun (n : Nat) => Value.int .u8 n) = (zs ++ [(u : Int)]).map (Value.int .u8) := by simp
  rw [e2] at hown
  have hm : m = len + 1 := by
    have := hown.1
    simp at this
    have := hb.len_eq
    omega
  subst hm
  obtain ⟨a, c, rfl, hr⟩ := row_of_owns hown (by
    intro x hx
    rcases List.mem_append.1 hx with h | h
    · exact hb.wf x h
    · simp at h
      subst h
      simp [Lit.wf, IntKind.min, IntKind.max, IntKind.signed, IntKind.bits]
      omega)
  exact ⟨a, c, rfl, hr, hbel⟩

def gvE (i j : Nat) : Int := match i, j with
  | 0, 0 => 3
  | 0, 1 => 1
  | 1, 0 => 3
  | 1, 1 => 3
  | 1, 2 => 2
  | 1, 3 => 33
  | _, _ => 0

def outK (k : Nat) : List Int := if k = 0 then [] else if k = 1 then [3, 1] else [3, 1, 0, 3, 2, 33]
def atK (k : Nat) : Int := if k = 0 then 0 else 3

theorem picks_new (w : World) : Picks (w.alloc (Obj.cells #[.int .i64 3, .int .i64 1, .int .i64 0, .int .i64 0, .int .i64 3, .int .i64 3, .int .i64 2, .int .i64 33] 107)) (some ⟨w.heap.size, 0, none⟩) 2 2 gvE := by
  refine ⟨Nat.le_refl _, by unfold maxLen; omega, fun h => (by cases h), fun ad had i j hi hj => ?_⟩
  cases had
  have e : (⟨w.heap.size, 0, none⟩ : Addr).add (i * 4 + j) = ⟨w.heap.size, i * 4 + j, none⟩ := by
    unfold Addr.add
    split
    · rename_i h0; rw [h0]
    · simp
  rw [e, cell_of_row _ w.heap.size (i * 4 + j) _ 107 (0, 0) (heap_alloc_new w _)]
  match i, hi, j, hj with
  | 0, _, 0, _ => rfl
  | 0, _, 1, _ => rfl
  | 0, _, 2, _ => rfl
  | 0, _, 3, _ => rfl
  | 1, _, 0, _ => rfl
  | 1, _, 1, _ => rfl
  | 1, _, 2, _ => rfl
  | 1, _, 3, _ => rfl

/-- The box of the pick at hand. -/
def PBox (nd : Nat) (T K A B : Int) (w : World) : Prop := w.heap[nd]? = some (.cells #[.int .i64 T, .int .i64 K, .int .i64 A, .int .i64 B] 107 (0, 0))
theorem PBox.cells {nd : Nat} {T K A B : Int} {w : World} (h : PBox nd T K A B w) : w.cell? ⟨nd, 0, none⟩ = some (.int .i64 T) ∧ w.cell? ⟨nd, 1, none⟩ = some (.int .i64 K) ∧ w.cell? ⟨nd, 2, none⟩ = some (.int .i64 A) ∧ w.cell? ⟨nd, 3, none⟩ = some (.int .i64 B) := by
  refine ⟨?_, ?_, ?_, ?_⟩ <;> (rw [cell_of_row w nd _ _ 107 (0, 0) h]; rfl)
theorem PBox.stays {nd : Nat} {T K A B : Int} {w w' : World} (h : PBox nd T K A B w) (hb : Below w.heap.size w w') : PBox nd T K A B w' := (hb.block nd (Array.getElem?_eq_some_iff.1 h).1).trans h

def PrintRel (w : World) (so sa si : Value) (wr : World) : Prop :=
  ∃ k : Nat, k ≤ 2 ∧ si = .int .i64 k ∧ sa = .int .i64 (atK k) ∧ ∃ oa oc, so = .slice oa (outK k).length oc ∧ Row .u8 wr oa (outK k).length oc (outK k) ∧ Below w.heap.size w wr

set_option maxHeartbeats 2000000 in
set_option maxRecDepth 100000 in
theorem print_two (a : Nat → Addr) (b : Nat) (w : World) (h : Sents a w) (hp : Picks w (some ⟨b, 0, none⟩) 2 2 gvE) :
    Calls Tryd.prog 66 #[.slice (some ⟨b, 0, none⟩) 2 2] w fun e w' => ∃ oa oc, e = .returned (.tuple #[.slice oa 6 oc, .nilIface]) ∧ Row .u8 w' oa 6 oc [3, 1, 0, 3, 2, 33] ∧ Below w.heap.size w w' := by
  have HS := Lib.hid h
  have HP := Lib.hid hp
  obtain ⟨b', off', he, hlb, hc⟩ := Picks_at hp (by omega)
  cases he
  have HC := Lib.hid hc
  clear h hp hc
  go_enter Tryd.func66, Tryd.ntmps66
  go_wp2_with fail
  refine (may_list a _ 2 2 gvE 2 _ HS.out HP.out (by omega) (by omega) (fun i hi => by match i, hi with | 0, _ => decide | 1, _ => decide) (fun h => by omega)).mono ?_
  rintro e w1 ⟨hb1, ⟨_, rfl⟩ | ⟨hlt, _⟩⟩
  · have R0 : Hid (PrintRel w (.slice none 0 0) (.int .i64 0) (.int .i64 ((0 : Nat) : Int)) w1) := Lib.hid ⟨0, by omega, rfl, rfl, none, 0, rfl, row_nil _ _, hb1⟩
    clear hb1
    go_wp2_with fail
    go_loopw [5, 6, 16] (fun so sa si wr => PrintRel w so sa si wr) (fun _ _ si _ => 2 - (intOf si).toNat)
    case atStart => exact R0.out
    case round =>
      obtain ⟨k, hk, rfl, rfl, oa, oc, rfl, hrow, hb⟩ := hrel
      clear R0
      have HB := Lib.hid hb
      have HR := Lib.hid hrow
      have hcell : k < 2 → ∀ j, j < 4 → wr.cell? ⟨b, 0 + (k * 4 + j), none⟩ = some (.int .i64 (gvE k j)) := fun hk j hj =>
        (HB.out.cell (p := ⟨b, 0 + (k * 4 + j), none⟩) hlb).trans (HC.out k j hk hj)
      clear hb hrow
      by_cases h0 : k = 0
      · subst h0
        have k0 : wr.cell? ⟨b, 0, none⟩ = some (.int .i64 3) := hcell (by omega) 0 (by omega)
        have k1 : wr.cell? ⟨b, 1, none⟩ = some (.int .i64 1) := hcell (by omega) 1 (by omega)
        have k2 : wr.cell? ⟨b, 2, none⟩ = some (.int .i64 0) := hcell (by omega) 2 (by omega)
        have k3 : wr.cell? ⟨b, 3, none⟩ = some (.int .i64 0) := hcell (by omega) 3 (by omega)
        have e0 : atK 0 = 0 := rfl
        have e1 : outK 0 = [] := rfl
        have e2 : (outK 0).length = 0 := rfl
        rw [e0, e2]
        rw [e2, e1] at HR
        have HR1 := Lib.hid (Row_alloc HR.out (Obj.cells #[.int .i64 3, .int .i64 1, .int .i64 0, .int .i64 0] 107))
        have hbx : PBox wr.heap.size 3 1 0 0 (wr.alloc (Obj.cells #[.int .i64 3, .int .i64 1, .int .i64 0, .int .i64 0] 107)) := heap_alloc_new wr _
        have HBX := Lib.hid hbx
        have HB1 : Hid (Below w.heap.size w (wr.alloc (Obj.cells #[.int .i64 3, .int .i64 1, .int .i64 0, .int .i64 0] 107))) := Lib.hid (HB.out.alloc HB.out.size _)
        clear hbx hcell e0 e1 e2 HR
        go_wp2_with fail
        refine (put_lit _ 0 _ _ 3 _ HR1.out (by omega) (by omega)).mono ?_
        rintro e w2 ⟨pa, pc, rfl, hr2, hb2⟩
        have HR2 := Lib.hid hr2
        have HBX2 := Lib.hid (HBX.out.stays hb2)
        have HB2 : Hid (Below w.heap.size w w2) := Lib.hid (HB1.out.trans (hb2.mono HB1.out.size))
        obtain ⟨q0, q1, q2, q3⟩ := HBX2.out.cells
        clear hr2 hb2 k0 k1 k2 k3
        go_wp2_with fail
        refine (put_lit _ (0 + 1) _ _ 1 _ HR2.out (by omega) (by omega)).mono ?_
        rintro e w3 ⟨ra, rc, rfl, hr3, hb3⟩
        have HR3 := Lib.hid hr3
        have HBX3 := Lib.hid (HBX2.out.stays hb3)
        have HB3 : Hid (Below w.heap.size w w3) := Lib.hid (HB2.out.trans (hb3.mono HB2.out.size))
        clear hr3 hb3 q0 q1 q2 q3
        obtain ⟨q0, q1, q2, q3⟩ := HBX3.out.cells
        go_wp2_with fail
        go_roundw
        case rel => exact ⟨1, by omega, rfl, rfl, ra, rc, rfl, HR3.out, HB3.out⟩
        case measure => simp [intOf]
      · by_cases h1 : k = 1
        · subst h1
          have k0 : wr.cell? ⟨b, 4, none⟩ = some (.int .i64 3) := hcell (by omega) 0 (by omega)
          have k1 : wr.cell? ⟨b, 5, none⟩ = some (.int .i64 3) := hcell (by omega) 1 (by omega)
          have k2 : wr.cell? ⟨b, 6, none⟩ = some (.int .i64 2) := hcell (by omega) 2 (by omega)
          have k3 : wr.cell? ⟨b, 7, none⟩ = some (.int .i64 33) := hcell (by omega) 3 (by omega)
          have e0 : atK 1 = 3 := rfl
          have e1 : outK 1 = [3, 1] := rfl
          have e2 : (outK 1).length = 2 := rfl
          rw [e0, e2]
          rw [e2, e1] at HR
          have HR1 := Lib.hid (Row_alloc HR.out (Obj.cells #[.int .i64 3, .int .i64 3, .int .i64 2, .int .i64 33] 107))
          have hbx : PBox wr.heap.size 3 3 2 33 (wr.alloc (Obj.cells #[.int .i64 3, .int .i64 3, .int .i64 2, .int .i64 33] 107)) := heap_alloc_new wr _
          have HBX := Lib.hid hbx
          have HB1 : Hid (Below w.heap.size w (wr.alloc (Obj.cells #[.int .i64 3, .int .i64 3, .int .i64 2, .int .i64 33] 107))) := Lib.hid (HB.out.alloc HB.out.size _)
          clear hbx hcell e0 e1 e2 HR h0
          go_wp2_with fail
          refine (put_lit _ 2 _ _ 0 _ HR1.out (by omega) (by omega)).mono ?_
          rintro e w2 ⟨pa, pc, rfl, hr2, hb2⟩
          have HR2 := Lib.hid hr2
          have HBX2 := Lib.hid (HBX.out.stays hb2)
          have HB2 : Hid (Below w.heap.size w w2) := Lib.hid (HB1.out.trans (hb2.mono HB1.out.size))
          obtain ⟨q0, q1, q2, q3⟩ := HBX2.out.cells
          clear hr2 hb2 k0 k1 k2 k3
          go_wp2_with fail
          refine (put_lit _ (2 + 1) _ _ 3 _ HR2.out (by omega) (by omega)).mono ?_
          rintro e w3 ⟨ra, rc, rfl, hr3, hb3⟩
          have HR3 := Lib.hid hr3
          have HBX3 := Lib.hid (HBX2.out.stays hb3)
          have HB3 : Hid (Below w.heap.size w w3) := Lib.hid (HB2.out.trans (hb3.mono HB2.out.size))
          clear hr3 hb3 q0 q1 q2 q3
          obtain ⟨q0, q1, q2, q3⟩ := HBX3.out.cells
          go_wp2_with fail
          refine (put_lit _ (2 + 1 + 1) _ _ 2 _ HR3.out (by omega) (by omega)).mono ?_
          rintro e w4 ⟨sa, sc, rfl, hr4, hb4⟩
          have HR4 := Lib.hid hr4
          have HBX4 := Lib.hid (HBX3.out.stays hb4)
          have HB4 : Hid (Below w.heap.size w w4) := Lib.hid (HB3.out.trans (hb4.mono HB3.out.size))
          clear hr4 hb4 q0 q1 q2 q3
          obtain ⟨q0, q1, q2, q3⟩ := HBX4.out.cells
          go_wp2_with fail
          refine (put_lit _ (2 + 1 + 1 + 1) _ _ 33 _ HR4.out (by omega) (by omega)).mono ?_
          rintro e w5 ⟨ta, tc, rfl, hr5, hb5⟩
          have HR5 := Lib.hid hr5
          have HBX5 := Lib.hid (HBX4.out.stays hb5)
          have HB5 : Hid (Below w.heap.size w w5) := Lib.hid (HB4.out.trans (hb5.mono HB4.out.size))
          clear hr5 hb5 q0 q1 q2 q3
          obtain ⟨q0, q1, q2, q3⟩ := HBX5.out.cells
          go_wp2_with fail
          go_roundw
          case rel => exact ⟨2, by omega, rfl, rfl, ta, tc, rfl, HR5.out, HB5.out⟩
          case measure => simp [intOf]
        · obtain rfl : k = 2 := by omega
          have e2 : (outK 2).length = 6 := rfl
          have e1 : outK 2 = [3, 1, 0, 3, 2, 33] := rfl
          rw [e2]
          rw [e2, e1] at HR
          clear hcell h0 h1 e1 e2
          go_wp2_with fail
          go_ret2
          exact ⟨oa, oc, rfl, HR.out, HB.out⟩
  · omega

end Go.Proofs.YtjcklfbpdjfibaaDoor

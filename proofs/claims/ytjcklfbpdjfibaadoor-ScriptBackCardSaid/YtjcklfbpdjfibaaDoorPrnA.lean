/-
  Package script: Print of any picks that may be.
-/
import Derived.Test.YtjcklfbpdjfibaaDoorScnM
import Derived.Test.YtjcklfbpdjfibaaDoorS4
namespace Go.Proofs.YtjcklfbpdjfibaaDoor
open Go.RowKit

def ints (l : List Nat) : List Int := l.map fun (n : Nat) => (n : Int)
theorem ints_len (l : List Nat) : (ints l).length = l.length := by simp [ints]

/-- The box of the pick at hand stays. -/
def PrRel (w : World) (gv : Nat → Nat → Int) (len : Nat) (so sa si : Value) (wr : World) : Prop :=
  ∃ k : Nat, k ≤ len ∧ si = .int .i64 k ∧ sa = .int .i64 (aheadOf gv k) ∧ ∃ oa m oc, so = .slice oa m oc ∧ Row .u8 wr oa m oc (ints (printL gv k)) ∧ Below w.heap.size w wr

set_option maxHeartbeats 4000000 in
set_option maxRecDepth 100000 in
theorem print_any4 (a : Nat → Addr) (ad : Option Addr) (len cap : Nat) (gv : Nat → Nat → Int) (w : World) (h : Sents4 a w) (hp : Picks w ad len cap gv) (hl : len ≤ 400) (hok : FairP gv len) :
    Calls Tryd.prog 66 #[.slice ad len cap] w fun e w' => ∃ oa m oc, e = .returned (.tuple #[.slice oa m oc, .nilIface]) ∧ Row .u8 w' oa m oc (ints (printL gv len)) ∧ Below w.heap.size w w' := by
  have HS := Lib.hid h
  have HP := Lib.hid hp
  have HOK := Lib.hid hok
  clear h hp hok
  go_enter Tryd.func66, Tryd.ntmps66
  go_wp2_with fail
  refine (may_list4 a _ len cap gv len _ HS.out HP.out hl (Nat.le_refl _) HOK.out (fun h => absurd h (Nat.lt_irrefl _))).mono ?_
  rintro e w1 ⟨hb1, ⟨_, rfl⟩ | ⟨hlt, _⟩⟩
  · have R0 : Hid (PrRel w gv len (.slice none 0 0) (.int .i64 0) (.int .i64 ((0 : Nat) : Int)) w1) := Lib.hid ⟨0, Nat.zero_le _, rfl, rfl, none, 0, 0, rfl, row_nil _ _, hb1⟩
    clear hb1
    go_wp2_with fail
    go_loopw [5, 6, 16] (fun so sa si wr => PrRel w gv len so sa si wr) (fun _ _ si _ => len - (intOf si).toNat)
    case atStart => exact R0.out
    case round =>
      obtain ⟨k, hk, rfl, rfl, oa, m, oc, rfl, hrow, hb⟩ := hrel
      clear R0
      by_cases hlt : k < len
      · have t1 : decide (k < len) = true := by simpa using hlt
        have hm := hrow.len_eq
        rw [ints_len] at hm
        have hml := printL_le gv k
        obtain ⟨n1, n2, n3, n4, n5, n6, n7, n8, n9, n10, n11⟩ := fair_nums HOK.out hlt
        obtain ⟨lb, lo, rfl, hlb, hc⟩ := Picks_at HP.out (by omega)
        have hcell : ∀ j, j < 4 → wr.cell? ⟨lb, lo + (k * 4 + j), none⟩ = some (.int .i64 (gv k j)) := fun j hj =>
          (hb.cell (p := ⟨lb, lo + (k * 4 + j), none⟩) hlb).trans (hc k j hlt hj)
        have k0 := hcell 0 (by omega)
        have k1 := hcell 1 (by omega)
        have k2 := hcell 2 (by omega)
        have k3 := hcell 3 (by omega)
        rw [Nat.add_zero] at k0
        rw [← Nat.add_assoc] at k1 k2 k3
        have hbx : PBox wr.heap.size (gv k 0) (gv k 1) (gv k 2) (gv k 3) (wr.alloc (Obj.cells #[.int .i64 (gv k 0), .int .i64 (gv k 1), .int .i64 (gv k 2), .int .i64 (gv k 3)] 107)) := heap_alloc_new wr _
        have HBX := Lib.hid hbx
        have HR1 := Lib.hid (Row_alloc hrow (Obj.cells #[.int .i64 (gv k 0), .int .i64 (gv k 1), .int .i64 (gv k 2), .int .i64 (gv k 3)] 107))
        have HB1 : Hid (Below w.heap.size w (wr.alloc (Obj.cells #[.int .i64 (gv k 0), .int .i64 (gv k 1), .int .i64 (gv k 2), .int .i64 (gv k 3)] 107))) := Lib.hid (hb.alloc hb.size _)
        have HNX : Hid (aheadOf gv (k + 1) = gv k 0) := Lib.hid rfl
        have HPB : Hid (printL gv (k + 1) = printL gv k ++ pickB gv k) := Lib.hid rfl
        have HPK : Hid (pickB gv k = encF 9 (gv k 0 - aheadOf gv k).toNat ++ (encF 9 (gv k 1).toNat ++ ((if gv k 1 = 3 then encF 9 (gv k 2).toNat else []) ++ (if gv k 1 = 3 ∨ gv k 1 = 5 then encF 9 (gv k 3).toNat else [])))) := Lib.hid rfl
        clear hcell hc hb hrow hbx
        generalize aheadOf gv k = H at *
        generalize gv k 0 = T at *
        generalize gv k 1 = K0 at *
        generalize gv k 2 = A0 at *
        generalize gv k 3 = B0 at *
        obtain ⟨K, rfl⟩ : ∃ K : Nat, K0 = K := ⟨K0.toNat, by omega⟩
        obtain ⟨A, rfl⟩ : ∃ A : Nat, A0 = A := ⟨A0.toNat, by omega⟩
        obtain ⟨B, rfl⟩ : ∃ B : Nat, B0 = B := ⟨B0.toNat, by omega⟩
        obtain ⟨d, hd⟩ : ∃ d : Nat, T - H = d := ⟨(T - H).toNat, by omega⟩
        have HD := Lib.hid hd
        have hpk := HPK.out
        rw [hd, Int.toNat_natCast, Int.toNat_natCast, Int.toNat_natCast, Int.toNat_natCast] at hpk
        have HP2 := Lib.hid hpk
        have hdl : d ≤ 1048576 := by omega
        have he1 := enc_le 9 d
        have he2 := enc_le 9 K
        have he3 := enc_le 9 A
        clear hpk HPK hd n8 n11
        generalize printL gv k = xs at *
        go_wp2_with fail
        rw [HD.out]
        refine (put_row _ m _ _ d _ HR1.out (by omega) (by omega)).mono ?_
        rintro e w2 ⟨oa2, m2, oc2, rfl, hr2, _, hb2⟩
        have HR2 := Lib.hid hr2
        have hm2 := hr2.len_eq
        rw [List.length_append, List.length_map, ints_len] at hm2
        have HBX2 := Lib.hid (HBX.out.stays hb2)
        have HB2 : Hid (Below w.heap.size w w2) := Lib.hid (HB1.out.trans (hb2.mono HB1.out.size))
        obtain ⟨q0, q1, q2, q3⟩ := HBX2.out.cells
        clear hr2 hb2 k0 k1 k2 k3
        go_wp2_with fail
        refine (put_row _ m2 _ _ K _ HR2.out (by omega) (by omega)).mono ?_
        rintro e w3 ⟨oa3, m3, oc3, rfl, hr3, _, hb3⟩
        have HR3 := Lib.hid hr3
        have hm3 := hr3.len_eq
        rw [List.length_append, List.length_append, List.length_map, List.length_map, ints_len] at hm3
        have HBX3 := Lib.hid (HBX2.out.stays hb3)
        have HB3 : Hid (Below w.heap.size w w3) := Lib.hid (HB2.out.trans (hb3.mono HB2.out.size))
        clear hr3 hb3 q0 q1 q2 q3
        obtain ⟨q0, q1, q2, q3⟩ := HBX3.out.cells
        by_cases h3 : K = 3
        · have t3 : ((K : Int) == 3) = true := by simp; omega
          have HK3 := Lib.hid h3
          clear h3
          go_wp2_with fail
          refine (put_row _ m3 _ _ A _ HR3.out (by omega) (by omega)).mono ?_
          rintro e w4 ⟨oa4, m4, oc4, rfl, hr4, _, hb4⟩
          have HR4 := Lib.hid hr4
          have hm4 := hr4.len_eq
          rw [List.length_append, List.length_append, List.length_append, List.length_map, List.length_map, List.length_map, ints_len] at hm4
          have HBX4 := Lib.hid (HBX3.out.stays hb4)
          have HB4 : Hid (Below w.heap.size w w4) := Lib.hid (HB3.out.trans (hb4.mono HB3.out.size))
          clear hr4 hb4 q0 q1 q2 q3
          obtain ⟨q0, q1, q2, q3⟩ := HBX4.out.cells
          go_wp2_with fail
          refine (put_row _ m4 _ _ B _ HR4.out (by omega) (by omega)).mono ?_
          rintro e w5 ⟨oa5, m5, oc5, rfl, hr5, _, hb5⟩
          have HR5 := Lib.hid hr5
          have HBX5 := Lib.hid (HBX4.out.stays hb5)
          have HB5 : Hid (Below w.heap.size w w5) := Lib.hid (HB4.out.trans (hb5.mono HB4.out.size))
          clear hr5 hb5 q0 q1 q2 q3
          obtain ⟨q0, q1, q2, q3⟩ := HBX5.out.cells
          have HEQ : Hid (ints (printL gv (k + 1)) = ints xs ++ (encF 9 d).map (fun (n : Nat) => (n : Int)) ++ (encF 9 K).map (fun (n : Nat) => (n : Int)) ++ (encF 9 A).map (fun (n : Nat) => (n : Int)) ++ (encF 9 B).map (fun (n : Nat) => (n : Int))) := Lib.hid (by
            have h3 := HK3.out
            rw [HPB.out, HP2.out, if_pos (by omega), if_pos (by omega)]
            simp [ints])
          go_wp2_with fail
          go_roundw
          case rel => exact ⟨k + 1, by omega, by go_num, by rw [HNX.out], oa5, m5, oc5, rfl, by rw [HEQ.out]; exact HR5.out, HB5.out⟩
          case measure => simp [intOf]; omega
        · have t3 : ((K : Int) == 3) = false := by simp; omega
          by_cases h5 : K = 5
          · have t5 : ((K : Int) == 5) = true := by simp; omega
            have HK5 := Lib.hid h5
            clear h3 h5
            go_wp2_with fail
            refine (put_row _ m3 _ _ B _ HR3.out (by omega) (by omega)).mono ?_
            rintro e w5 ⟨oa5, m5, oc5, rfl, hr5, _, hb5⟩
            have HR5 := Lib.hid hr5
            have HBX5 := Lib.hid (HBX3.out.stays hb5)
            have HB5 : Hid (Below w.heap.size w w5) := Lib.hid (HB3.out.trans (hb5.mono HB3.out.size))
            clear hr5 hb5 q0 q1 q2 q3
            obtain ⟨q0, q1, q2, q3⟩ := HBX5.out.cells
            have HEQ : Hid (ints (printL gv (k + 1)) = ints xs ++ (encF 9 d).map (fun (n : Nat) => (n : Int)) ++ (encF 9 K).map (fun (n : Nat) => (n : Int)) ++ (encF 9 B).map (fun (n : Nat) => (n : Int))) := Lib.hid (by
              have h5 := HK5.out
              rw [HPB.out, HP2.out, if_neg (by omega), if_pos (by omega)]
              simp [ints])
            go_wp2_with fail
            go_roundw
            case rel => exact ⟨k + 1, by omega, by go_num, by rw [HNX.out], oa5, m5, oc5, rfl, by rw [HEQ.out]; exact HR5.out, HB5.out⟩
            case measure => simp [intOf]; omega
          · have t5 : ((K : Int) == 5) = false := by simp; omega
            have HEQ : Hid (ints (printL gv (k + 1)) = ints xs ++ (encF 9 d).map (fun (n : Nat) => (n : Int)) ++ (encF 9 K).map (fun (n : Nat) => (n : Int))) := Lib.hid (by
              rw [HPB.out, HP2.out, if_neg (by omega), if_neg (by omega)]
              simp [ints])
            clear h3 h5
            go_wp2_with fail
            go_roundw
            case rel => exact ⟨k + 1, by omega, by go_num, by rw [HNX.out], oa3, m3, oc3, rfl, by rw [HEQ.out]; exact HR3.out, HB3.out⟩
            case measure => simp [intOf]; omega
      · obtain rfl : k = len := by omega
        have t1 : decide (k < k) = false := by simp
        have HR := Lib.hid hrow
        have HB := Lib.hid hb
        clear hrow hb
        go_wp2_with fail
        go_ret2
        exact ⟨oa, m, oc, rfl, HR.out, HB.out⟩
  · exact absurd hlt (Nat.lt_irrefl _)

end Go.Proofs.YtjcklfbpdjfibaaDoor

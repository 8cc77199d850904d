/-
  The law on bounds: true, whatever comes.
-/
import Derived.Test.YtpfpieakemnadaaDoorBFirst
namespace Go.Proofs.YtpfpieakemnadaaDoor
open Go.RowKit

theorem low8_i64 (a : Int) : bits BinOp.and IntKind.i64 a 255 = a % 256 := by
  have key : (BitVec.ofInt 64 a &&& BitVec.ofInt 64 255).toNat = (a % ((2 ^ 64 : Nat) : Int)).toNat % 2 ^ 8 := by
    have hm : BitVec.ofInt 64 255 = BitVec.ofNat 64 (2 ^ 8 - 1) := by decide
    rw [BitVec.toNat_and, hm, BitVec.toNat_ofNat, BitVec.toNat_ofInt, Nat.mod_eq_of_lt (by omega), Nat.and_two_pow_sub_one_eq_mod]
  show IntKind.i64.wrap ((BitVec.ofInt 64 a &&& BitVec.ofInt 64 255).toNat : Nat) = _
  rw [key, IntKind.wrap_i64]
  have e64 : (2 : Nat) ^ 64 = 18446744073709551616 := by decide
  have e10 : (2 : Nat) ^ 8 = 256 := by decide
  rw [e64, e10]
  omega

def fillB (n : Nat) (x : Int) (j : Nat) : Bool := decide ((j : Int) < x ∧ j < n)
def leftB (n : Nat) (x : Int) (j : Nat) : Bool := decide ((j : Int) ≤ x ∧ j < n)

theorem fill_next (n : Nat) (x : Int) (h : -2 ≤ x) (j : Nat) : (fillB n x j || (inB x n && decide (j = x.toNat))) = fillB n (x + 1) j := by
  rw [Bool.eq_iff_iff]
  simp [fillB, inB]
  omega
theorem fill_res (n : Nat) (x : Int) : (inB x n && !fillB n x x.toNat) = inB x n := by
  rw [Bool.eq_iff_iff]
  simp [fillB, inB]
  omega
theorem left_next (n : Nat) (x : Int) (h : -2 ≤ x) (j : Nat) : (leftB n x j && !(inB x n && decide (j = x.toNat))) = leftB n (x - 1) j := by
  rw [Bool.eq_iff_iff]
  simp [leftB, inB]
  omega
theorem left_res (n : Nat) (x : Int) : (inB x n && leftB n x x.toNat) = inB x n := by
  rw [Bool.eq_iff_iff]
  simp [leftB, inB]
  omega
theorem fill_left (n : Nat) (j : Nat) : fillB n ((n : Int) + 70) j = leftB n ((n : Int) + 70) j := by
  rw [Bool.eq_iff_iff]
  simp [fillB, leftB]
  omega
theorem fill_many (n : Nat) : many (fillB n ((n : Int) + 70)) n = n := by
  unfold many members
  rw [List.filter_eq_self.2 (fun j hj => by have := List.mem_range.1 hj; simp [fillB]; omega), List.length_range]
theorem left_none (n : Nat) : members (leftB n (-3)) n = [] := by
  unfold members
  rw [List.filter_eq_nil_iff]
  intro j hj
  simp [leftB]
  omega

def FillRel (w : World) (s r n : Nat) (sx : Value) (wr : World) : Prop :=
  ∃ x : Int, -2 ≤ x ∧ x ≤ (n : Int) + 70 ∧ sx = .int .i64 x ∧ SetF w.heap.size s r n (fillB n x) wr ∧ Below w.heap.size w wr
def LeftRel (w : World) (s r n : Nat) (sx : Value) (wr : World) : Prop :=
  ∃ x : Int, -3 ≤ x ∧ x ≤ (n : Int) + 70 ∧ sx = .int .i64 x ∧ SetF w.heap.size s r n (leftB n x) wr ∧ Below w.heap.size w wr

set_option maxHeartbeats 1000000 in
set_option maxRecDepth 100000 in
theorem bounds_law (z : Int) (w : World) (hz : (Lit.int .i64 z).wf = true) (hT : TabOk w) :
    Calls Tryd.prog 5 #[.int .i64 z] w (TruePost w) := by
  have e1 := low8_i64 z
  obtain ⟨n, hn⟩ : ∃ n : Nat, z % 256 = (n : Int) := ⟨(z % 256).toNat, by omega⟩
  have hn1 : n < 256 := by omega
  rw [hn] at e1
  have HT := Lib.hid hT
  clear hT hn hz
  have a1 : IntKind.i64.wrap ((n : Int) + 70) = (n : Int) + 70 := IntWalk.i64_in _ (by omega)
  go_enter Tryd.func5, Tryd.ntmps5
  go_wp2_with fail
  refine (bfirst _ HT.out).mono ?_
  rintro e w1 ⟨rfl, hB1⟩
  have HB1 := Lib.hid hB1
  clear hB1
  go_wp2_with fail
  refine (newF n _ (by omega)).mono ?_
  rintro e w2 ⟨s, r, rfl, hs2, hb2⟩
  have H2 : Hid (SetF w.heap.size s r n (fillB n (-2)) w2) := Lib.hid ((hs2.base HB1.out.size).congr fun j => by simp [fillB]; omega)
  have B2 : Hid (Below w.heap.size w w2) := Lib.hid (HB1.out.trans (hb2.mono HB1.out.size))
  clear hs2 hb2 HB1
  go_wp2_with fail
  go_loopw [5] (fun sx wr => FillRel w s r n sx wr) (fun sx _ => ((n : Int) + 70 - intOf sx).toNat)
  case atStart => exact ⟨-2, by omega, by omega, rfl, H2.out, B2.out⟩
  case round =>
    obtain ⟨x, hx0, hx1, rfl, hs, hb⟩ := hrel
    have HS := Lib.hid hs
    have HB := Lib.hid hb
    clear hs hb H2 B2
    by_cases hlt : x < (n : Int) + 70
    · have t1 : decide (x < (n : Int) + 70) = true := by simpa using hlt
      go_wp2_with fail
      refine (addF x _ HS.out).mono ?_
      rintro e w3 ⟨rfl, hs3, hg3⟩
      rw [fill_res]
      have H3 : Hid (SetF w.heap.size s r n (fillB n (x + 1)) w3) := Lib.hid (hs3.congr fun j => fill_next n x hx0 j)
      have B3 : Hid (Below w.heap.size w w3) := Lib.hid (below_own HB.out hg3 hs3.lo.2)
      clear hs3 hg3 HS HB
      by_cases h0 : 0 ≤ x
      · have t2 : decide (0 ≤ x) = true := by simpa using h0
        by_cases h1 : x < n
        · have t3 : decide (x < (n : Int)) = true := by simpa using h1
          rw [inB_of ⟨h0, h1⟩]
          go_wp2_with fail
          go_roundw
          case rel => exact ⟨x + 1, by omega, by omega, by go_num, H3.out, B3.out⟩
          case measure => simp [intOf]; omega
        · have t3 : decide (x < (n : Int)) = false := by simp; omega
          rw [inB_no (fun h => h1 h.2)]
          go_wp2_with fail
          go_roundw
          case rel => exact ⟨x + 1, by omega, by omega, by go_num, H3.out, B3.out⟩
          case measure => simp [intOf]; omega
      · have t2 : decide (0 ≤ x) = false := by simp; omega
        rw [inB_no (fun h => h0 h.1)]
        go_wp2_with fail
        go_roundw
        case rel => exact ⟨x + 1, by omega, by omega, by go_num, H3.out, B3.out⟩
        case measure => simp [intOf]; omega
    · obtain rfl : x = (n : Int) + 70 := by omega
      have t1 : decide ((n : Int) + 70 < (n : Int) + 70) = false := by simp
      go_wp2_with fail
      refine (lenF _ HS.out).mono ?_
      rintro e w' ⟨rfl, rfl⟩
      rw [fill_many]
      have t2 : ((n : Int) != (n : Int)) = false := by simp
      go_wp2_with fail
      refine (hasF (n : Int) _ HS.out).mono ?_
      rintro e w' ⟨rfl, rfl⟩
      rw [inB_no (by omega), Bool.false_and]
      go_wp2_with fail
      refine (hasF (-1) _ HS.out).mono ?_
      rintro e w' ⟨rfl, rfl⟩
      rw [inB_no (by omega), Bool.false_and]
      have HL : Hid (SetF w.heap.size s r n (leftB n ((n : Int) + 70)) wr) := Lib.hid (HS.out.congr fun j => fill_left n j)
      clear HS
      go_wp2_with fail
      go_loopw [6] (fun sx wr => LeftRel w s r n sx wr) (fun sx _ => (intOf sx + 3).toNat)
      case atStart => exact ⟨(n : Int) + 70, by omega, by omega, rfl, HL.out, HB.out⟩
      case round =>
        obtain ⟨x, hx0, hx1, rfl, hs, hb⟩ := hrel
        clear HL HB
        have HS := Lib.hid hs
        have HB := Lib.hid hb
        clear hs hb
        by_cases hlt : -2 ≤ x
        · have t3 : decide (-2 ≤ x) = true := by simpa using hlt
          go_wp2_with fail
          refine (dropF x _ HS.out).mono ?_
          rintro e w3 ⟨rfl, hs3, hg3⟩
          rw [left_res]
          have H3 : Hid (SetF w.heap.size s r n (leftB n (x - 1)) w3) := Lib.hid (hs3.congr fun j => left_next n x hlt j)
          have B3 : Hid (Below w.heap.size w w3) := Lib.hid (below_own HB.out hg3 hs3.lo.2)
          clear hs3 hg3 HS HB
          by_cases h0 : 0 ≤ x
          · have t4 : decide (0 ≤ x) = true := by simpa using h0
            by_cases h1 : x < n
            · have t5 : decide (x < (n : Int)) = true := by simpa using h1
              rw [inB_of ⟨h0, h1⟩]
              go_wp2_with fail
              go_roundw
              case rel => exact ⟨x - 1, by omega, by omega, by go_num, H3.out, B3.out⟩
              case measure => simp [intOf]; omega
            · have t5 : decide (x < (n : Int)) = false := by simp; omega
              rw [inB_no (fun h => h1 h.2)]
              go_wp2_with fail
              go_roundw
              case rel => exact ⟨x - 1, by omega, by omega, by go_num, H3.out, B3.out⟩
              case measure => simp [intOf]; omega
          · have t4 : decide (0 ≤ x) = false := by simp; omega
            rw [inB_no (fun h => h0 h.1)]
            go_wp2_with fail
            go_roundw
            case rel => exact ⟨x - 1, by omega, by omega, by go_num, H3.out, B3.out⟩
            case measure => simp [intOf]; omega
        · obtain rfl : x = -3 := by omega
          have em := left_none n
          have el : many (leftB n (-3)) n = 0 := by unfold many; rw [em]; rfl
          go_wp2_with fail
          refine (lenF _ HS.out).mono ?_
          rintro e w' ⟨rfl, rfl⟩
          rw [el]
          go_wp2_with fail
          refine (listF _ HS.out (HT.out.below HB.out (Nat.le_refl _))).mono ?_
          rintro e w6 ⟨v, rfl, hown, hnil, hb6⟩
          obtain rfl : v = .slice none 0 0 := hnil.2 em
          have B6 : Hid (Below w.heap.size w w6) := Lib.hid (HB.out.trans (hb6.mono HB.out.size))
          clear hown hnil hb6
          go_wp2_with fail
          go_ret
          exact ⟨rfl, B6.out⟩

end Go.Proofs.YtpfpieakemnadaaDoor

/-
  HeapKinds: every input; the texts that come in.
-/
import Derived.Test.YtjffbojgdemooaaDoorKnd
import Derived.SliceStrings
import Derived.Deep.Slices
import Derived.ChangeArms
namespace Go.Proofs.YtjffbojgdemooaaDoor
open Go.RowKit Go.ChangeShapes Go.WideShapes Go.Deep

theorem lowb5_i64 (a : Int) : bits BinOp.and IntKind.i64 a 31 = a % 32 := by
  have key : (BitVec.ofInt 64 a &&& BitVec.ofInt 64 31).toNat = (a % ((2 ^ 64 : Nat) : Int)).toNat % 2 ^ 5 := by
    have hm : BitVec.ofInt 64 31 = BitVec.ofNat 64 (2 ^ 5 - 1) := by decide
    rw [BitVec.toNat_and, hm, BitVec.toNat_ofNat, BitVec.toNat_ofInt, Nat.mod_eq_of_lt (by omega), Nat.and_two_pow_sub_one_eq_mod]
  show IntKind.i64.wrap ((BitVec.ofInt 64 a &&& BitVec.ofInt 64 31).toNat : Nat) = _
  rw [key, IntKind.wrap_i64]
  have e64 : (2 : Nat) ^ 64 = 18446744073709551616 := by decide
  have ek : (2 : Nat) ^ 5 = 32 := by decide
  rw [e64, ek]
  omega

/-- Texts that come in. -/
structure Strs (w : World) (a : Option Addr) (len cap : Nat) (f : Nat → ByteArray) : Prop where
  cls : Cls w a len cap f
  size : ∀ i, i < len → (f i).size ≤ maxLen

theorem strInCells : Tryd.prog.cellsOf 9 = 1 := by kernel_rfl

theorem strs_ofT {H : Type} {enc : TypeId × Value → H} {W : World} {base : Nat} {spare : Nat → Bool} {held : Bool} {fuel len cap : Nat} {a : Option Addr} {x : DataW H × List MemPlace}
    (h : DataW.trod enc Tryd.prog W base spare held fuel 56 [.slice a len cap] = some x) : ∃ f, Strs W a len cap f := by
  rcases open_strings Tryd.underlying56 Tryd.underlying9 strInCells h with ⟨hcs, _⟩ | ⟨ad, l, c, ss, hcs, _, hl, hm, hlen, _, hcell, hsz⟩
  · simp at hcs
    obtain ⟨rfl, rfl, rfl⟩ := hcs
    exact ⟨fun _ => ⟨#[]⟩, ⟨⟨Nat.le_refl _, Nat.zero_le _, fun _ => rfl, fun ad h => (by cases h)⟩, fun i hi => absurd hi (Nat.not_lt_zero _)⟩⟩
  · simp at hcs
    obtain ⟨rfl, rfl, rfl⟩ := hcs
    have hle : len ≤ ss.length := by rw [hlen]; split <;> omega
    refine ⟨fun i => ss.getD i ByteArray.empty, ⟨⟨hl, hm, fun e => (by cases e), fun ad' had i hi => ?_⟩, fun i hi => ?_⟩⟩
    · cases had
      exact hcell i (by omega)
    · refine hsz _ ?_
      have h1 : i < ss.length := by omega
      show ss.getD i ByteArray.empty ∈ ss
      rw [List.getD_eq_getElem?_getD, List.getElem?_eq_getElem h1]
      exact List.getElem_mem _

set_option maxRecDepth 100000 in
theorem kinds_more (ca : Option Addr) (len cc : Nat) (x1 x2 : Int) (w : World) (h : 10 < len) (_hm : len ≤ maxLen) :
    Calls Tryd.prog 10 #[.slice ca len cc, .int .i64 x1, .int .i64 x2] w (TruePost w) := by
  have tl : decide (10 < (len : Int)) = true := by simp; omega
  have tl' : decide (10 < len) = true := by simpa using h
  unfold maxLen at _hm
  clear h
  go_enter Tryd.func10, Tryd.ntmps10
  go_wp2_with fail
  refine (hfirst _).mono ?_
  rintro e w1 ⟨rfl, hB1⟩
  have B1 := Lib.hid hB1
  clear hB1
  go_wp2_with fail
  go_ret
  exact ⟨rfl, B1.out⟩

theorem kinds_main (ca : Option Addr) (len cc : Nat) (f : Nat → ByteArray) (x1 x2 : Int) (w : World) (hS : Strs w ca len cc f) (_h1 : (Lit.int .i64 x1).wf = true) (_h2 : (Lit.int .i64 x2).wf = true) :
    Calls Tryd.prog 10 #[.slice ca len cc, .int .i64 x1, .int .i64 x2] w (TruePost w) := by
  by_cases h10 : len ≤ 10
  · obtain ⟨n, hn⟩ : ∃ n : Nat, x1 % 32 = (n : Int) := ⟨(x1 % 32).toNat, by omega⟩
    exact kinds_walk ca len cc f x1 x2 n w hS.cls h10 hS.size (by rw [lowb5_i64, hn]) (by omega)
  · exact kinds_more ca len cc x1 x2 w (by omega) (Nat.le_trans hS.cls.le hS.cls.max)

end Go.Proofs.YtjffbojgdemooaaDoor

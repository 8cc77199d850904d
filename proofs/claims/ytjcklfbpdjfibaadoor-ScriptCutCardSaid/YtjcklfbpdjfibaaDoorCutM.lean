/-
  The law on a script's bytes that are cut off: true, whatever comes.
-/
import Derived.Test.YtjcklfbpdjfibaaDoorPar1
import Derived.Test.YtjcklfbpdjfibaaDoorPrnA
import Derived.Test.YtjcklfbpdjfibaaDoorPik2
import Derived.Test.YtjcklfbpdjfibaaDoorPik4
import Derived.Deep.Slices
import Derived.ChangeArms
namespace Go.Proofs.YtjcklfbpdjfibaaDoor
open Go.RowKit Go.ChangeShapes Go.WideShapes Go.Deep

theorem Sents.four {a : Nat → Addr} {w : World} (h : Sents a w) : Sents4 a w := ⟨h.c0, h.c1, h.c2, h.c4⟩

theorem tmod_cut (z : Int) (m : Nat) (hm : 0 < m) : -(m : Int) < z.tmod m ∧ z.tmod m < m := by
  have h1 := Int.tmod_lt_of_pos z (show (0 : Int) < m by omega)
  refine ⟨?_, h1⟩
  rcases Int.le_total 0 z with h | h
  · have := Int.tmod_nonneg (m : Int) h; omega
  · have e : (-z).tmod m = -(z.tmod m) := Int.neg_tmod z m
    have h3 := Int.tmod_lt_of_pos (-z) (show (0 : Int) < m by omega)
    omega

set_option maxHeartbeats 8000000 in
set_option maxRecDepth 100000 in
theorem cut_fair (a : Nat → Addr) (ad : Option Addr) (len cap : Nat) (gv : Nat → Nat → Int) (z : Int) (w : World) (hp : Picks w ad len cap gv) (hS : Sents a w) (h100 : len ≤ 100) (hf : FairP gv len) :
    Calls Tryd.prog 12 #[.slice ad len cap, .int .i64 z] w (TruePost w) := by
  have H := Lib.hid hS
  have HP := Lib.hid hp
  have HF := Lib.hid hf
  clear hS hp hf
  have d1 : decide ((100 : Int) < (len : Int)) = false := by simp; omega
  go_enter Tryd.func12, Tryd.ntmps12
  go_wp2_with fail
  refine (sfirst a _ H.out).mono ?_
  rintro e w1 ⟨rfl, hb1⟩
  have HB1 := Lib.hid hb1
  have HS1 := Lib.hid (H.out.below hb1)
  have HP1 := Lib.hid (HP.out.below hb1)
  clear hb1 H
  go_wp2_with fail
  refine (ref_may _ len cap gv len _ HP1.out (by omega) (Nat.le_refl _) HF.out (fun h => absurd h (Nat.lt_irrefl _))).mono ?_
  rintro e w2 ⟨C, sa, sn, sc, rfl, hC, _, hb2⟩
  obtain rfl := hC rfl
  have EF := Lib.hid (show (Instr.field 53 (.agg #[.int .i64 0, .slice sa sn sc]) 0).run Tryd.prog w2 = .ok (.int .i64 0) w2 from by kernel_rfl)
  have HB2 : Hid (Below w.heap.size w w2) := Lib.hid (HB1.out.trans (hb2.mono HB1.out.size))
  have HS2 := Lib.hid (HS1.out.below hb2)
  have HP2 := Lib.hid (HP1.out.below hb2)
  clear hb2 hC HB1 HS1 HP1
  go_wp2_with (rw [EF.out])
  refine (print_any4 a _ len cap gv _ HS2.out.four HP2.out (by omega) HF.out).mono ?_
  rintro e w3 ⟨oa, m, oc, rfl, hrow, hb3⟩
  have hm := hrow.len_eq
  rw [ints_len] at hm
  have hml := printL_le gv len
  have HB3 : Hid (Below w.heap.size w w3) := Lib.hid (HB2.out.trans (hb3.mono HB2.out.size))
  have HS3 := Lib.hid (HS2.out.below hb3)
  have HP3 := Lib.hid (HP2.out.below hb3)
  have HR := Lib.hid hrow
  clear hb3 HB2 HS2 HP2 EF hrow
  by_cases h0 : len = 0
  · subst h0
    have hm0 : m = 0 := by have : (printL gv 0).length = 0 := rfl; omega
    subst hm0
    clear hm hml
    go_wp2_with fail
    go_ret
    exact ⟨rfl, HB3.out⟩
  · have hmp : 0 < m := by have := printL_mono gv 0 len (by omega); omega
    have hb := tmod_cut z m hmp
    obtain ⟨q, hq⟩ : ∃ q, z.tmod (m : Int) = q := ⟨_, rfl⟩
    rw [hq] at hb
    obtain ⟨n, hn⟩ : ∃ n : Nat, (q + (m : Int)).tmod (m : Int) = (n : Int) := ⟨((q + (m : Int)).tmod (m : Int)).toNat, by have := Int.tmod_nonneg (m : Int) (show 0 ≤ q + (m : Int) by omega); omega⟩
    have hnm : n < m := by have := Int.tmod_lt_of_pos (q + (m : Int)) (show (0 : Int) < m by omega); omega
    have a1 : IntKind.i64.wrap (q + (m : Int)) = q + (m : Int) := IntWalk.i64_in _ (by omega)
    have t1 : ((m : Int) == 0) = false := by simp; omega
    obtain ⟨b, off, rfl, _⟩ := Row_at HR.out hmp
    have hr2 : Row .u8 w3 (some ⟨b, off, none⟩) n oc (intsR ((printL gv len).take n)) := by
      have h1 := Row_sub HR.out 0 n (by omega)
      have e : ((ints (printL gv len)).drop 0).take n = intsR ((printL gv len).take n) := by rw [List.drop_zero]; simp [ints, intsR, List.map_take]
      rw [e] at h1
      exact h1
    have PC := Lib.hid (parse_cut a b off n oc len gv w3 HS3.out HS3.out.four hr2 h100 HF.out (by omega) HR.out.max)
    have hoc := HR.out.le
    have hom := HR.out.max
    unfold maxLen at hom
    have HNM := Lib.hid hnm
    have HH0 := Lib.hid h0
    clear hr2 hm hml h0
    go_wp2_with fail
    refine PC.out.mono ?_
    rintro e w4 ⟨hb4, hcase⟩
    have HB4 : Hid (Below w.heap.size w w4) := Lib.hid (HB3.out.trans (hb4.mono HB3.out.size))
    have HS4 := Lib.hid (HS3.out.below hb4)
    have HP4 := Lib.hid (HP3.out.below hb4)
    clear hb4 PC
    rcases hcase with ⟨k, pa, pc, hk, rfl, hpk⟩ | ⟨b', rfl, hat⟩
    · obtain ⟨lb, lo, rfl, _, _⟩ := Picks_at HP4.out (by omega)
      have hpl : Picks w4 (some ⟨lb, lo, none⟩) k cap gv := ⟨Nat.le_trans (by omega) HP4.out.le, HP4.out.max, HP4.out.nil, fun ad had i j hi hj => HP4.out.cells ad had i j (by omega) hj⟩
      have SM := Lib.hid (same_picks pa (some ⟨lb, lo, none⟩) k pc cap gv w4 hpk hpl (by omega))
      have t2 : decide (k < len) = true := by simpa using hk
      have hle := HP4.out.le
      have hmx := HP4.out.max
      unfold maxLen at hmx
      clear hpk hpl
      go_wp2_with fail
      refine SM.out.mono ?_
      rintro e w5 ⟨rfl, hb5⟩
      go_wp2_with fail
      go_ret
      exact ⟨rfl, HB4.out.trans (hb5.mono HB4.out.size)⟩
    · have HAT : Hid (AtBox a b' 5 (n : Int) w4) := Lib.hid hat
      clear hat
      go_wp2_with fail
      refine (placed_any 106 (n : Int) _ (by decide)).mono ?_
      rintro e w5 ⟨g, rfl, hc5, hb5⟩
      have hwf : (Lit.int .i64 (n : Int)).wf = true := by
        have := HNM.out
        simp [Lit.wf, IntKind.min, IntKind.max, IntKind.signed, IntKind.bits]
        omega
      have HB5 : Hid (Below w.heap.size w w5) := Lib.hid (HB4.out.trans (hb5.mono HB4.out.size))
      have SA := Lib.hid (same_around a b' 5 (n : Int) g 1 _ (HS4.out.below hb5) (by decide) (HAT.out.below hb5) (row_one hc5 (Nat.le_refl _) (by unfold maxLen; omega) hwf))
      clear hb5 hc5 hwf
      go_wp2_with fail
      refine SA.out.mono ?_
      rintro e w6 ⟨rfl, hb6⟩
      go_wp2_with fail
      go_ret
      exact ⟨rfl, HB5.out.trans (hb6.mono HB5.out.size)⟩

/-- A list that may not be: the law says what first says. -/
theorem cut_unfair (a : Nat → Addr) (ad : Option Addr) (len cap : Nat) (gv : Nat → Nat → Int) (k : Nat) (z : Int) (w : World) (hp : Picks w ad len cap gv) (hS : Sents a w) (h100 : len ≤ 100) (hn : k < len) (hok : ∀ i, i < k → codeAt gv i = 0) (hbad : codeAt gv k ≠ 0) :
    Calls Tryd.prog 12 #[.slice ad len cap, .int .i64 z] w (TruePost w) := by
  have H := Lib.hid hS
  have HP := Lib.hid hp
  have HOK := Lib.hid hok
  have HBAD := Lib.hid hbad
  clear hS hp hok hbad
  have d1 : decide ((100 : Int) < (len : Int)) = false := by simp; omega
  go_enter Tryd.func12, Tryd.ntmps12
  go_wp2_with fail
  refine (sfirst a _ H.out).mono ?_
  rintro e w1 ⟨rfl, hb1⟩
  have HB1 := Lib.hid hb1
  have HP1 := Lib.hid (HP.out.below hb1)
  clear hb1 H
  go_wp2_with fail
  refine (ref_may _ len cap gv k _ HP1.out (by omega) (by omega) HOK.out (fun _ => HBAD.out)).mono ?_
  rintro e w2 ⟨C, sa, sn, sc, rfl, _, hC, hb2⟩
  have hc0 := hC hn
  have t1 : (C == 0) = false := by simpa using hc0
  have t2 : (C != 0) = true := by simpa using hc0
  have EF := Lib.hid (show (Instr.field 53 (.agg #[.int .i64 C, .slice sa sn sc]) 0).run Tryd.prog w2 = .ok (.int .i64 C) w2 from by kernel_rfl)
  have HB2 : Hid (Below w.heap.size w w2) := Lib.hid (HB1.out.trans (hb2.mono HB1.out.size))
  clear hb2 hC hc0 HP1 HB1
  go_wp2_with (rw [EF.out])
  go_ret
  exact ⟨rfl, HB2.out⟩

theorem cut_long (a : Nat → Addr) (ad : Option Addr) (len cap : Nat) (z : Int) (w : World) (hS : Sents a w) (_hm : cap ≤ maxLen) (_hl : len ≤ cap) (h : ¬ len ≤ 100) :
    Calls Tryd.prog 12 #[.slice ad len cap, .int .i64 z] w (TruePost w) := by
  have H := Lib.hid hS
  clear hS
  unfold maxLen at _hm
  have d1 : decide ((100 : Int) < (len : Int)) = true := by simp; omega
  clear h
  go_enter Tryd.func12, Tryd.ntmps12
  go_wp2_with fail
  refine (sfirst a _ H.out).mono ?_
  rintro e w1 ⟨rfl, hB1⟩
  have B1 := Lib.hid hB1
  clear hB1
  go_wp2_with fail
  go_ret
  exact ⟨rfl, B1.out⟩

theorem pickCells : Tryd.prog.cellsOf 107 = 4 := by kernel_rfl
theorem intCellsP : Tryd.prog.cellsOf 3 = 1 := by kernel_rfl

theorem picks_ofT {H : Type} {enc : TypeId × Value → H} {W : World} {base : Nat} {spare : Nat → Bool} {held : Bool} {fuel len cap : Nat} {a : Option Addr} {x : DataW H × List MemPlace}
    (h : DataW.trod enc Tryd.prog W base spare held fuel 88 [.slice a len cap] = some x) : ∃ gv, Picks W a len cap gv := by
  rcases open_slice Tryd.underlying88 h with ⟨hcs, _⟩ | ⟨ad, l, c, m, fl, D, Pl, hcs, _, hl, hm, hmm, _, hel⟩
  · simp at hcs
    obtain ⟨rfl, rfl, rfl⟩ := hcs
    exact ⟨fun _ _ => 0, ⟨Nat.le_refl _, Nat.zero_le _, fun _ => rfl, fun ad h => (by cases h)⟩⟩
  · simp at hcs
    obtain ⟨rfl, rfl, rfl⟩ := hcs
    have hlm : len ≤ m := by rw [hmm]; split <;> omega
    have key : ∀ i j, i < len → j < 4 → ∃ z : Int, W.cell? (ad.add (i * 4 + j)) = some (.int .i64 z) ∧ (Lit.int .i64 z).wf = true := by
      intro i j hi hj
      obtain ⟨cs', hc, ht⟩ := hel i (by omega)
      rw [pickCells] at hc
      obtain ⟨xs, n, _, _, hlen, hxl, hf⟩ := DataW.trod_struct Tryd.underlying107 ht
      rw [pickCells] at hlen
      obtain ⟨_, hcl, hat⟩ := World.cells?_some hc
      have hcell := hat j hj
      rw [add_add] at hcell
      have fin : ∀ (t : TypeId) (o : Nat), Tryd.prog.underlying t = some (.int .i64) → Tryd.prog.cellsOf t = 1 → o = j → (∃ y, DataW.trod enc Tryd.prog W base spare held n t ((cs'.drop o).take (Tryd.prog.cellsOf t)) = some y) → ∃ z : Int, W.cell? (ad.add (i * 4 + j)) = some (.int .i64 z) ∧ (Lit.int .i64 z).wf = true := by
        rintro t o hu h1 rfl ⟨y, hy⟩
        rw [h1] at hy
        obtain ⟨z, hz, _, hw⟩ := DataW.trod_int hu hy
        refine ⟨z, ?_, hw⟩
        rw [hcell]
        have : (cs'.drop o).take 1 = [cs'[o]'(by omega)] := by
          rw [List.drop_eq_getElem_cons (by omega)]
          rfl
        rw [this] at hz
        rw [List.getElem?_eq_getElem (by omega)]
        simpa using hz
      have hxs : ∀ k, k < 4 → ∃ y, xs[k]? = some y := fun k hk => ⟨_, List.getElem?_eq_getElem (by rw [hxl]; exact hk)⟩
      match j, hj with
      | 0, _ => obtain ⟨y, hy⟩ := hxs 0 (by omega); exact fin _ 0 Tryd.underlying3 intCellsP rfl ⟨y, (hf 0 _ rfl).trans hy⟩
      | 1, _ => obtain ⟨y, hy⟩ := hxs 1 (by omega); exact fin _ 1 Tryd.underlying3 intCellsP rfl ⟨y, (hf 1 _ rfl).trans hy⟩
      | 2, _ => obtain ⟨y, hy⟩ := hxs 2 (by omega); exact fin _ 2 Tryd.underlying3 intCellsP rfl ⟨y, (hf 2 _ rfl).trans hy⟩
      | 3, _ => obtain ⟨y, hy⟩ := hxs 3 (by omega); exact fin _ 3 Tryd.underlying3 intCellsP rfl ⟨y, (hf 3 _ rfl).trans hy⟩
    refine ⟨fun i j => if h : i < len ∧ j < 4 then (key i j h.1 h.2).choose else 0, ⟨hl, hm, fun e => (by cases e), fun ad' had i j hi hj => ?_⟩⟩
    cases had
    simp only [hi, hj, and_self, dite_true]
    exact (key i j hi hj).choose_spec.1

theorem cut_main (ad : Option Addr) (len cap : Nat) (gv : Nat → Nat → Int) (z : Int) (w : World) (hp : Picks w ad len cap gv) (_hz : (Lit.int .i64 z).wf = true) (hL : laidMetH Tryd.prog Rows.scriptCutRow.laid w) :
    Calls Tryd.prog 12 #[.slice ad len cap, .int .i64 z] w (TruePost w) := by
  obtain ⟨a, hS⟩ := sents_of_laid (show (sentTexts.map mkSent : List (String × DataW Unit)) = Rows.scriptCutRow.laid from rfl) (by kernel_rfl) hL
  by_cases h : len ≤ 100
  · obtain ⟨n, h1, h2, h3⟩ := first_bad gv len
    by_cases e : n < len
    · exact cut_unfair a ad len cap gv n z w hp hS h e h2 (h3 e)
    · obtain rfl : n = len := by omega
      exact cut_fair a ad n cap gv z w hp hS h h2
  · exact cut_long a ad len cap z w hS hp.max hp.le h

end Go.Proofs.YtjcklfbpdjfibaaDoor

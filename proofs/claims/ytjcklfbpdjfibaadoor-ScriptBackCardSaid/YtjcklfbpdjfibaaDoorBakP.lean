/-
  The law on a script that is printed and read again: every input; the options that come in.
-/
import Derived.Test.YtjcklfbpdjfibaaDoorBakO
import Derived.Deep.Slices
import Derived.ChangeArms
namespace Go.Proofs.YtjcklfbpdjfibaaDoor
open Go.RowKit Go.ChangeShapes Go.WideShapes Go.Deep

set_option maxHeartbeats 2000000 in
theorem back_more (a : Nat → Addr) (ad : Option Addr) (len cap : Nat) (ba : Option Addr) (n bc : Nat) (y0 y1 y2 y3 y4 : Bool) (r : Int) (w : World) (hS : Sents6 a w) (_hm : cap ≤ maxLen) (_hl : len ≤ cap) (_hm2 : bc ≤ maxLen) (_hl2 : n ≤ bc) (h : 450 < len ∨ 2000 < n) :
    Calls Tryd.prog 10 #[.slice ad len cap, .slice ba n bc, .agg #[.bool y0, .bool y1, .bool y2, .bool y3, .bool y4, .int .i64 r]] w (TruePost w) := by
  have H := Lib.hid hS
  clear hS
  unfold maxLen at _hm _hm2
  by_cases h1 : 450 < len
  · have d1 : decide ((450 : Int) < (len : Int)) = true := by simp; omega
    clear h h1
    go_enter Tryd.func10, Tryd.ntmps10
    go_wp2_with fail
    have hb0 : Below w.heap.size w (w.alloc (.cells #[.bool y0, .bool y1, .bool y2, .bool y3, .bool y4, .int .i64 r] 90)) := (Below.refl _ _).alloc (Nat.le_refl _) _
    generalize (w.alloc (.cells #[.bool y0, .bool y1, .bool y2, .bool y3, .bool y4, .int .i64 r] 90)) = W0 at *
    refine (sfirst4 a _ (H.out.below hb0).four).mono ?_
    rintro e w1 ⟨rfl, hb1⟩
    have HB1 : Hid (Below w.heap.size w w1) := Lib.hid (hb0.trans (hb1.mono hb0.size))
    clear hb1 hb0
    go_wp2_with fail
    go_ret
    exact ⟨rfl, HB1.out⟩
  · have d1 : decide ((450 : Int) < (len : Int)) = false := by simp; omega
    have d2 : decide ((2000 : Int) < (n : Int)) = true := by simp; omega
    clear h h1
    go_enter Tryd.func10, Tryd.ntmps10
    go_wp2_with fail
    have hb0 : Below w.heap.size w (w.alloc (.cells #[.bool y0, .bool y1, .bool y2, .bool y3, .bool y4, .int .i64 r] 90)) := (Below.refl _ _).alloc (Nat.le_refl _) _
    generalize (w.alloc (.cells #[.bool y0, .bool y1, .bool y2, .bool y3, .bool y4, .int .i64 r] 90)) = W0 at *
    refine (sfirst4 a _ (H.out.below hb0).four).mono ?_
    rintro e w1 ⟨rfl, hb1⟩
    have HB1 : Hid (Below w.heap.size w w1) := Lib.hid (hb0.trans (hb1.mono hb0.size))
    clear hb1 hb0
    go_wp2_with fail
    go_ret
    exact ⟨rfl, HB1.out⟩

theorem bytes_of {w : World} {a : Option Addr} {n c : Nat} {zs : List Int} (h : Row .u8 w a n c zs) : ∃ bs, zs = intsR bs ∧ ∀ g ∈ bs, g < 256 := by
  have hz : ∀ z ∈ zs, 0 ≤ z ∧ z < 256 := fun z hz => by
    have h1 := h.wf z hz
    simp [Lit.wf, IntKind.min, IntKind.max, IntKind.signed, IntKind.bits] at h1
    omega
  clear h
  refine ⟨zs.map Int.toNat, ?_, ?_⟩
  · unfold intsR
    rw [List.map_map]
    have e : ∀ z ∈ zs, ((fun (n : Nat) => (n : Int)) ∘ Int.toNat) z = id z := fun z hzz => by have := hz z hzz; show ((z.toNat : Nat) : Int) = z; omega
    rw [List.map_congr_left e, List.map_id]
  · intro g hg
    obtain ⟨z, hzz, rfl⟩ := List.mem_map.1 hg
    have := hz z hzz
    omega

theorem pickCells : Tryd.prog.cellsOf 107 = 4 := by kernel_rfl
theorem intCellsP : Tryd.prog.cellsOf 3 = 1 := by kernel_rfl

theorem picks_ofT {H : Type} {enc : TypeId × Value → H} {W : World} {base : Nat} {spare : Nat → Bool} {held : Bool} {fuel len cap : Nat} {a : Option Addr} {x : DataW H × List MemPlace}
    (h : DataW.trod enc Tryd.prog W base spare held fuel 88 [.slice a len cap] = some x) : ∃ gv, Picks W a len cap gv := by
  rcases open_slice Tryd.underlying88 h with ⟨hcs, _⟩ | ⟨ad, l, c, m, fl, D, Pl, hcs, _, hl, hm, hmm, _, hel⟩
  · simp at hcs
    obtain ⟨rfl, rfl, rfl⟩ := hcs
    exact ⟨fun _ _ => 0, ⟨Nat.le_refl _, Nat.zero_le _, fun _ => rfl, fun ad h => (by cases h)⟩⟩
  · simp at hcs
    obtain ⟨rfl, rfl, rfl⟩ := hcs
    have hlm : len ≤ m := by rw [hmm]; split <;> omega
    have key : ∀ i j, i < len → j < 4 → ∃ z : Int, W.cell? (ad.add (i * 4 + j)) = some (.int .i64 z) ∧ (Lit.int .i64 z).wf = true := by
      intro i j hi hj
      obtain ⟨cs', hc, ht⟩ := hel i (by omega)
      rw [pickCells] at hc
      obtain ⟨xs, n, _, _, hlen, hxl, hf⟩ := DataW.trod_struct Tryd.underlying107 ht
      rw [pickCells] at hlen
      obtain ⟨_, hcl, hat⟩ := World.cells?_some hc
      have hcell := hat j hj
      rw [add_add] at hcell
      have fin : ∀ (t : TypeId) (o : Nat), Tryd.prog.underlying t = some (.int .i64) → Tryd.prog.cellsOf t = 1 → o = j → (∃ y, DataW.trod enc Tryd.prog W base spare held n t ((cs'.drop o).take (Tryd.prog.cellsOf t)) = some y) → ∃ z : Int, W.cell? (ad.add (i * 4 + j)) = some (.int .i64 z) ∧ (Lit.int .i64 z).wf = true := by
        rintro t o hu h1 rfl ⟨y, hy⟩
        rw [h1] at hy
        obtain ⟨z, hz, _, hw⟩ := DataW.trod_int hu hy
        refine ⟨z, ?_, hw⟩
        rw [hcell]
        have : (cs'.drop o).take 1 = [cs'[o]'(by omega)] := by
          rw [List.drop_eq_getElem_cons (by omega)]
          rfl
        rw [this] at hz
        rw [List.getElem?_eq_getElem (by omega)]
        simpa using hz
      have hxs : ∀ k, k < 4 → ∃ y, xs[k]? = some y := fun k hk => ⟨_, List.getElem?_eq_getElem (by rw [hxl]; exact hk)⟩
      match j, hj with
      | 0, _ => obtain ⟨y, hy⟩ := hxs 0 (by omega); exact fin _ 0 Tryd.underlying3 intCellsP rfl ⟨y, (hf 0 _ rfl).trans hy⟩
      | 1, _ => obtain ⟨y, hy⟩ := hxs 1 (by omega); exact fin _ 1 Tryd.underlying3 intCellsP rfl ⟨y, (hf 1 _ rfl).trans hy⟩
      | 2, _ => obtain ⟨y, hy⟩ := hxs 2 (by omega); exact fin _ 2 Tryd.underlying3 intCellsP rfl ⟨y, (hf 2 _ rfl).trans hy⟩
      | 3, _ => obtain ⟨y, hy⟩ := hxs 3 (by omega); exact fin _ 3 Tryd.underlying3 intCellsP rfl ⟨y, (hf 3 _ rfl).trans hy⟩
    refine ⟨fun i j => if h : i < len ∧ j < 4 then (key i j h.1 h.2).choose else 0, ⟨hl, hm, fun e => (by cases e), fun ad' had i j hi hj => ?_⟩⟩
    cases had
    simp only [hi, hj, and_self, dite_true]
    exact (key i j hi hj).choose_spec.1

theorem optCells : Tryd.prog.cellsOf 90 = 6 := by kernel_rfl
theorem boolCellsP : Tryd.prog.cellsOf 4 = 1 := by kernel_rfl
theorem intCellsQ : Tryd.prog.cellsOf 3 = 1 := by kernel_rfl

set_option maxRecDepth 100000 in
/-- Options that come in: five truths and a number. -/
theorem opts_ofT {H : Type} {enc : TypeId × Value → H} {W : World} {base : Nat} {spare : Nat → Bool} {held : Bool} {fuel : Nat} {cs : Array Value} {x : DataW H × List MemPlace}
    (h : DataW.trod enc Tryd.prog W base spare held fuel 90 cs.toList = some x) : ∃ (y0 y1 y2 y3 y4 : Bool) (r : Int), Value.agg cs = .agg #[.bool y0, .bool y1, .bool y2, .bool y3, .bool y4, .int .i64 r] := by
  obtain ⟨l⟩ := cs
  obtain ⟨xs, n, _, _, hlen, hxl, hf⟩ := DataW.trod_struct Tryd.underlying90 h
  rw [optCells] at hlen
  obtain ⟨c0, c1, c2, c3, c4, c5, rfl⟩ : ∃ c0 c1 c2 c3 c4 c5, l = [c0, c1, c2, c3, c4, c5] := by
    match l, hlen with
    | [c0, c1, c2, c3, c4, c5], _ => exact ⟨c0, c1, c2, c3, c4, c5, rfl⟩
  have hxs : ∀ k, k < 6 → ∃ y, xs[k]? = some y := fun k hk => ⟨_, List.getElem?_eq_getElem (by rw [hxl]; exact hk)⟩
  have gb : ∀ (o : Nat) (c : Value), (∃ y, DataW.trod enc Tryd.prog W base spare held n 4 (([c0, c1, c2, c3, c4, c5].drop o).take (Tryd.prog.cellsOf 4)) = some y) → ([c0, c1, c2, c3, c4, c5].drop o).take 1 = [c] → ∃ b, c = .bool b := by
    rintro o c ⟨y, hy⟩ e
    rw [boolCellsP, e] at hy
    obtain ⟨z, hz, _⟩ := DataW.trod_bool Tryd.underlying4 hy
    exact ⟨z, by simpa using hz⟩
  have gi : ∀ (o : Nat) (c : Value), (∃ y, DataW.trod enc Tryd.prog W base spare held n 3 (([c0, c1, c2, c3, c4, c5].drop o).take (Tryd.prog.cellsOf 3)) = some y) → ([c0, c1, c2, c3, c4, c5].drop o).take 1 = [c] → ∃ z, c = .int .i64 z := by
    rintro o c ⟨y, hy⟩ e
    rw [intCellsQ, e] at hy
    obtain ⟨z, hz, _⟩ := DataW.trod_int Tryd.underlying3 hy
    exact ⟨z, by simpa using hz⟩
  obtain ⟨v0, e0⟩ := hxs 0 (by omega)
  obtain ⟨v1, e1⟩ := hxs 1 (by omega)
  obtain ⟨v2, e2⟩ := hxs 2 (by omega)
  obtain ⟨v3, e3⟩ := hxs 3 (by omega)
  obtain ⟨v4, e4⟩ := hxs 4 (by omega)
  obtain ⟨v5, e5⟩ := hxs 5 (by omega)
  obtain ⟨y0, rfl⟩ := gb 0 c0 ⟨v0, (hf 0 _ rfl).trans e0⟩ rfl
  obtain ⟨y1, rfl⟩ := gb 1 c1 ⟨v1, (hf 1 _ rfl).trans e1⟩ rfl
  obtain ⟨y2, rfl⟩ := gb 2 c2 ⟨v2, (hf 2 _ rfl).trans e2⟩ rfl
  obtain ⟨y3, rfl⟩ := gb 3 c3 ⟨v3, (hf 3 _ rfl).trans e3⟩ rfl
  obtain ⟨y4, rfl⟩ := gb 4 c4 ⟨v4, (hf 4 _ rfl).trans e4⟩ rfl
  obtain ⟨r, rfl⟩ := gi 5 c5 ⟨v5, (hf 5 _ rfl).trans e5⟩ rfl
  exact ⟨y0, y1, y2, y3, y4, r, rfl⟩

theorem back_main (ad : Option Addr) (len cap : Nat) (gv : Nat → Nat → Int) (ba : Option Addr) (n bc : Nat) (zs : List Int) (y0 y1 y2 y3 y4 : Bool) (r : Int) (w : World) (hp : Picks w ad len cap gv) (hr : Row .u8 w ba n bc zs) (hL : laidMetH Tryd.prog Rows.scriptBackRow.laid w) :
    Calls Tryd.prog 10 #[.slice ad len cap, .slice ba n bc, .agg #[.bool y0, .bool y1, .bool y2, .bool y3, .bool y4, .int .i64 r]] w (TruePost w) := by
  obtain ⟨a, hS⟩ := sents6_of_laid (show (texts6.map mkSent : List (String × DataW Unit)) = Rows.scriptBackRow.laid from rfl) (by kernel_rfl) hL
  by_cases h : 450 < len ∨ 2000 < n
  · exact back_more a ad len cap ba n bc y0 y1 y2 y3 y4 r w hS hp.max hp.le hr.max hr.le h
  · obtain ⟨bs, rfl, hb8⟩ := bytes_of hr
    by_cases h400 : len ≤ 400
    · obtain ⟨m, h1, h2, h3⟩ := first_bad gv len
      by_cases e : m < len
      · exact back_bad a ad len cap gv ba n bc bs y0 y1 y2 y3 y4 r w hS hp hr hb8 (by omega) (by omega) (fun w0 hb => print_unfair4 a ad len cap m gv w0 (hS.below hb).four (hp.below hb) h400 e h2 (h3 e))
      · obtain rfl : m = len := by omega
        exact back_ok a ad m cap gv ba n bc bs y0 y1 y2 y3 y4 r w hS hp hr hb8 (by omega) (by omega) h400 h2
    · exact back_bad a ad len cap gv ba n bc bs y0 y1 y2 y3 y4 r w hS hp hr hb8 (by omega) (by omega) (fun w0 hb => print_long4 a ad len cap w0 (hS.below hb).four hp.max hp.le (by omega))

end Go.Proofs.YtjcklfbpdjfibaaDoor

/-
  A program that comes in, opened.
-/
import Derived.Test.YtjffbojgdemooaaDoorLgt
import Derived.Deep.Slices
import Derived.ChangeArms
namespace Go.Proofs.YtjffbojgdemooaaDoor
open Go.RowKit Go.ChangeShapes Go.WideShapes Go.Deep

theorem cells_instr : Tryd.prog.cellsOf 67 = 4 := by kernel_rfl
theorem cells_class : Tryd.prog.cellsOf 90 = 1 := by kernel_rfl
theorem cells_meth : Tryd.prog.cellsOf 62 = 4 := by kernel_rfl
theorem cells_prog : Tryd.prog.cellsOf 46 = 2 := by kernel_rfl
theorem cells_int1 : Tryd.prog.cellsOf 3 = 1 := by kernel_rfl
theorem cells_long1 : Tryd.prog.cellsOf 2 = 1 := by kernel_rfl
theorem cells_str1 : Tryd.prog.cellsOf 9 = 1 := by kernel_rfl
theorem cells_instrs : Tryd.prog.cellsOf 60 = 1 := by kernel_rfl
theorem cells_classes : Tryd.prog.cellsOf 43 = 1 := by kernel_rfl
theorem cells_meths : Tryd.prog.cellsOf 44 = 1 := by kernel_rfl

theorem one_of {l : List Value} {o : Nat} {v : Value} (ho : o < l.length) (h : (l.drop o).take 1 = [v]) : l[o]? = some v := by
  rw [List.drop_eq_getElem_cons ho, List.take_succ_cons, List.take_zero] at h
  rw [List.getElem?_eq_getElem ho]
  exact congrArg some (List.cons.inj h).1

section
variable {H : Type} {enc : TypeId × Value → H} {W : World} {base : Nat} {spare : Nat → Bool} {held : Bool} {fuel : Nat}

theorem instrs_ofT {len cap : Nat} {a : Option Addr} {x : DataW H × List MemPlace}
    (h : DataW.trod enc Tryd.prog W base spare held fuel 60 [.slice a len cap] = some x) : ∃ gv, Picks W a len cap gv := by
  rcases open_slice Tryd.underlying60 h with ⟨hcs, _⟩ | ⟨ad, l, c, m, fl, D, Pl, hcs, _, hl, hm, hmm, _, hel⟩
  · simp at hcs
    obtain ⟨rfl, rfl, rfl⟩ := hcs
    exact ⟨fun _ _ => 0, ⟨Nat.le_refl _, Nat.zero_le _, fun _ => rfl, fun ad h => (by cases h)⟩⟩
  · simp at hcs
    obtain ⟨rfl, rfl, rfl⟩ := hcs
    have hlm : len ≤ m := by rw [hmm]; split <;> omega
    have key : ∀ i j, i < len → j < 4 → ∃ z : Int, W.cell? (ad.add (i * 4 + j)) = some (.int .i64 z) := by
      intro i j hi hj
      obtain ⟨cs', hc, ht⟩ := hel i (by omega)
      rw [cells_instr] at hc
      obtain ⟨xs, n, _, _, hlen, hxl, hf⟩ := DataW.trod_struct Tryd.underlying67 ht
      rw [cells_instr] at hlen
      obtain ⟨_, hcl, hat⟩ := World.cells?_some hc
      have hcell := hat j hj
      rw [add_add] at hcell
      have fin : ∀ (t : TypeId) (o : Nat), Tryd.prog.underlying t = some (.int .i64) → Tryd.prog.cellsOf t = 1 → o = j → (∃ y, DataW.trod enc Tryd.prog W base spare held n t ((cs'.drop o).take (Tryd.prog.cellsOf t)) = some y) → ∃ z : Int, W.cell? (ad.add (i * 4 + j)) = some (.int .i64 z) := by
        rintro t o hu h1 rfl ⟨y, hy⟩
        rw [h1] at hy
        obtain ⟨z, hz, _, _⟩ := DataW.trod_int hu hy
        exact ⟨z, by rw [hcell]; exact one_of (by omega) hz⟩
      have hxs : ∀ k, k < 4 → ∃ y, xs[k]? = some y := fun k hk => ⟨_, List.getElem?_eq_getElem (by rw [hxl]; exact hk)⟩
      match j, hj with
      | 0, _ => obtain ⟨y, hy⟩ := hxs 0 (by omega); exact fin _ 0 Tryd.underlying3 cells_int1 rfl ⟨y, (hf 0 _ rfl).trans hy⟩
      | 1, _ => obtain ⟨y, hy⟩ := hxs 1 (by omega); exact fin _ 1 Tryd.underlying3 cells_int1 rfl ⟨y, (hf 1 _ rfl).trans hy⟩
      | 2, _ => obtain ⟨y, hy⟩ := hxs 2 (by omega); exact fin _ 2 Tryd.underlying3 cells_int1 rfl ⟨y, (hf 2 _ rfl).trans hy⟩
      | 3, _ => obtain ⟨y, hy⟩ := hxs 3 (by omega); exact fin _ 3 Tryd.underlying2 cells_long1 rfl ⟨y, (hf 3 _ rfl).trans hy⟩
    refine ⟨fun i j => if h : i < len ∧ j < 4 then (key i j h.1 h.2).choose else 0, ⟨hl, hm, fun e => (by cases e), fun ad' had i j hi hj => ?_⟩⟩
    cases had
    simp only [hi, hj, and_self, dite_true]
    exact (key i j hi hj).choose_spec

theorem classes_ofT {len cap : Nat} {a : Option Addr} {x : DataW H × List MemPlace}
    (h : DataW.trod enc Tryd.prog W base spare held fuel 43 [.slice a len cap] = some x) : ∃ f, Cls W a len cap f ∧ ∀ i, i < len → (f i).size ≤ maxLen := by
  rcases open_slice Tryd.underlying43 h with ⟨hcs, _⟩ | ⟨ad, l, c, m, fl, D, Pl, hcs, _, hl, hm, hmm, _, hel⟩
  · simp at hcs
    obtain ⟨rfl, rfl, rfl⟩ := hcs
    exact ⟨fun _ => ⟨#[]⟩, ⟨Nat.le_refl _, Nat.zero_le _, fun _ => rfl, fun ad h => (by cases h)⟩, fun i hi => absurd hi (Nat.not_lt_zero _)⟩
  · simp at hcs
    obtain ⟨rfl, rfl, rfl⟩ := hcs
    have hlm : len ≤ m := by rw [hmm]; split <;> omega
    have key : ∀ i, i < len → ∃ s : ByteArray, W.cell? (ad.add i) = some (.string s) ∧ s.size ≤ maxLen := by
      intro i hi
      obtain ⟨cs', hc, ht⟩ := hel i (by omega)
      rw [cells_class, Nat.mul_one] at hc
      obtain ⟨xs, n, _, _, hlen, hxl, hf⟩ := DataW.trod_struct Tryd.underlying90 ht
      rw [cells_class] at hlen
      obtain ⟨_, hcl, hat⟩ := World.cells?_some hc
      have hcell := hat 0 (by omega)
      rw [add_add, Nat.add_zero] at hcell
      obtain ⟨y, hy⟩ : ∃ y, xs[0]? = some y := ⟨_, List.getElem?_eq_getElem (by rw [hxl]; decide)⟩
      have hz : DataW.trod enc Tryd.prog W base spare held n 9 ((cs'.drop 0).take (Tryd.prog.cellsOf 9)) = some y := (hf 0 _ rfl).trans hy
      rw [cells_str1] at hz
      obtain ⟨s, hs, _, hsz⟩ := DataW.trod_string Tryd.underlying9 hz
      exact ⟨s, by rw [hcell]; exact one_of (by omega) hs, hsz⟩
    refine ⟨fun i => if h : i < len then (key i h).choose else ⟨#[]⟩, ⟨hl, hm, fun e => (by cases e), fun ad' had i hi => ?_⟩, fun i hi => ?_⟩
    · cases had
      simp only [hi, dite_true]
      exact (key i hi).choose_spec.1
    · simp only [hi, dite_true]
      exact (key i hi).choose_spec.2

structure MethIn (W : World) (ad : Addr) (i : Nat) (x : Meth) : Prop where
  c0 : W.cell? (ad.add (i * 4)) = some (.string x.ps)
  c1 : W.cell? (ad.add (i * 4 + 1)) = some (.string x.ls)
  c2 : W.cell? (ad.add (i * 4 + 2)) = some (.string x.rt)
  c3 : W.cell? (ad.add (i * 4 + 3)) = some (.slice x.co x.len x.cp)
  code : Picks W x.co x.len x.cp x.gv
  s0 : x.ps.size ≤ maxLen
  s1 : x.ls.size ≤ maxLen
  s2 : x.rt.size ≤ maxLen

theorem slice_one {t e : TypeId} {cs : List Value} {x : DataW H × List MemPlace} {n : Nat} (hu : Tryd.prog.underlying t = some (.slice e)) (h : DataW.trod enc Tryd.prog W base spare held n t cs = some x) : ∃ a l c, cs = [.slice a l c] := by
  rcases open_slice hu h with ⟨hcs, _⟩ | ⟨ad, l, c, m, fl, D, Pl, hcs, _⟩
  · exact ⟨none, 0, 0, hcs⟩
  · exact ⟨some ad, l, c, hcs⟩

theorem methods_ofT {len cap : Nat} {a : Option Addr} {x : DataW H × List MemPlace}
    (h : DataW.trod enc Tryd.prog W base spare held fuel 44 [.slice a len cap] = some x) : ∃ ms : Nat → Meth, (len ≤ cap ∧ cap ≤ maxLen ∧ (a = none → cap = 0)) ∧ ∀ ad, a = some ad → ∀ i, i < len → MethIn W ad i (ms i) := by
  rcases open_slice Tryd.underlying44 h with ⟨hcs, _⟩ | ⟨ad, l, c, m, fl, D, Pl, hcs, _, hl, hm, hmm, _, hel⟩
  · simp at hcs
    obtain ⟨rfl, rfl, rfl⟩ := hcs
    exact ⟨fun _ => ⟨⟨#[]⟩, ⟨#[]⟩, ⟨#[]⟩, none, 0, 0, fun _ _ => 0⟩, ⟨Nat.le_refl _, Nat.zero_le _, fun _ => rfl⟩, fun ad h => (by cases h)⟩
  · simp at hcs
    obtain ⟨rfl, rfl, rfl⟩ := hcs
    have hlm : len ≤ m := by rw [hmm]; split <;> omega
    have key : ∀ i, i < len → ∃ x : Meth, MethIn W ad i x := by
      intro i hi
      obtain ⟨cs', hc, ht⟩ := hel i (by omega)
      rw [cells_meth] at hc
      obtain ⟨xs, n, _, _, hlen, hxl, hf⟩ := DataW.trod_struct Tryd.underlying62 ht
      rw [cells_meth] at hlen
      obtain ⟨_, hcl, hat⟩ := World.cells?_some hc
      have hcell : ∀ j, j < 4 → W.cell? (ad.add (i * 4 + j)) = cs'[j]? := fun j hj => by have := hat j hj; rwa [add_add] at this
      have hxs : ∀ k, k < 4 → ∃ y, xs[k]? = some y := fun k hk => ⟨_, List.getElem?_eq_getElem (by rw [hxl]; exact hk)⟩
      obtain ⟨y0, e0⟩ := hxs 0 (by omega)
      obtain ⟨y1, e1⟩ := hxs 1 (by omega)
      obtain ⟨y2, e2⟩ := hxs 2 (by omega)
      obtain ⟨y3, e3⟩ := hxs 3 (by omega)
      have z0 : DataW.trod enc Tryd.prog W base spare held n 9 ((cs'.drop 0).take (Tryd.prog.cellsOf 9)) = some y0 := (hf 0 _ rfl).trans e0
      have z1 : DataW.trod enc Tryd.prog W base spare held n 9 ((cs'.drop 1).take (Tryd.prog.cellsOf 9)) = some y1 := (hf 1 _ rfl).trans e1
      have z2 : DataW.trod enc Tryd.prog W base spare held n 9 ((cs'.drop 2).take (Tryd.prog.cellsOf 9)) = some y2 := (hf 2 _ rfl).trans e2
      have z3 : DataW.trod enc Tryd.prog W base spare held n 60 ((cs'.drop 3).take (Tryd.prog.cellsOf 60)) = some y3 := (hf 3 _ rfl).trans e3
      rw [cells_str1] at z0 z1 z2
      rw [cells_instrs] at z3
      obtain ⟨p, hp, _, hps⟩ := DataW.trod_string Tryd.underlying9 z0
      obtain ⟨l, hl2, _, hls⟩ := DataW.trod_string Tryd.underlying9 z1
      obtain ⟨r, hr, _, hrs⟩ := DataW.trod_string Tryd.underlying9 z2
      obtain ⟨co, ln, cp, hco⟩ := slice_one Tryd.underlying60 z3
      rw [hco] at z3
      obtain ⟨gv, hgv⟩ := instrs_ofT z3
      exact ⟨⟨p, l, r, co, ln, cp, gv⟩, ⟨(hcell 0 (by omega)).trans (one_of (by omega) hp), (hcell 1 (by omega)).trans (one_of (by omega) hl2), (hcell 2 (by omega)).trans (one_of (by omega) hr), (hcell 3 (by omega)).trans (one_of (by omega) hco), hgv, hps, hls, hrs⟩⟩
    refine ⟨fun i => if h : i < len then (key i h).choose else ⟨⟨#[]⟩, ⟨#[]⟩, ⟨#[]⟩, none, 0, 0, fun _ _ => 0⟩, ⟨hl, hm, fun e => (by cases e)⟩, fun ad' had i hi => ?_⟩
    cases had
    simp only [hi, dite_true]
    exact (key i hi).choose_spec

set_option maxRecDepth 100000 in
theorem prog_ofT {cs : Array Value} {x : DataW H × List MemPlace}
    (h : DataW.trod enc Tryd.prog W base spare held fuel 46 cs.toList = some x) : ∃ (ca : Option Addr) (nc cc : Nat) (f : Nat → ByteArray) (ma : Option Addr) (nm mc : Nat) (ms : Nat → Meth), Value.agg cs = .agg #[.slice ca nc cc, .slice ma nm mc] ∧ Prg W ca nc cc f ma nm mc ms ∧ Wid nc f nm ms := by
  obtain ⟨l⟩ := cs
  obtain ⟨xs, n, _, _, hlen, hxl, hf⟩ := DataW.trod_struct Tryd.underlying46 h
  rw [cells_prog] at hlen
  obtain ⟨c0, c1, rfl⟩ : ∃ c0 c1, l = [c0, c1] := by
    match l, hlen with
    | [c0, c1], _ => exact ⟨c0, c1, rfl⟩
  have hxs : ∀ k, k < 2 → ∃ y, xs[k]? = some y := fun k hk => ⟨_, List.getElem?_eq_getElem (by rw [hxl]; exact hk)⟩
  obtain ⟨y0, e0⟩ := hxs 0 (by omega)
  obtain ⟨y1, e1⟩ := hxs 1 (by omega)
  have z0 : DataW.trod enc Tryd.prog W base spare held n 43 (([c0, c1].drop 0).take (Tryd.prog.cellsOf 43)) = some y0 := (hf 0 _ rfl).trans e0
  have z1 : DataW.trod enc Tryd.prog W base spare held n 44 (([c0, c1].drop 1).take (Tryd.prog.cellsOf 44)) = some y1 := (hf 1 _ rfl).trans e1
  rw [cells_classes] at z0
  rw [cells_meths] at z1
  have z0' : DataW.trod enc Tryd.prog W base spare held n 43 [c0] = some y0 := z0
  have z1' : DataW.trod enc Tryd.prog W base spare held n 44 [c1] = some y1 := z1
  obtain ⟨ca, nc, cc, h0⟩ := slice_one Tryd.underlying43 z0'
  obtain ⟨ma, nm, mc, h1⟩ := slice_one Tryd.underlying44 z1'
  obtain rfl : c0 = .slice ca nc cc := by simpa using h0
  obtain rfl : c1 = .slice ma nm mc := by simpa using h1
  obtain ⟨f, hC, hCs⟩ := classes_ofT z0'
  obtain ⟨ms, ⟨q1, q2, q3⟩, hM⟩ := methods_ofT z1'
  refine ⟨ca, nc, cc, f, ma, nm, mc, ms, rfl, ⟨hC, q1, q2, q3, fun ad had i hi => ⟨(hM ad had i hi).c0, (hM ad had i hi).c1, (hM ad had i hi).c2, (hM ad had i hi).c3⟩, fun i hi => ?_⟩, ⟨hCs, fun i hi => ?_, fun i hi => ?_, fun i hi => ?_⟩⟩
  all_goals
    cases ma with
    | none => have := q3 rfl; omega
    | some ad => first | exact (hM ad rfl i hi).code | exact (hM ad rfl i hi).s0 | exact (hM ad rfl i hi).s1 | exact (hM ad rfl i hi).s2
end

end Go.Proofs.YtjffbojgdemooaaDoor

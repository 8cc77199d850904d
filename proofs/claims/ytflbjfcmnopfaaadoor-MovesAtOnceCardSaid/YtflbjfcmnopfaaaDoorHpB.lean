/-
  A heap is made: classes cloned, the box.
-/
import Derived.Test.YtflbjfcmnopfaaaDoorHpA
import Derived.WalkSpells
import Derived.Deep.RegionWith
import Derived.Deep.DeepCutAuto
namespace Go.Proofs.YtflbjfcmnopfaaaDoor
open Go.RowKit

theorem clsinfo : (Tryd.prog.info? 123).map (fun i => (i.zero, i.size, i.bytes)) = some (some (.agg #[.string ⟨#[]⟩]), 1, 16) := by kernel_rfl
theorem boolinfo : (Tryd.prog.info? 4).map (fun i => (i.zero, i.size, i.bytes)) = some (some (.bool false), 1, 1) := by kernel_rfl

def flatC (f : Nat → ByteArray) (len : Nat) : List Value := (List.range len).map fun i => .string (f i)
theorem flatC_len (f : Nat → ByteArray) (len : Nat) : (flatC f len).length = len := by simp [flatC]
theorem flatC_get (f : Nat → ByteArray) (len i : Nat) (h : i < len) : (flatC f len)[i]? = some (.string (f i)) := by simp [flatC, h]
theorem flatC_one (f : Nat → ByteArray) (len : Nat) : ∀ u ∈ flatC f len, u.oneCell' = true := by
  intro u hu
  obtain ⟨i, _, rfl⟩ := List.mem_map.1 hu
  rfl

theorem own_noneC (w : World) (B : Nat) (e : TypeId) (hB : B ≤ w.heap.size) : (w.alloc (.cells #[] e)).ownsRow B e 1 (.slice (some ⟨w.heap.size, 0, none⟩) 0 0) 0 [] :=
  ⟨rfl, .inr ⟨w.heap.size, 0, #[], rfl, hB, heap_alloc_new w _, Nat.le_refl _, by unfold maxLen; omega, rfl, rfl⟩⟩

theorem add_zeroC (b k : Nat) : (⟨b, 0, none⟩ : Addr).add k = ⟨b, k, none⟩ := by
  unfold Addr.add
  split
  · rename_i h0; rw [h0]
  · simp

/-- Classes that are owned. -/
def OwnC (B : Nat) (v : Value) (len : Nat) (f : Nat → ByteArray) (w : World) : Prop :=
  ∃ cp cc, v = .slice cp len cc ∧ Cls w cp len cc f ∧ ∀ ad, cp = some ad → B ≤ ad.block ∧ ad.block < w.heap.size

theorem ownC_of {B : Nat} {w : World} {v : Value} {len : Nat} {f : Nat → ByteArray} (h : w.ownsRow B 123 1 v len (flatC f len)) : OwnC B v len f w := by
  rcases h.2 with ⟨rfl, h0⟩ | ⟨g, cap, cur, rfl, hb, hg, hnc, hcm, hcs, ht⟩
  · subst h0
    exact ⟨none, 0, rfl, ⟨Nat.le_refl _, Nat.zero_le _, fun _ => rfl, fun ad h => (by cases h)⟩, fun ad h => (by cases h)⟩
  · refine ⟨_, cap, rfl, ⟨hnc, hcm, fun h => (by cases h), fun ad had i hi => ?_⟩, fun ad had => ?_⟩
    · cases had
      rw [add_zeroC, cell_of_row w g _ cur _ (0, 0) hg]
      have h1 := flatC_get f len i hi
      rw [← ht, List.getElem?_take_of_lt (by omega)] at h1
      simpa using h1
    · cases had
      exact ⟨hb, (Array.getElem?_eq_some_iff.1 hg).1⟩

def CloneC (f : Nat → ByteArray) (len : Nat) (w : World) (e : Ending) (w' : World) : Prop := ∃ cp cc, e = .returned (.slice cp len cc) ∧ OwnC w.heap.size (.slice cp len cc) len f w' ∧ Below w.heap.size w w'

set_option maxRecDepth 100000 in
theorem clone_cls (ad : Option Addr) (len cap : Nat) (f : Nat → ByteArray) (w : World) (hp : Cls w ad len cap f) (hl : len ≤ 1000) :
    Calls Tryd.prog 158 #[.slice ad len cap] w (CloneC f len w) := by
  obtain ⟨i0, hi, hz0, hz1, hz2⟩ := info_parts clsinfo
  have HI := Lib.hid hi
  have HZ0 := Lib.hid hz0
  have HZ1 := Lib.hid hz1
  have HZ2 := Lib.hid hz2
  clear hi hz0 hz1 hz2
  cases ad with
  | none =>
    have h0 := hp.nil rfl
    subst h0
    have h1 : len = 0 := Nat.le_zero.1 hp.le
    subst h1
    have FIN : Hid (CloneC f 0 w (.returned (.slice none 0 0)) w) := Lib.hid ⟨none, 0, rfl, ⟨none, 0, rfl, hp, fun ad h => (by cases h)⟩, Below.refl _ _⟩
    clear hp
    go_enter Tryd.func158, Tryd.ntmps158
    have E1 := Lib.hid (Lib.run_eql_slice_nil (P := Tryd.prog) w 48 123 none 0 0 0 0 Tryd.underlying48)
    go_wp2_with (first | rw [E1.out])
    go_ret
    exact FIN.out
  | some x =>
    have hbl : Below w.heap.size w (w.alloc (.cells #[] 123)) := (Below.refl _ _).alloc (Nat.le_refl _) _
    have hnews : ∀ j u, (flatC f len)[j]? = some u → (w.alloc (.cells #[] 123)).cell? (x.add j) = some u := by
      intro j u hu
      have hj : j < len := by
        have := (List.getElem?_eq_some_iff.1 hu).1
        rw [flatC_len] at this
        exact this
      rw [flatC_get f len j hj] at hu
      have hc := hp.cells x rfl j hj
      rw [hbl.cell (World.block_lt_of_cell? w _ hc), hc, hu]
    have HN := Lib.hid hnews
    have HB := Lib.hid hbl
    have HM := Lib.hid (show 0 + len ≤ maxLen by unfold maxLen; omega)
    have HL := Lib.hid (show (flatC f len).length = len * 1 by rw [flatC_len, Nat.mul_one])
    have H1 := Lib.hid (flatC_one f len)
    obtain ⟨xs, hxs⟩ : ∃ xs, flatC f len = xs := ⟨_, rfl⟩
    have HX := Lib.hid hxs
    rw [hxs] at HN HL H1
    clear hnews hbl hp hxs
    go_enter Tryd.func158, Tryd.ntmps158
    have E1 := Lib.hid (Lib.run_eql_slice_nil (P := Tryd.prog) w 48 123 (some x) len cap 0 0 Tryd.underlying48)
    go_wp2_with (first | rw [E1.out] | (at_builtin; refine wpList_append_own _ rfl (.tmp 5) (.tmp 6) 48 rfl w.heap.size 123 i0 (.agg #[.string ⟨#[]⟩]) 1 16 Tryd.underlying48 HI.out HZ0.out HZ1.out HZ2.out rfl (by decide) _ 0 [] rfl (own_noneC w _ _ (Nat.le_refl _)) x len cap xs rfl HL.out HN.out H1.out HM.out (by omega) (by simp) ?_; intro v5 w5 hown5 hgrow5 hnil5))
    have hfin : OwnC w.heap.size v5 len f w5 := ownC_of (by
      rw [HX.out]
      have := hown5
      rw [Nat.zero_add, List.nil_append] at this
      exact this)
    obtain ⟨cp, cc, rfl, h1, h2⟩ := hfin
    go_ret
    refine ⟨cp, cc, rfl, ⟨cp, cc, rfl, h1, h2⟩, HB.out.grown hgrow5 (by simp) (fun k hk => ?_)⟩
    have h1 : w.heap.size = k := Option.some.inj (show some w.heap.size = some k from hk)
    omega

/-- A new heap's box ahead of its spaces. -/
def RawH (B ab n len : Nat) (cf : Nat → ByteArray) (s : Value) (w wx : World) : Prop :=
  ∃ hb bg cp cc, s = .pointer (some ⟨hb, 0, none⟩) ∧
    wx.heap[hb]? = some (.cells #[.slice cp len cc, .slice none 0 0, .pointer (some ⟨ab, 0, none⟩), .int .i64 0, .int .i64 0, .int .i64 0, .int .i64 0, .int .i64 0, .int .i64 0, .int .i64 0, .int .i64 0, .int .i64 0, .int .i64 0, .slice (some ⟨bg, 0, none⟩) n n, .slice none 0 0] 174 (0, 0)) ∧
    wx.heap[bg]? = some (.cells (boolRow n fun _ => false) 4 (0, 0)) ∧ Cls wx cp len cc cf ∧ (∀ ad, cp = some ad → B ≤ ad.block ∧ ad.block ≠ hb ∧ ad.block ≠ bg) ∧ B ≤ bg ∧ B ≤ hb ∧ hb ≠ bg ∧ Below B w wx

theorem mk_bools (n : Nat) (h : n ≤ 65536) (w : World) : (Instr.makeSlice 84 (.int .i64 n) (.int .i64 n)).run Tryd.prog w = .ok (.slice (some ⟨w.heap.size, 0, none⟩) n n) (w.alloc (.cells (boolRow n fun _ => false) 4)) := by
  obtain ⟨i0, hi, hz0, hz1, hz2⟩ := info_parts boolinfo
  have h1 := run_make (P := Tryd.prog) w 84 4 i0 _ Tryd.underlying84 hi hz0 .i64 .i64 (n : Int) (n : Int) (by omega) (Int.le_refl _) (by rw [hz2]; omega) (by omega)
  have e : madeCells (Value.bool false).cells n = boolRow n (fun _ => false) := by
    apply Array.ext'
    rw [show (Value.bool false).cells = #[.bool false] from rfl, toList_madeCells_one]
    unfold boolRow
    rw [List.toList_toArray, List.map_const', List.length_range]
  rw [h1, hz1, Int.toNat_natCast, Nat.mul_one, e]

def rawCells (ab bg n len : Nat) (cp : Option Addr) (cx : Nat) : Array Value :=
  #[.slice cp len cx, .slice none 0 0, .pointer (some ⟨ab, 0, none⟩), .int .i64 0, .int .i64 0, .int .i64 0, .int .i64 0, .int .i64 0, .int .i64 0, .int .i64 0, .int .i64 0, .int .i64 0, .int .i64 0, .slice (some ⟨bg, 0, none⟩) n n, .slice none 0 0]

theorem raw_1 {ab n len : Nat} {cf : Nat → ByteArray} {w1 wc w5 : World} {cp : Option Addr} {cx X : Nat} (h1 : Below w1.heap.size w1 wc) (ho : OwnC wc.heap.size (.slice cp len cx) len cf w5) (h5 : Below wc.heap.size wc w5)
    (hX : X = (w5.alloc (.cells (boolRow n fun _ => false) 4)).heap.size) :
    RawH w1.heap.size ab n len cf (.pointer (some ⟨X, 0, none⟩)) w1 ((w5.alloc (.cells (boolRow n fun _ => false) 4)).alloc (.cells (rawCells ab w5.heap.size n len cp cx) 174)) := by
  subst hX
  obtain ⟨cp', cc', e, hc, hp⟩ := ho
  cases e
  have hbB : Below w1.heap.size w1 w5 := h1.trans (h5.mono h1.size)
  have hb1 : Below w5.heap.size w5 (w5.alloc (.cells (boolRow n fun _ => false) 4)) := (Below.refl _ _).alloc (Nat.le_refl _) _
  have hb2 : Below w5.heap.size w5 ((w5.alloc (.cells (boolRow n fun _ => false) 4)).alloc (.cells (rawCells ab w5.heap.size n len cp cx) 174)) := hb1.alloc (by simp) _
  refine ⟨_, w5.heap.size, cp, cx, rfl, heap_alloc_new _ _, ?_, hc.below hb2, fun ad had => ⟨Nat.le_trans h1.size (hp ad had).1, ?_, ?_⟩, hbB.size, ?_, ?_, hbB.trans (hb2.mono hbB.size)⟩
  · rw [Below.heap_alloc _ _ _ (by simp)]
    exact heap_alloc_new _ _
  · have := (hp ad had).2; simp; omega
  · have := (hp ad had).2; omega
  · have := hbB.size; simp; omega
  · simp

theorem raw_2 {ab n len : Nat} {cf : Nat → ByteArray} {wc w5 : World} {cp : Option Addr} {cx : Nat} (ho : OwnC (wc.alloc (.cells (boolRow n fun _ => false) 4)).drew.heap.size (.slice cp len cx) len cf w5) (h5 : Below (wc.alloc (.cells (boolRow n fun _ => false) 4)).drew.heap.size (wc.alloc (.cells (boolRow n fun _ => false) 4)).drew w5) :
    RawH wc.heap.size ab n len cf (.pointer (some ⟨w5.heap.size, 0, none⟩)) wc (w5.alloc (.cells (rawCells ab wc.heap.size n len cp cx) 174)) := by
  obtain ⟨cp', cc', e, hc, hp⟩ := ho
  cases e
  have hq : Below (wc.alloc (.cells (boolRow n fun _ => false) 4)).heap.size (wc.alloc (.cells (boolRow n fun _ => false) 4)) w5 := ⟨h5.os, h5.tape, h5.output, h5.size, h5.block⟩
  have hbA : Below wc.heap.size wc w5 := ((Below.refl _ _).alloc (Nat.le_refl _) _).trans (hq.mono (by simp))
  have hz := hq.size
  rw [World.size_alloc] at hz
  have hp' : ∀ ad, cp = some ad → wc.heap.size + 1 ≤ ad.block ∧ ad.block < w5.heap.size := fun ad had => by
    have := hp ad had
    rw [World.size_drew, World.size_alloc] at this
    exact this
  have hb2 : Below w5.heap.size w5 (w5.alloc (.cells (rawCells ab wc.heap.size n len cp cx) 174)) := (Below.refl _ _).alloc (Nat.le_refl _) _
  refine ⟨_, wc.heap.size, cp, cx, rfl, heap_alloc_new _ _, ?_, hc.below hb2, fun ad had => ⟨?_, ?_, ?_⟩, Nat.le_refl _, ?_, ?_, hbA.trans (hb2.mono hbA.size)⟩
  · rw [Below.heap_alloc _ _ _ (by omega), hq.block _ (by simp)]
    exact heap_alloc_new _ _
  · have := (hp' ad had).1; omega
  · have := (hp' ad had).2; omega
  · have := (hp' ad had).1; omega
  · exact hbA.size
  · omega

end Go.Proofs.YtflbjfcmnopfaaaDoor

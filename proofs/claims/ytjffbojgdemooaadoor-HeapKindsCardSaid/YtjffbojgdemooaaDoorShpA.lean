/-
  A heap's Shape: numbers told, rows of integers made, an object's values.
-/
import Derived.Test.YtjffbojgdemooaaDoorRchC
namespace Go.Proofs.YtjffbojgdemooaaDoor
open Go.RowKit

theorem i64infoS : (Tryd.prog.info? 2).map (fun i => (i.zero, i.size, i.bytes)) = some (some (.int .i64 0), 1, 8) := by kernel_rfl
theorem objinfo : (Tryd.prog.info? 107).map (fun i => (i.zero, i.size, i.bytes)) = some (some (.agg #[.int .i64 0, .slice none 0 0]), 2, 32) := by kernel_rfl
theorem zero_int : ∀ w, (zeroValue 3).run Tryd.prog w = .ok (.int .i64 0) w := fun w => by kernel_rfl

/-- A row of integers by a function. -/
def intRow (m : Nat) (f : Nat → Int) : Array Value := ((List.range m).map fun j => Value.int .i64 (f j)).toArray
theorem intRow_get (m : Nat) (f : Nat → Int) (j : Nat) (h : j < m) : (intRow m f)[j]? = some (.int .i64 (f j)) := by simp [intRow, h]
theorem intRow_congr {m : Nat} {f g : Nat → Int} (h : ∀ j, j < m → f j = g j) : intRow m f = intRow m g := by
  unfold intRow
  congr 1
  apply List.map_congr_left
  intro j hj
  rw [h j (List.mem_range.1 hj)]
theorem intRow_set (m : Nat) (f : Nat → Int) (j : Nat) (v : Int) : (intRow m f).setIfInBounds j (.int .i64 v) = intRow m (fun i => if i = j then v else f i) := by
  apply Array.ext_getElem?
  intro i
  rw [Array.getElem?_setIfInBounds]
  by_cases hi : i < m
  · rw [intRow_get m _ i hi]
    by_cases hj : j = i
    · subst hj
      simp [intRow, hi]
    · rw [if_neg hj, intRow_get m _ i hi, if_neg (fun e => hj e.symm)]
  · have h1 : ∀ g : Nat → Int, (intRow m g)[i]? = none := fun g => by simp [intRow]; omega
    rw [h1, h1]
    simp [intRow]
    omega

theorem mk_ints (m : Nat) (h : m ≤ 65536) (w : World) : (Instr.makeSlice 71 (.int .i64 m) (.int .i64 m)).run Tryd.prog w = .ok (.slice (some ⟨w.heap.size, 0, none⟩) m m) (w.alloc (.cells (intRow m fun _ => 0) 2)) := by
  obtain ⟨i0, hi, hz0, hz1, hz2⟩ := info_parts i64infoS
  have h1 := run_make (P := Tryd.prog) w 71 2 i0 _ Tryd.underlying71 hi hz0 .i64 .i64 (m : Int) (m : Int) (by omega) (Int.le_refl _) (by rw [hz2]; omega) (by omega)
  have e : madeCells (Value.int .i64 0).cells m = intRow m (fun _ => 0) := by
    apply Array.ext'
    rw [show (Value.int .i64 0).cells = #[.int .i64 0] from rfl, toList_madeCells_one]
    unfold intRow
    rw [List.toList_toArray, List.map_const', List.length_range]
  rw [h1, hz1, Int.toNat_natCast, Nat.mul_one, e]

/-- told: what Shape's second closure answers. -/
theorem told_any {bn mn c : Nat} (out : List Int) (r : Int) (w : World) (hb : w.heap[bn]? = some (.cells #[.map (some mn)] 194 (0, 0))) (hM : IntMap Tryd.prog 3 3 mn c (numS out out.length) w) (hr : (Lit.int .i64 r).wf = true) :
    Calls Tryd.prog 140 #[.int .i64 r, .pointer (some ⟨bn, 0, none⟩)] w fun e w' => e = .returned (.int .i64 (toldF out r)) ∧ w = w' := by
  have cb : w.cell? ⟨bn, 0, none⟩ = some (.map (some mn)) := by rw [cell_of_row w bn 0 _ _ (0, 0) hb]; rfl
  have HM := Lib.hid hM
  have HR := Lib.hid hr
  clear hb hM hr
  cases hc : out.contains r with
  | true =>
    have e1 : numS out out.length r = some (out.idxOf r : Int) := by rw [numS_all, hc]; rfl
    have e2 : toldF out r = (out.idxOf r : Int) := by unfold toldF; rw [hc]; rfl
    rw [e2]
    have H1 : Hid ((numS out out.length r).getD 0 = (out.idxOf r : Int)) := Lib.hid (by rw [e1]; rfl)
    have H2 : Hid ((numS out out.length r).isSome = true) := Lib.hid (by rw [e1]; rfl)
    clear hc e1 e2
    generalize (out.idxOf r : Int) = z at *
    go_enter Tryd.func140, Tryd.ntmps140
    go_wp2_with (at_lookup; refine wpList_imap_look _ rfl _ _ 194 rfl 3 3 Tryd.underlying3 Tryd.underlying194 Tryd.underlying3 (zero_int _) mn c _ rfl HM.out r rfl HR.out z H1.out true H2.out ?_)
    go_ret
    exact ⟨rfl, rfl⟩
  | false =>
    have e1 : numS out out.length r = none := by rw [numS_all, hc]; rfl
    have e2 : toldF out r = -1 := by unfold toldF; rw [hc]; rfl
    rw [e2]
    have H1 : Hid ((numS out out.length r).getD 0 = 0) := Lib.hid (by rw [e1]; rfl)
    have H2 : Hid ((numS out out.length r).isSome = false) := Lib.hid (by rw [e1]; rfl)
    clear hc e1 e2
    go_enter Tryd.func140, Tryd.ntmps140
    go_wp2_with (at_lookup; refine wpList_imap_look _ rfl _ _ 194 rfl 3 3 Tryd.underlying3 Tryd.underlying194 Tryd.underlying3 (zero_int _) mn c _ rfl HM.out r rfl HR.out 0 H1.out false H2.out ?_)
    go_ret
    exact ⟨rfl, rfl⟩

/-- The i-th value of an object at p, as it is told. -/
def valF (wd : Nat → Int) (cf : Nat → ByteArray) (out : List Int) (kl : Int) (p i : Nat) : Int := if refK cf kl i then toldF out (wd (p + 2 + i)) else wd (p + 2 + i)

/-- An object as it is told. -/
structure ObjAt (w : World) (B : Nat) (xs : List Value) (j : Nat) (kl : Int) (m : Nat) (f : Nat → Int) : Prop where
  at_ : ∃ b, B ≤ b ∧ xs[2 * j]? = some (.int .i64 kl) ∧ xs[2 * j + 1]? = some (.slice (some ⟨b, 0, none⟩) m m) ∧ w.heap[b]? = some (.cells (intRow m f) 2 (0, 0))

/-- Objects told so far. -/
def Told (wd : Nat → Int) (cf : Nat → ByteArray) (ob : Nat → Option (Int × Nat)) (out : List Int) (B k : Nat) (v : Value) (w : World) : Prop :=
  ∃ xs, w.ownsRow B 107 2 v k xs ∧ ∀ j, j < k → ∃ (p : Nat) (kl : Int) (m : Nat), out.getD j 0 = (p : Int) + 1 ∧ ob p = some (kl, m) ∧ ObjAt w B xs j kl m (valF wd cf out kl p)

theorem own_type {w : World} {B e size n : Nat} {v : Value} {xs : List Value} (h : w.ownsRow B e size v n xs) {g : Nat} (hg : v.ownBlock = some g) : ∃ cur, w.heap[g]? = some (.cells cur e (0, 0)) := by
  rcases h.2 with ⟨rfl, _⟩ | ⟨g', cap, cur, rfl, _, h1, _⟩
  · cases hg
  · have : g' = g := Option.some.inj hg
    subst this
    exact ⟨cur, h1⟩

/-- What is told stays where other blocks turn. -/
theorem told_stays {wd : Nat → Int} {cf : Nat → ByteArray} {ob : Nat → Option (Int × Nat)} {out : List Int} {B k : Nat} {v : Value} {w w' : World} (h : Told wd cf ob out B k v w) (hk : ∀ i, B ≤ i → i < w.heap.size → w'.heap[i]? = w.heap[i]?) : Told wd cf ob out B k v w' := by
  obtain ⟨xs, h1, h2⟩ := h
  refine ⟨xs, ?_, fun j hj => ?_⟩
  · refine ⟨h1.1, ?_⟩
    rcases h1.2 with h3 | ⟨g, cap, cur, hv, hb, hg, h4⟩
    · exact .inl h3
    · exact .inr ⟨g, cap, cur, hv, hb, (hk g hb (Array.getElem?_eq_some_iff.1 hg).1).trans hg, h4⟩
  · obtain ⟨p, kl, m, e1, e2, ⟨b, hb, x1, x2, x3⟩⟩ := h2 j hj
    exact ⟨p, kl, m, e1, e2, ⟨b, hb, x1, x2, (hk b hb (Array.getElem?_eq_some_iff.1 x3).1).trans x3⟩⟩

/-- One more is told. -/
theorem told_next {wd : Nat → Int} {cf : Nat → ByteArray} {ob : Nat → Option (Int × Nat)} {out : List Int} {B k : Nat} {v v' : Value} {w w0 w' : World} {xs : List Value} {b p m : Nat} {kl : Int} {f : Nat → Int}
    (h : ∀ j, j < k → ∃ (p : Nat) (kl : Int) (m : Nat), out.getD j 0 = (p : Int) + 1 ∧ ob p = some (kl, m) ∧ ObjAt w B xs j kl m (valF wd cf out kl p)) (hx : xs.length = k * 2)
    (hw0 : ∀ i, i < w.heap.size → w0.heap[i]? = w.heap[i]?) (hown0 : w.ownsRow B 107 2 v k xs) (hown : w'.ownsRow B 107 2 v' (k + 1) (xs ++ [.int .i64 kl, .slice (some ⟨b, 0, none⟩) m m])) (hg : w0.grownBy w' v.ownBlock)
    (hB : B ≤ b) (hrow : w0.heap[b]? = some (.cells (intRow m f) 2 (0, 0))) (_hbne : w.heap.size ≤ b) (hp : out.getD k 0 = (p : Int) + 1) (hob : ob p = some (kl, m)) (hf : ∀ i, i < m → f i = valF wd cf out kl p i) :
    Told wd cf ob out B (k + 1) v' w' := by
  have hne : ∀ i, i < w0.heap.size → (∀ cur, w0.heap[i]? ≠ some (.cells cur 107 (0, 0))) → w'.heap[i]? = w0.heap[i]? := fun i hi hc => hg.block i hi (fun e => by
    obtain ⟨cur, hcur⟩ := own_type hown0 e.symm
    exact hc cur ((hw0 i (Array.getElem?_eq_some_iff.1 hcur).1).trans hcur))
  refine ⟨_, hown, fun j hj => ?_⟩
  by_cases hjk : j < k
  · obtain ⟨p', kl', m', e1, e2, ⟨b', hb', x1, x2, x3⟩⟩ := h j hjk
    refine ⟨p', kl', m', e1, e2, ⟨b', hb', ?_, ?_, ?_⟩⟩
    · rw [List.getElem?_append_left (by omega)]; exact x1
    · rw [List.getElem?_append_left (by omega)]; exact x2
    · have hl := (Array.getElem?_eq_some_iff.1 x3).1
      have x3' := (hw0 b' hl).trans x3
      rw [hne b' (Array.getElem?_eq_some_iff.1 x3').1 (fun cur e => by rw [x3'] at e; cases e)]
      exact x3'
  · obtain rfl : j = k := by omega
    refine ⟨p, kl, m, hp, hob, ⟨b, hB, ?_, ?_, ?_⟩⟩
    · rw [List.getElem?_append_right (by omega), hx, show 2 * j - j * 2 = 0 by omega]; rfl
    · rw [List.getElem?_append_right (by omega), hx, show 2 * j + 1 - j * 2 = 1 by omega]; rfl
    · rw [hne b (Array.getElem?_eq_some_iff.1 hrow).1 (fun cur e => by rw [hrow] at e; cases e), hrow, intRow_congr hf]

end Go.Proofs.YtjffbojgdemooaaDoor

/-
  Moves: isPlace, may.
-/
import Derived.Test.YtflbjfcmnopfaaaDoorMvD
import Derived.Test.YtflbjfcmnopfaaaDoorSee2
import Derived.BigQuiet
import Derived.Deep.QuietTactic
namespace Go.Proofs.YtflbjfcmnopfaaaDoor
open Go.RowKit

/-- A list of any moves that can be read. -/
structure MAny (w : World) (a : Option Addr) (len cap : Nat) (l : List (Int × Int)) : Prop where
  len_eq : l.length = len
  le : len ≤ cap
  max : cap ≤ maxLen
  at_ : 0 < len → ∃ b off, a = some ⟨b, off, none⟩ ∧ b < w.heap.size ∧ ∀ j, j < len → w.cell? ⟨b, off + (j * 2 + 0), none⟩ = some (.int .i64 (l.getD j (0, 0)).1) ∧ w.cell? ⟨b, off + (j * 2 + 1), none⟩ = some (.int .i64 (l.getD j (0, 0)).2)

theorem MAny.below {w w' : World} {a : Option Addr} {len cap : Nat} {l : List (Int × Int)} (h : MAny w a len cap l) (hb : Below w.heap.size w w') : MAny w' a len cap l :=
  ⟨h.len_eq, h.le, h.max, fun h0 => by
    obtain ⟨b, off, e, hl, hc⟩ := h.at_ h0
    exact ⟨b, off, e, Nat.lt_of_lt_of_le hl hb.size, fun j hj => ⟨(hb.cell (p := ⟨b, off + (j * 2 + 0), none⟩) hl).trans (hc j hj).1, (hb.cell (p := ⟨b, off + (j * 2 + 1), none⟩) hl).trans (hc j hj).2⟩⟩⟩

def isP (p : Int) : Bool := decide (-1000 ≤ p ∧ p ≤ 1000)

theorem MAny.row {w : World} {a : Option Addr} {len cap : Nat} {l : List (Int × Int)} (h : MAny w a len cap l) (hp : ∀ m ∈ l, isP m.1 = true ∧ isP m.2 = true) : MRow w a len cap l :=
  ⟨h.len_eq, h.le, h.max, h.at_, fun m hm => by
    have := hp m hm
    simp only [isP, decide_eq_true_eq] at this
    omega⟩

theorem mvCells_len (l : List (Int × Int)) : (mvCells l).length = l.length * 2 := by
  induction l with
  | nil => rfl
  | cons x r ih =>
    have : mvCells (x :: r) = .int .i64 x.1 :: .int .i64 x.2 :: mvCells r := rfl
    rw [this]
    simp only [List.length_cons, ih]
    omega

theorem mvCells_get : ∀ (l : List (Int × Int)) (j : Nat), j < l.length → (mvCells l)[j * 2]? = some (.int .i64 (l.getD j (0, 0)).1) ∧ (mvCells l)[j * 2 + 1]? = some (.int .i64 (l.getD j (0, 0)).2)
  | [], j, h => by simp at h
  | x :: r, 0, _ => ⟨rfl, rfl⟩
  | x :: r, j + 1, h => by
    have e : mvCells (x :: r) = .int .i64 x.1 :: .int .i64 x.2 :: mvCells r := rfl
    have ih := mvCells_get r j (by simpa using h)
    rw [e, show (j + 1) * 2 = j * 2 + 1 + 1 by omega]
    simpa using ih

theorem mrow_own {w : World} {B n : Nat} {v : Value} {l : List (Int × Int)} (h : w.ownsRow B 108 2 v n (mvCells l)) : ∃ a c, v = .slice a n c ∧ MAny w a n c l := by
  have hl : l.length = n := by
    have h1 := h.1
    rw [mvCells_len] at h1
    omega
  rcases h.2 with ⟨rfl, h0⟩ | ⟨g, cap, cur, rfl, hb, hg, hnc, hcm, hcs, ht⟩
  · subst h0
    exact ⟨none, 0, rfl, ⟨hl, Nat.le_refl _, Nat.zero_le _, fun h => absurd h (Nat.lt_irrefl _)⟩⟩
  · refine ⟨some ⟨g, 0, none⟩, cap, rfl, ⟨hl, hnc, hcm, fun _ => ⟨g, 0, rfl, (Array.getElem?_eq_some_iff.1 hg).1, fun j hj => ?_⟩⟩⟩
    have hm := mvCells_get l j (by omega)
    rw [Nat.add_zero, Nat.zero_add, Nat.zero_add, h.cellAt (j * 2) (by omega), h.cellAt (j * 2 + 1) (by omega)]
    exact hm

theorem mrow_pair {w : World} (x y : Int) {b : Nat} {T : TypeId} (h : w.heap[b]? = some (.cells #[.int .i64 x, .int .i64 y] T (0, 0))) : MAny w (some ⟨b, 0, none⟩) 1 1 [(x, y)] :=
  ⟨rfl, Nat.le_refl _, by unfold maxLen; omega, fun _ => ⟨b, 0, rfl, (Array.getElem?_eq_some_iff.1 h).1, fun j hj => by
    obtain rfl : j = 0 := by omega
    rw [cell_of_row w b _ _ _ (0, 0) h, cell_of_row w b _ _ _ (0, 0) h]
    exact ⟨rfl, rfl⟩⟩⟩

theorem mrow_two {w : World} (x y z u : Int) {b : Nat} {T : TypeId} (h : w.heap[b]? = some (.cells #[.int .i64 x, .int .i64 y, .int .i64 z, .int .i64 u] T (0, 0))) : MAny w (some ⟨b, 0, none⟩) 2 2 [(x, y), (z, u)] :=
  ⟨rfl, Nat.le_refl _, by unfold maxLen; omega, fun _ => ⟨b, 0, rfl, (Array.getElem?_eq_some_iff.1 h).1, fun j hj => by
    rw [cell_of_row w b _ _ _ (0, 0) h, cell_of_row w b _ _ _ (0, 0) h]
    have : j = 0 ∨ j = 1 := by omega
    rcases this with rfl | rfl <;> exact ⟨rfl, rfl⟩⟩⟩

theorem mrow_nil (w : World) : MAny w none 0 0 [] := ⟨rfl, Nat.le_refl _, Nat.zero_le _, fun h => absurd h (Nat.lt_irrefl _)⟩

theorem place_any (p : Int) (w : World) : Calls Tryd.prog 118 #[.int .i64 p] w fun e w' => e = .returned (.bool (isP p)) ∧ w = w' := by
  by_cases h1 : -1000 ≤ p
  · have t1 : decide (p ≥ -1000) = true := by simpa using h1
    by_cases h2 : p ≤ 1000
    · have t2 : decide (p ≤ 1000) = true := by simpa using h2
      have e : isP p = true := by simp [isP, h1, h2]
      rw [e]
      clear e h1 h2
      go_enter Tryd.func118, Tryd.ntmps118
      go_wp2
      go_ret
      exact ⟨rfl, rfl⟩
    · have t2 : decide (p ≤ 1000) = false := by simpa using h2
      have e : isP p = false := by simp [isP, h2]
      rw [e]
      clear e h1 h2
      go_enter Tryd.func118, Tryd.ntmps118
      go_wp2
      go_ret
      exact ⟨rfl, rfl⟩
  · have t1 : decide (p ≥ -1000) = false := by simpa using h1
    have e : isP p = false := by simp [isP, h1]
    rw [e]
    clear e h1
    go_enter Tryd.func118, Tryd.ntmps118
    go_wp2
    go_ret
    exact ⟨rfl, rfl⟩

def PlRel (k : Nat) (w : World) (si : Value) (wr : World) : Prop := ∃ i : Nat, i ≤ k ∧ si = .int .i64 i ∧ Below w.heap.size w wr

/-- What may tells, of moves at places only, no two into one: nothing. -/
def MetRel (len mb : Nat) (l : List (Int × Int)) (w : World) (si : Value) (wr : World) : Prop :=
  ∃ i : Nat, i ≤ len ∧ si = .int .i64 i ∧ IntSet Tryd.prog 3 mb i (fun x => ((l.take i).map Prod.fst).contains x) wr ∧ Below w.heap.size w wr ∧ w.heap.size ≤ mb ∧ mb < wr.heap.size

theorem zero_unitM : ∀ w, (zeroValue 155).run Tryd.prog w = .ok (.agg #[]) w := fun w => by kernel_rfl

theorem met_not {l : List (Int × Int)} (h : (l.map Prod.fst).Nodup) {i : Nat} (hi : i < l.length) : ((l.take i).map Prod.fst).contains (l.getD i (0, 0)).1 = false := by
  cases hc : ((l.take i).map Prod.fst).contains (l.getD i (0, 0)).1 with
  | false => rfl
  | true =>
    have hm : (l.getD i (0, 0)).1 ∈ (l.take i).map Prod.fst := by simpa using hc
    have e : l.map Prod.fst = (l.take i).map Prod.fst ++ (l.drop i).map Prod.fst := by rw [← List.map_append, List.take_append_drop]
    rw [e] at h
    have h2 : (l.getD i (0, 0)).1 ∈ (l.drop i).map Prod.fst := by
      refine List.mem_map_of_mem ?_
      rw [List.drop_eq_getElem_cons hi, show l.getD i (0, 0) = l[i] by simp [List.getD, hi]]
      exact List.mem_cons_self
    exact absurd rfl ((List.nodup_append.1 h).2.2 _ hm _ h2)

theorem met_next (l : List (Int × Int)) (i : Nat) (hi : i < l.length) : ∀ x, upd (fun x => ((l.take i).map Prod.fst).contains x) (l.getD i (0, 0)).1 true x = ((l.take (i + 1)).map Prod.fst).contains x := by
  intro x
  rw [take_next l i hi, List.map_append]
  unfold upd
  rw [Bool.eq_iff_iff]
  by_cases h : x = (l.getD i (0, 0)).1
  · simp [h]
  · simp [or_comm]

set_option maxHeartbeats 2000000 in
set_option maxRecDepth 100000 in
theorem may_ok (a : Option Addr) (len cap : Nat) (l : List (Int × Int)) (w : World) (hr : MAny w a len cap l) (hlen : len ≤ 500) (hp : ∀ m ∈ l, isP m.1 = true ∧ isP m.2 = true) (hnd : (l.map Prod.fst).Nodup) :
    Calls Tryd.prog 119 #[.slice a len cap] w fun e w' => e = .returned .nilIface ∧ Below w.heap.size w w' := by
  have hle := hr.le
  have hmax := hr.max
  unfold maxLen at hmax
  have HL := Lib.hid hr.len_eq
  have HR := Lib.hid hr
  have HP := Lib.hid hp
  have HND := Lib.hid hnd
  have t0 : decide ((len : Int) > 500) = false := by simp; omega
  have B0 : Hid (PlRel len w (.int .i64 0) w) := Lib.hid ⟨0, Nat.zero_le _, rfl, Below.refl _ _⟩
  have hmm := @run_makeMap Tryd.prog
  clear hr hp hnd
  go_enter Tryd.func119, Tryd.ntmps119
  go_wp2_with fail
  go_loopw [16] (fun si wr => PlRel len w si wr) (fun si _ => len - (intOf si).toNat)
  case atStart => exact B0.out
  case round =>
    clear B0
    obtain ⟨i, hi, rfl, hB⟩ := hrel
    by_cases hlt : i < len
    · obtain ⟨b, off, rfl, hbl, hc⟩ := HR.out.at_ (by omega)
      have hil : i < l.length := by rw [HL.out]; exact hlt
      have cx : wr.cell? ⟨b, off + (i * 2 + 0), none⟩ = some (.int .i64 (l.getD i (0, 0)).1) := (hB.cell (p := ⟨b, off + (i * 2 + 0), none⟩) hbl).trans (hc i hlt).1
      have cy : wr.cell? ⟨b, off + (i * 2 + 1), none⟩ = some (.int .i64 (l.getD i (0, 0)).2) := (hB.cell (p := ⟨b, off + (i * 2 + 1), none⟩) hbl).trans (hc i hlt).2
      rw [Nat.add_zero] at cx
      rw [← Nat.add_assoc] at cy
      have hpi := HP.out _ (mem_at hil)
      have t1 : decide (i < len) = true := by simpa using hlt
      generalize l.getD i (0, 0) = m at *
      obtain ⟨x, y⟩ := m
      dsimp only at cx cy hpi
      have K1 := Lib.hid (place_any x (wr.alloc (.cells #[.int .i64 x, .int .i64 y] 108)))
      have K2 := Lib.hid (place_any y (wr.alloc (.cells #[.int .i64 x, .int .i64 y] 108)))
      rw [hpi.1] at K1
      rw [hpi.2] at K2
      have HB := Lib.hid hB
      clear hpi hB hc hil hmm hbl
      go_wp2_with (go_at_call 118; first | (refine K1.out.mono ?_; rintro e w' ⟨rfl, rfl⟩) | (refine K2.out.mono ?_; rintro e w' ⟨rfl, rfl⟩))
      go_roundw
      case rel => exact ⟨i + 1, by omega, by go_num, HB.out.alloc HB.out.size _⟩
      case measure => simp [intOf]; omega
    · obtain rfl : i = len := by omega
      obtain ⟨W, rfl⟩ : ∃ W : World, W = wr := ⟨_, rfl⟩
      have t1 : decide (i < i) = false := by simp
      have M0 : Hid (MetRel i W.heap.size l w (.int .i64 0) (W.alloc (.map #[] 0))) := Lib.hid ⟨0, Nat.zero_le _, rfl, (IntSet.made W Tryd.prog 3).congr fun x => by simp, hB.alloc hB.size _, hB.size, by simp⟩
      clear hB
      go_wp2_with fail
      clear hmm
      go_loopw [35] (fun si wr => MetRel i W.heap.size l w si wr) (fun si _ => i - (intOf si).toNat)
      case atStart => exact M0.out
      case round =>
        clear M0
        obtain ⟨j, hj, rfl, hS, hB, hw1, hw2⟩ := hrel
        by_cases hlt : j < i
        · obtain ⟨b, off, rfl, hbl, hc⟩ := HR.out.at_ (by omega)
          have hil : j < l.length := by rw [HL.out]; exact hlt
          have cx : wr.cell? ⟨b, off + (j * 2 + 0), none⟩ = some (.int .i64 (l.getD j (0, 0)).1) := (hB.cell (p := ⟨b, off + (j * 2 + 0), none⟩) hbl).trans (hc j hlt).1
          have cy : wr.cell? ⟨b, off + (j * 2 + 1), none⟩ = some (.int .i64 (l.getD j (0, 0)).2) := (hB.cell (p := ⟨b, off + (j * 2 + 1), none⟩) hbl).trans (hc j hlt).2
          rw [Nat.add_zero] at cx
          rw [← Nat.add_assoc] at cy
          have hpi := (HP.out _ (mem_at hil)).1
          have t1 : decide (j < i) = true := by simpa using hlt
          have hno := met_not HND.out hil
          have hnx := met_next l j hil
          generalize l.getD j (0, 0) = m at *
          obtain ⟨x, y⟩ := m
          dsimp only at cx cy hpi hno hnx
          simp only [isP, decide_eq_true_eq] at hpi
          have WX := Lib.hid (wf64 (x := x) (by omega) (by omega))
          have HM := Lib.hid (show j < maxLen by unfold maxLen; omega)
          have HS0 := Lib.hid hS
          have HS1 := Lib.hid ((hS.kept (w' := wr.alloc (.cells #[.int .i64 x, .int .i64 y] 108)) (Below.heap_alloc _ _ _ hS.lt)))
          have HS2 := Lib.hid (HS1.out.kept (w' := (wr.alloc (.cells #[.int .i64 x, .int .i64 y] 108)).alloc (.cells #[] 155)) (Below.heap_alloc _ _ _ HS1.out.lt))
          have HNO := Lib.hid hno
          have HNX := Lib.hid hnx
          have HB := Lib.hid hB
          have HW1 := Lib.hid hw1
          clear hno hnx hpi hB hc hil hbl hS hw1 hw2
          go_wp2_with (first | (at_lookup; refine wpList_iset_look _ rfl _ _ 233 rfl 3 155 Tryd.underlying3 Tryd.underlying233 (zero_unitM _) W.heap.size j _ rfl HS1.out x rfl WX.out false HNO.out ?_) | (at_mapUpdate; refine wpList_iset_put _ rfl _ _ _ 233 rfl 3 155 Tryd.underlying3 Tryd.underlying233 W.heap.size j _ rfl HS2.out HM.out x rfl WX.out rfl ?_; intro w5 hS5 hT5; replace hS5 := Lib.hid hS5; replace hT5 := Lib.hid hT5))
          go_roundw
          case rel =>
            have hg := hT5.out.grown
            have hz := hg.size
            rw [World.size_alloc, World.size_alloc] at hz
            have hw1 := HW1.out
            have hlt0 := HS0.out.lt
            have hb2 := ((HB.out.alloc HB.out.size (.cells #[.int .i64 x, .int .i64 y] 108)).alloc (by rw [World.size_alloc]; have := HB.out.size; omega) (.cells #[] 155))
            exact ⟨j + 1, by omega, by go_num, hS5.out.congr HNX.out, ⟨hg.os.trans hb2.os, hg.tape.trans hb2.tape, hg.output.trans hb2.output, by have := hb2.size; rw [World.size_alloc, World.size_alloc] at this; omega, fun k hk => (hg.block k (by have := HB.out.size; rw [World.size_alloc, World.size_alloc]; omega) (by simp; omega)).trans (hb2.block k hk)⟩, hw1, by omega⟩
          case measure => simp [intOf]; omega
        · obtain rfl : j = i := by omega
          have t1 : decide (j < j) = false := by simp
          have HB := Lib.hid hB
          clear hB hS
          go_wp2_with fail
          go_ret
          exact ⟨rfl, HB.out⟩

end Go.Proofs.YtflbjfcmnopfaaaDoor

/-
  Moves: chapter 23's own example; lists that move nothing; one move.
-/
import Derived.Test.YtflbjfcmnopfaaaDoorMvF
import Derived.Test.YtflbjfcmnopfaaaDoorLow
namespace Go.Proofs.YtflbjfcmnopfaaaDoor
open Go.RowKit

theorem order_single (x y spare : Int) : ∃ o c, orderF [(x, y)] spare = some (o, c) := by
  by_cases h : x = y
  · subst h
    exact ⟨[], 0, order_none _ _ (fun m hm => by simp at hm; subst hm; rfl)⟩
  · refine ⟨[(x, y)], 0, ?_⟩
    have hyx : ¬ y = x := fun e => h e.symm
    have e1 : begF [(x, y)] = ⟨upd (fun _ => none) x (some y), upd (fun _ => 0) y (0 + 1), []⟩ := by
      unfold begF
      simp only [List.foldl_cons, List.foldl_nil]
      unfold begS
      rw [if_neg h]
    have e2 : freeF 1 [(x, y)] (begF [(x, y)]) = doS (begF [(x, y)]) x y := by
      unfold freeF
      simp only [List.foldl_cons, List.foldl_nil]
      unfold doF
      rw [e1]
      simp only [upd_same]
      rw [upd_other _ _ h, if_neg (by decide)]
      rfl
    have e3 : ∀ z, (doS (begF [(x, y)]) x y).F z = none := by
      intro z
      rw [e1]
      show upd (upd (fun _ => none) x (some y)) x none z = none
      unfold upd
      split
      · rfl
      · rfl
    have e4 : (doS (begF [(x, y)]) x y).out = [(x, y)] := by rw [e1]; rfl
    unfold orderF ringF
    show (([(x, y)].foldl (ringS 1 spare) (some (freeF 1 [(x, y)] (begF [(x, y)]), 0))).map fun q => (q.1.out, q.2)) = _
    rw [e2, ring_done _ _ _ _ e3]
    simp [e4]

/-- What Order tells of one move, one of whose places and whose spare place are free. -/
def oneE (sa : Nat → Addr) (p : Int) (hit : Prop) [Decidable hit] : Value := if isP p = false then errI sa 2 else if hit then errI sa 4 else .nilIface

def OneOrd (E : Value) (w : World) (e : Ending) (w' : World) : Prop := ∃ a n c, e = .returned (.tuple #[.slice a n c, E]) ∧ Below w.heap.size w w'

theorem ord_one (sa : Nat → Addr) (b : Nat) (x y p spare : Int) (hit : Prop) [Decidable hit] (w : World) (S : Sents sa w) (hr : MAny w (some ⟨b, 0, none⟩) 1 1 [(x, y)]) (hs : isP spare = true) (hxy : (isP x && isP y) = isP p) (hh : hit ↔ (x = spare ∨ y = spare)) :
    Calls Tryd.prog 64 #[.slice (some ⟨b, 0, none⟩) 1 1, .int .i64 spare] w (OneOrd (oneE sa p hit) w) := by
  unfold oneE
  cases hp : isP p with
  | false =>
    rw [if_pos rfl]
    refine (order_first sa _ 1 1 [(x, y)] spare w S hr (by decide) (by decide) hs (hxy.trans hp)).mono ?_
    rintro e w' ⟨rfl, hb⟩
    exact ⟨_, _, _, rfl, hb⟩
  | true =>
    rw [if_neg (by decide)]
    obtain ⟨o, c, ho⟩ := order_single x y spare
    rw [hp] at hxy
    have hxy2 : isP x = true ∧ isP y = true := by simpa using hxy
    refine (order_go sa _ 1 1 [(x, y)] spare o c w S hr (by decide) hs (fun m hm => by simp at hm; subst hm; exact hxy2) (by simp) ho).mono ?_
    rintro e w' (⟨⟨m, hm, hq⟩, rfl, hb⟩ | ⟨hno, v, rfl, hown, hb⟩)
    · simp at hm
      subst hm
      rw [if_pos (hh.2 hq)]
      exact ⟨_, _, _, rfl, hb⟩
    · have := hno (x, y) (by simp)
      rw [if_neg (fun h => by
        rcases hh.1 h with h1 | h1
        · exact this.1 h1
        · exact this.2 h1)]
      obtain ⟨a, c', rfl⟩ := own_shapeM hown
      exact ⟨_, _, _, rfl, hb⟩

theorem ord_nil (sa : Nat → Addr) (spare : Int) (w : World) (S : Sents sa w) :
    Calls Tryd.prog 64 #[.slice none 0 0, .int .i64 spare] w (OneOrd (oneE sa spare False) w) := by
  unfold oneE
  cases hp : isP spare with
  | false =>
    rw [if_pos rfl]
    refine (order_spare sa none 0 0 spare w S (by decide) (by decide) (by unfold maxLen; omega) hp).mono ?_
    rintro e w' ⟨rfl, hb⟩
    exact ⟨_, _, _, rfl, hb⟩
  | true =>
    rw [if_neg (by decide), if_neg (fun h => h)]
    refine (order_go sa none 0 0 [] spare [] 0 w S (mrow_nil w) (by decide) hp (fun m hm => by cases hm) (by simp) (order_none [] spare (fun m hm => by cases hm))).mono ?_
    rintro e w' (⟨⟨m, hm, hq⟩, rfl, hb⟩ | ⟨hno, v, rfl, hown, hb⟩)
    · cases hm
    · obtain ⟨a, c', rfl⟩ := own_shapeM hown
      exact ⟨_, _, _, rfl, hb⟩

/-- Moves that go nowhere. -/
def idL (n : Nat) : List (Int × Int) := (List.range n).map fun (j : Nat) => ((j : Int), (j : Int))
theorem idL_len (n : Nat) : (idL n).length = n := by simp [idL]
theorem idL_next (n : Nat) : idL (n + 1) = idL n ++ [((n : Int), (n : Int))] := by simp [idL, List.range_succ]
theorem idL_in {n : Nat} (h : n ≤ 600) : ∀ m ∈ idL n, isP m.1 = true ∧ isP m.2 = true := by
  intro m hm
  simp [idL] at hm
  obtain ⟨j, hj, rfl⟩ := hm
  simp [isP]
  omega
theorem idL_same (n : Nat) : ∀ m ∈ idL n, m.1 = m.2 := by
  intro m hm
  simp [idL] at hm
  obtain ⟨j, hj, rfl⟩ := hm
  rfl
theorem idL_nodup (n : Nat) : ((idL n).map Prod.fst).Nodup := by
  unfold idL
  rw [List.map_map]
  refine List.Pairwise.map _ (fun (a b : Nat) (h : a ≠ b) (e : (a : Int) = b) => h (by omega)) List.nodup_range

/-- What Order tells of moves that go nowhere. -/
theorem ord_id (sa : Nat → Addr) (a : Option Addr) (n cap : Nat) (w : World) (S : Sents sa w) (hr : MAny w a n cap (idL n)) (hn : n ≤ 500) :
    Calls Tryd.prog 64 #[.slice a n cap, .int .i64 900] w fun e w' => ∃ b c, e = .returned (.tuple #[.slice b 0 c, .nilIface]) ∧ Below w.heap.size w w' := by
  refine (order_go sa a n cap (idL n) 900 [] 0 w S hr hn (by decide) (idL_in (by omega)) (idL_nodup n) (order_none _ _ (idL_same n))).mono ?_
  rintro e w' (⟨⟨m, hm, hq⟩, _⟩ | ⟨hno, v, rfl, hown, hb⟩)
  · exfalso
    simp [idL] at hm
    obtain ⟨j, hj, rfl⟩ := hm
    simp at hq
    omega
  · obtain ⟨b, c', rfl⟩ := own_shapeM hown
    exact ⟨b, c', rfl, hb⟩

theorem cyc_id (a : Option Addr) (n cap : Nat) (w : World) (hr : MAny w a n cap (idL n)) (hn : n ≤ 500) :
    Calls Tryd.prog 66 #[.slice a n cap] w fun e w' => e = .returned (.int .i64 0) ∧ Below w.heap.size w w' :=
  cycles_go a n cap (idL n) [] 0 w hr hn (idL_in (by omega)) (idL_nodup n) (order_none _ _ (idL_same n))

theorem pairs_in : ∀ m ∈ ([(1, 2), (2, 1)] : List (Int × Int)), isP m.1 = true ∧ isP m.2 = true := by decide
theorem pairs_nodup : (([(1, 2), (2, 1)] : List (Int × Int)).map Prod.fst).Nodup := by decide

theorem ord_pair (sa : Nat → Addr) (b : Nat) (w : World) (S : Sents sa w) (hr : MAny w (some ⟨b, 0, none⟩) 2 2 [(1, 2), (2, 1)]) :
    Calls Tryd.prog 64 #[.slice (some ⟨b, 0, none⟩) 2 2, .int .i64 9] w fun e w' => ∃ a c, e = .returned (.tuple #[.slice a 3 c, .nilIface]) ∧ Below w.heap.size w w' := by
  obtain ⟨o, ho, hl⟩ := order_two 9 (.inl rfl)
  refine (order_go sa _ 2 2 _ 9 o 1 w S hr (by decide) (by decide) pairs_in pairs_nodup ho).mono ?_
  rintro e w' (⟨⟨m, hm, hq⟩, _⟩ | ⟨hno, v, rfl, hown, hb⟩)
  · exfalso
    simp at hm
    rcases hm with rfl | rfl <;> simp at hq
  · rw [hl] at hown
    obtain ⟨a, c', rfl⟩ := own_shapeM hown
    exact ⟨a, c', rfl, hb⟩

theorem ord_self (sa : Nat → Addr) (b : Nat) (w : World) (S : Sents sa w) (hr : MAny w (some ⟨b, 0, none⟩) 1 1 [(1, 1)]) :
    Calls Tryd.prog 64 #[.slice (some ⟨b, 0, none⟩) 1 1, .int .i64 9] w fun e w' => ∃ a c, e = .returned (.tuple #[.slice a 0 c, .nilIface]) ∧ Below w.heap.size w w' := by
  refine (order_go sa _ 1 1 _ 9 [] 0 w S hr (by decide) (by decide) (fun m hm => by simp at hm; subst hm; decide) (by simp) (order_none _ _ (fun m hm => by simp at hm; subst hm; rfl))).mono ?_
  rintro e w' (⟨⟨m, hm, hq⟩, _⟩ | ⟨hno, v, rfl, hown, hb⟩)
  · exfalso
    simp at hm
    subst hm
    simp at hq
  · obtain ⟨a, c', rfl⟩ := own_shapeM hown
    exact ⟨a, c', rfl, hb⟩

theorem cyc_pair (b : Nat) (w : World) (hr : MAny w (some ⟨b, 0, none⟩) 2 2 [(1, 2), (2, 1)]) :
    Calls Tryd.prog 66 #[.slice (some ⟨b, 0, none⟩) 2 2] w fun e w' => e = .returned (.int .i64 1) ∧ Below w.heap.size w w' := by
  obtain ⟨o, ho, hl⟩ := order_two 1001 (.inr rfl)
  exact cycles_go _ 2 2 _ o 1 w hr (by decide) pairs_in pairs_nodup ho

set_option maxHeartbeats 2000000 in
set_option maxRecDepth 100000 in
/-- Chapter 23's example. -/
theorem mfirst (sa : Nat → Addr) (w : World) (S : Sents sa w) : Calls Tryd.prog 63 #[] w (TruePost w) := by
  have HS := Lib.hid S
  have K1 := Lib.hid (ord_pair sa w.heap.size (w.alloc (.cells #[.int .i64 1, .int .i64 2, .int .i64 2, .int .i64 1] 108)) (S.below ((Below.refl _ _).alloc (Nat.le_refl _) _)) (mrow_two 1 2 2 1 (heap_alloc_new _ _)))
  clear S
  go_enter Tryd.func63, Tryd.ntmps63
  go_wp2_with fail
  refine K1.out.mono ?_
  rintro e w1 ⟨a1, c1, rfl, hB1⟩
  have B1 : Hid (Below w.heap.size w w1) := Lib.hid (((Below.refl _ _).alloc (Nat.le_refl _) _).trans (hB1.mono (by simp)))
  have K2 := Lib.hid (ord_self sa w1.heap.size (w1.alloc (.cells #[.int .i64 1, .int .i64 1] 108)) (HS.out.below (B1.out.alloc B1.out.size _)) (mrow_pair 1 1 (heap_alloc_new _ _)))
  clear hB1 K1
  go_wp2_with fail
  refine K2.out.mono ?_
  rintro e w2 ⟨a2, c2, rfl, hB2⟩
  have B2 : Hid (Below w.heap.size w w2) := Lib.hid ((B1.out.alloc B1.out.size _).trans (hB2.mono (by have := B1.out.size; simp; omega)))
  have K3 := Lib.hid (cyc_pair w2.heap.size (w2.alloc (.cells #[.int .i64 1, .int .i64 2, .int .i64 2, .int .i64 1] 108)) (mrow_two 1 2 2 1 (heap_alloc_new _ _)))
  clear hB2 K2
  go_wp2_with fail
  refine K3.out.mono ?_
  rintro e w3 ⟨rfl, hB3⟩
  have B3 : Hid (Below w.heap.size w w3) := Lib.hid ((B2.out.alloc B2.out.size _).trans (hB3.mono (by have := B2.out.size; simp; omega)))
  clear hB3 K3
  go_wp2_with fail
  go_ret
  exact ⟨rfl, B3.out⟩

end Go.Proofs.YtflbjfcmnopfaaaDoor

/-
  Moves: Order and Cycles.
-/
import Derived.Test.YtflbjfcmnopfaaaDoorMvE
namespace Go.Proofs.YtflbjfcmnopfaaaDoor
open Go.RowKit

def errI (sa : Nat → Addr) (m : Nat) : Value := .iface 271 (.pointer (some (sa m)))

def NoOrd (sa : Nat → Addr) (m : Nat) (w : World) (e : Ending) (w' : World) : Prop := e = .returned (.tuple #[.slice none 0 0, errI sa m]) ∧ Below w.heap.size w w'

set_option maxHeartbeats 2000000 in
set_option maxRecDepth 100000 in
theorem may_index (sa : Nat → Addr) (a : Option Addr) (len cap : Nat) (l : List (Int × Int)) (w : World) (S : Sents sa w) (hr : MAny w a len cap l) (hlen : len ≤ 500) (h0 : 0 < len) (hp : (isP (l.getD 0 (0, 0)).1 && isP (l.getD 0 (0, 0)).2) = false) :
    Calls Tryd.prog 119 #[.slice a len cap] w fun e w' => e = .returned (errI sa 2) ∧ Below w.heap.size w w' := by
  have hle := hr.le
  have hmax := hr.max
  unfold maxLen at hmax
  obtain ⟨b, off, rfl, hbl, hc⟩ := hr.at_ h0
  have cx := (hc 0 h0).1
  have cy := (hc 0 h0).2
  rw [Nat.zero_mul, Nat.zero_add, Nat.add_zero] at cx
  rw [Nat.zero_mul, Nat.zero_add] at cy
  generalize l.getD 0 (0, 0) = m at *
  obtain ⟨x, y⟩ := m
  dsimp only at cx cy hp
  have t0 : decide ((len : Int) > 500) = false := by simp; omega
  have t1 : decide (0 < len) = true := by simpa using h0
  have t1' : decide ((0 : Int) < len) = true := by simp; omega
  have K1 := Lib.hid (place_any x (w.alloc (.cells #[.int .i64 x, .int .i64 y] 108)))
  have K2 := Lib.hid (place_any y (w.alloc (.cells #[.int .i64 x, .int .i64 y] 108)))
  have cg := (S.below ((Below.refl _ _).alloc (Nat.le_refl _) (.cells #[.int .i64 x, .int .i64 y] 108))).c2
  have CX := Lib.hid cx
  have CY := Lib.hid cy
  clear hr hc S cx cy
  go_enter Tryd.func119, Tryd.ntmps119
  go_wp2_with fail
  go_loopw [16] (fun si wr => si = .int .i64 0 ∧ wr = w) (fun _ _ => 0)
  case atStart => exact ⟨rfl, rfl⟩
  case round =>
    obtain ⟨rfl, rfl⟩ := hrel
    have cx := CX.out
    have cy := CY.out
    cases hx : isP x with
    | false =>
      rw [hx] at K1
      clear hx hp
      go_wp2_with (go_at_call 118; first | (refine K1.out.mono ?_; rintro e w' ⟨rfl, rfl⟩))
      go_ret
      exact ⟨rfl, (Below.refl _ _).alloc (Nat.le_refl _) _⟩
    | true =>
      rw [hx, Bool.true_and] at hp
      rw [hx] at K1
      rw [hp] at K2
      clear hx hp
      go_wp2_with (go_at_call 118; first | (refine K1.out.mono ?_; rintro e w' ⟨rfl, rfl⟩) | (refine K2.out.mono ?_; rintro e w' ⟨rfl, rfl⟩))
      go_ret
      exact ⟨rfl, (Below.refl _ _).alloc (Nat.le_refl _) _⟩

set_option maxHeartbeats 2000000 in
set_option maxRecDepth 100000 in
theorem order_many (sa : Nat → Addr) (a : Option Addr) (len cap : Nat) (spare : Int) (w : World) (S : Sents sa w) (hlen : 500 < len) (_hle : len ≤ cap) (_hmax : cap ≤ maxLen) :
    Calls Tryd.prog 64 #[.slice a len cap, .int .i64 spare] w (NoOrd sa 0 w) := by
  have t0 : decide ((len : Int) > 500) = true := by simp; omega
  have c0 := S.c0
  clear S
  unfold maxLen at _hmax
  go_enter Tryd.func64, Tryd.ntmps64
  go_wp2_with fail
  go_quiet (fail)
  all_goals go_wp2_with fail
  all_goals go_ret2
  all_goals exact ⟨rfl, below_drewN (Below.refl _ _) _⟩

set_option maxHeartbeats 2000000 in
set_option maxRecDepth 100000 in
theorem order_spare (sa : Nat → Addr) (a : Option Addr) (len cap : Nat) (spare : Int) (w : World) (S : Sents sa w) (hlen : len ≤ 500) (_hle : len ≤ cap) (_hmax : cap ≤ maxLen) (hs : isP spare = false) :
    Calls Tryd.prog 64 #[.slice a len cap, .int .i64 spare] w (NoOrd sa 2 w) := by
  have t0 : decide ((len : Int) > 500) = false := by simp; omega
  have c2 := S.c2
  have K1 := Lib.hid (place_any spare w)
  rw [hs] at K1
  clear S hs
  unfold maxLen at _hmax
  go_enter Tryd.func64, Tryd.ntmps64
  go_wp2_with (go_at_call 118; refine K1.out.mono ?_; rintro e w' ⟨rfl, rfl⟩)
  go_quiet (fail)
  all_goals go_wp2_with fail
  all_goals go_ret2
  all_goals exact ⟨rfl, below_drewN (Below.refl _ _) _⟩

set_option maxHeartbeats 2000000 in
set_option maxRecDepth 100000 in
theorem order_first (sa : Nat → Addr) (a : Option Addr) (len cap : Nat) (l : List (Int × Int)) (spare : Int) (w : World) (S : Sents sa w) (hr : MAny w a len cap l) (hlen : len ≤ 500) (h0 : 0 < len) (hs : isP spare = true) (hp : (isP (l.getD 0 (0, 0)).1 && isP (l.getD 0 (0, 0)).2) = false) :
    Calls Tryd.prog 64 #[.slice a len cap, .int .i64 spare] w (NoOrd sa 2 w) := by
  have hle := hr.le
  have hmax := hr.max
  unfold maxLen at hmax
  have t0 : decide ((len : Int) > 500) = false := by simp; omega
  have K1 := Lib.hid (place_any spare w)
  rw [hs] at K1
  have K2 := Lib.hid (may_index sa a len cap l w S hr hlen h0 hp)
  unfold errI at K2
  clear S hr hs hp
  go_enter Tryd.func64, Tryd.ntmps64
  go_wp2_with (first | (go_at_call 118; refine K1.out.mono ?_; rintro e w' ⟨rfl, rfl⟩) | (go_at_call 119; refine K2.out.mono ?_; rintro e w1 ⟨rfl, hB1⟩))
  go_ret2
  exact ⟨rfl, hB1⟩

def HitRel (len : Nat) (l : List (Int × Int)) (spare : Int) (w : World) (si : Value) (wr : World) : Prop :=
  ∃ i : Nat, i ≤ len ∧ si = .int .i64 i ∧ (∀ j, j < i → (l.getD j (0, 0)).1 ≠ spare ∧ (l.getD j (0, 0)).2 ≠ spare) ∧ Below w.heap.size w wr

def OrderPost (sa : Nat → Addr) (l : List (Int × Int)) (spare : Int) (o : List (Int × Int)) (w : World) (e : Ending) (w' : World) : Prop :=
  ((∃ m ∈ l, m.1 = spare ∨ m.2 = spare) ∧ NoOrd sa 4 w e w') ∨
  ((∀ m ∈ l, m.1 ≠ spare ∧ m.2 ≠ spare) ∧ ∃ v, e = .returned (.tuple #[v, .nilIface]) ∧ w'.ownsRow w.heap.size 108 2 v o.length (mvCells o) ∧ Below w.heap.size w w')

set_option maxHeartbeats 4000000 in
set_option maxRecDepth 100000 in
theorem order_go (sa : Nat → Addr) (a : Option Addr) (len cap : Nat) (l : List (Int × Int)) (spare : Int) (o : List (Int × Int)) (c : Int) (w : World) (S : Sents sa w) (hr : MAny w a len cap l) (hlen : len ≤ 500) (hs : isP spare = true) (hp : ∀ m ∈ l, isP m.1 = true ∧ isP m.2 = true) (hnd : (l.map Prod.fst).Nodup) (ho : orderF l spare = some (o, c)) :
    Calls Tryd.prog 64 #[.slice a len cap, .int .i64 spare] w (OrderPost sa l spare o w) := by
  have hle := hr.le
  have hmax := hr.max
  unfold maxLen at hmax
  have t0 : decide ((len : Int) > 500) = false := by simp; omega
  have K1 := Lib.hid (place_any spare w)
  rw [hs] at K1
  have hsb : -2000 ≤ spare ∧ spare ≤ 2000 := by simp [isP] at hs; omega
  have HL := Lib.hid hr.len_eq
  have K2 := Lib.hid (may_ok a len cap l w hr hlen hp hnd)
  have HR := Lib.hid hr
  have HP := Lib.hid hp
  have HO := Lib.hid ho
  have HS := Lib.hid S
  have HSB := Lib.hid hsb
  clear S hr hs hp hnd ho hsb
  go_enter Tryd.func64, Tryd.ntmps64
  go_wp2_with (first | (go_at_call 118; refine K1.out.mono ?_; rintro e w' ⟨rfl, rfl⟩) | (go_at_call 119; refine K2.out.mono ?_; rintro e w1 ⟨rfl, hB1⟩))
  have R0 : Hid (HitRel len l spare w (.int .i64 0) w1) := Lib.hid ⟨0, Nat.zero_le _, rfl, fun j hj => absurd hj (Nat.not_lt_zero _), hB1⟩
  clear hB1 K1 K2
  go_loopw [26] (fun si wr => HitRel len l spare w si wr) (fun si _ => len - (intOf si).toNat)
  case atStart => exact R0.out
  case round =>
    clear R0
    obtain ⟨i, hi, rfl, hno, hB⟩ := hrel
    by_cases hlt : i < len
    · obtain ⟨b, off, rfl, hbl, hc⟩ := HR.out.at_ (by omega)
      have hil : i < l.length := by rw [HL.out]; exact hlt
      have cx : wr.cell? ⟨b, off + (i * 2 + 0), none⟩ = some (.int .i64 (l.getD i (0, 0)).1) := (hB.cell (p := ⟨b, off + (i * 2 + 0), none⟩) hbl).trans (hc i hlt).1
      have cy : wr.cell? ⟨b, off + (i * 2 + 1), none⟩ = some (.int .i64 (l.getD i (0, 0)).2) := (hB.cell (p := ⟨b, off + (i * 2 + 1), none⟩) hbl).trans (hc i hlt).2
      rw [Nat.add_zero] at cx
      rw [← Nat.add_assoc] at cy
      have t1 : decide (i < len) = true := by simpa using hlt
      have hmem := mem_at hil
      have hno' : ∀ q, q = l.getD i (0, 0) → q.1 ≠ spare ∧ q.2 ≠ spare → ∀ j, j < i + 1 → (l.getD j (0, 0)).1 ≠ spare ∧ (l.getD j (0, 0)).2 ≠ spare := fun q hq h j hj => by
        by_cases e : j = i
        · subst e; rw [← hq]; exact h
        · exact hno j (by omega)
      have HNO' : Hid (∀ q, q = l.getD i (0, 0) → q.1 ≠ spare ∧ q.2 ≠ spare → ∀ j, j < i + 1 → (l.getD j (0, 0)).1 ≠ spare ∧ (l.getD j (0, 0)).2 ≠ spare) := Lib.hid hno'
      clear hno' hno
      generalize hm : l.getD i (0, 0) = m at cx cy hmem
      have HM := Lib.hid hm
      obtain ⟨x, y⟩ := m
      dsimp only at cx cy
      have cg := (HS.out.below ((hB.alloc hB.size (.cells #[.int .i64 x, .int .i64 y] 108)))).c4
      have HB := Lib.hid hB
      have HMEM := Lib.hid hmem
      clear hc hB hil hbl hm hmem
      by_cases hx : x = spare
      · have t2 : (x == spare) = true := by simpa using hx
        have HX := Lib.hid hx
        clear hx
        go_wp2_with fail
        go_quiet (fail)
        all_goals go_wp2_with fail
        all_goals go_ret2
        all_goals exact .inl ⟨⟨_, HMEM.out, .inl HX.out⟩, rfl, below_drewN (HB.out.alloc HB.out.size _) _⟩
      · have t2 : (x == spare) = false := by simpa using hx
        by_cases hy : y = spare
        · have t3 : (y == spare) = true := by simpa using hy
          have HY := Lib.hid hy
          clear hx hy
          go_wp2_with fail
          go_quiet (fail)
          all_goals go_wp2_with fail
          all_goals go_ret2
          all_goals exact .inl ⟨⟨_, HMEM.out, .inr HY.out⟩, rfl, below_drewN (HB.out.alloc HB.out.size _) _⟩
        · have t3 : (y == spare) = false := by simpa using hy
          have HXY := Lib.hid (And.intro hx hy)
          clear hx hy
          go_wp2_with fail
          go_roundw
          case rel => exact ⟨i + 1, by omega, by go_num, HNO'.out _ HM.out.symm HXY.out, HB.out.alloc HB.out.size _⟩
          case measure => simp [intOf]; omega
    · obtain rfl : i = len := by omega
      have t1 : decide (i < i) = false := by simp
      have KO := Lib.hid (order_any a i cap l spare o c wr ((HR.out.below hB).row HP.out) hlen HSB.out HO.out)
      have HNO : Hid (∀ m ∈ l, m.1 ≠ spare ∧ m.2 ≠ spare) := Lib.hid fun m hm => by
        obtain ⟨j, hj, rfl⟩ := List.getElem_of_mem hm
        have := hno j (by rw [← HL.out]; exact hj)
        rw [show l.getD j (0, 0) = l[j] by simp [List.getD, hj]] at this
        exact this
      have HB := Lib.hid hB
      clear hno hB
      go_wp2_with (go_at_call 120; refine KO.out.mono ?_; rintro e w9 ⟨v, rfl, hown, hB9⟩)
      obtain ⟨va, vc, rfl⟩ := own_shapeM hown
      have HOWN := Lib.hid hown
      clear hown
      go_wp2_with fail
      go_ret2
      exact .inr ⟨HNO.out, _, rfl, own_baseM HOWN.out HB.out.size, HB.out.trans (hB9.mono HB.out.size)⟩

set_option maxHeartbeats 2000000 in
set_option maxRecDepth 100000 in
theorem cycles_go (a : Option Addr) (len cap : Nat) (l : List (Int × Int)) (o : List (Int × Int)) (c : Int) (w : World) (hr : MAny w a len cap l) (hlen : len ≤ 500) (hp : ∀ m ∈ l, isP m.1 = true ∧ isP m.2 = true) (hnd : (l.map Prod.fst).Nodup) (ho : orderF l 1001 = some (o, c)) :
    Calls Tryd.prog 66 #[.slice a len cap] w fun e w' => e = .returned (.int .i64 c) ∧ Below w.heap.size w w' := by
  have K2 := Lib.hid (may_ok a len cap l w hr hlen hp hnd)
  have HR := Lib.hid hr
  have HP := Lib.hid hp
  have HO := Lib.hid ho
  clear hr hp hnd ho
  go_enter Tryd.func66, Tryd.ntmps66
  go_wp2_with (first | (go_at_call 119; refine K2.out.mono ?_; rintro e w1 ⟨rfl, hB1⟩; replace hB1 := Lib.hid hB1) | (go_at_call 120; refine (order_any a len cap l 1001 o c w1 ((HR.out.below hB1.out).row HP.out) hlen (by decide) HO.out).mono ?_; rintro e w9 ⟨v, rfl, hown, hB9⟩; obtain ⟨va, vc, rfl⟩ := own_shapeM hown; clear hown; replace hB9 := Lib.hid hB9))
  go_ret
  exact ⟨rfl, hB1.out.trans (hB9.out.mono hB1.out.size)⟩

end Go.Proofs.YtflbjfcmnopfaaaDoor

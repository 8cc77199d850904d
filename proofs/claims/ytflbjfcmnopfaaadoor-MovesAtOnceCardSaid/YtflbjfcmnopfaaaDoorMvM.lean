/-
  Moves: may, Order and Cycles of any list, with the listed errors.
-/
import Derived.Test.YtflbjfcmnopfaaaDoorMvP
import Derived.Test.YtflbjfcmnopfaaaDoorMvX
namespace Go.Proofs.YtflbjfcmnopfaaaDoor
open Go.RowKit

def GoodP (l : List (Int × Int)) : Prop := ∀ m ∈ l, isP m.1 = true ∧ isP m.2 = true

def MayPost (sa : Nat → Addr) (l : List (Int × Int)) (w : World) (e : Ending) (w' : World) : Prop :=
  Below w.heap.size w w' ∧ ((e = .returned .nilIface ∧ GoodP l ∧ (l.map Prod.fst).Nodup) ∨ (e = .returned (errI sa 2) ∧ ¬ GoodP l) ∨ (e = .returned (errI sa 4) ∧ GoodP l ∧ ¬ (l.map Prod.fst).Nodup))

def GdRel (len : Nat) (l : List (Int × Int)) (w : World) (si : Value) (wr : World) : Prop := ∃ i : Nat, i ≤ len ∧ si = .int .i64 i ∧ (∀ j, j < i → isP (l.getD j (0, 0)).1 = true ∧ isP (l.getD j (0, 0)).2 = true) ∧ Below w.heap.size w wr
def NdRel (len mb : Nat) (l : List (Int × Int)) (w : World) (si : Value) (wr : World) : Prop :=
  ∃ i : Nat, i ≤ len ∧ si = .int .i64 i ∧ ((l.take i).map Prod.fst).Nodup ∧ IntSet Tryd.prog 3 mb i (fun x => ((l.take i).map Prod.fst).contains x) wr ∧ Below w.heap.size w wr ∧ w.heap.size ≤ mb ∧ mb < wr.heap.size

theorem good_all {l : List (Int × Int)} (h : ∀ j, j < l.length → isP (l.getD j (0, 0)).1 = true ∧ isP (l.getD j (0, 0)).2 = true) : GoodP l := fun m hm => by
  obtain ⟨j, hj, rfl⟩ := List.getElem_of_mem hm
  have := h j hj
  rw [show l.getD j (0, 0) = l[j] by simp [List.getD, hj]] at this
  exact this

theorem nd_snoc {l : List (Int × Int)} {i : Nat} (hi : i < l.length) (h : ((l.take i).map Prod.fst).Nodup) (hno : ((l.take i).map Prod.fst).contains (l.getD i (0, 0)).1 = false) : ((l.take (i + 1)).map Prod.fst).Nodup := by
  rw [take_next l i hi, List.map_append, List.nodup_append]
  refine ⟨h, by simp, fun a ha b hb e => ?_⟩
  simp at hb
  subst hb
  rw [e] at ha
  have : ((l.take i).map Prod.fst).contains (l.getD i (0, 0)).1 = true := by simpa using ha
  rw [hno] at this
  cases this

theorem nd_not {l : List (Int × Int)} {i : Nat} (hi : i < l.length) (hno : ((l.take i).map Prod.fst).contains (l.getD i (0, 0)).1 = true) : ¬ (l.map Prod.fst).Nodup := fun h => by
  rw [met_not h hi] at hno
  cases hno

set_option maxHeartbeats 4000000 in
set_option maxRecDepth 100000 in
theorem may_gen (sa : Nat → Addr) (a : Option Addr) (len cap : Nat) (l : List (Int × Int)) (w : World) (S : Sents sa w) (hr : MAny w a len cap l) (hlen : len ≤ 500) :
    Calls Tryd.prog 119 #[.slice a len cap] w (MayPost sa l w) := by
  have hle := hr.le
  have hmax := hr.max
  unfold maxLen at hmax
  have HL := Lib.hid hr.len_eq
  have HR := Lib.hid hr
  have HS := Lib.hid S
  have t0 : decide ((len : Int) > 500) = false := by simp; omega
  have B0 : Hid (GdRel len l w (.int .i64 0) w) := Lib.hid ⟨0, Nat.zero_le _, rfl, fun j hj => absurd hj (Nat.not_lt_zero _), Below.refl _ _⟩
  have hmm := @run_makeMap Tryd.prog
  clear hr S
  go_enter Tryd.func119, Tryd.ntmps119
  go_wp2_with fail
  go_loopw [16] (fun si wr => GdRel len l w si wr) (fun si _ => len - (intOf si).toNat)
  case atStart => exact B0.out
  case round =>
    clear B0
    obtain ⟨i, hi, rfl, hg, hB⟩ := hrel
    by_cases hlt : i < len
    · obtain ⟨b, off, rfl, hbl, hc⟩ := HR.out.at_ (by omega)
      have hil : i < l.length := by rw [HL.out]; exact hlt
      have cx : wr.cell? ⟨b, off + (i * 2 + 0), none⟩ = some (.int .i64 (l.getD i (0, 0)).1) := (hB.cell (p := ⟨b, off + (i * 2 + 0), none⟩) hbl).trans (hc i hlt).1
      have cy : wr.cell? ⟨b, off + (i * 2 + 1), none⟩ = some (.int .i64 (l.getD i (0, 0)).2) := (hB.cell (p := ⟨b, off + (i * 2 + 1), none⟩) hbl).trans (hc i hlt).2
      rw [Nat.add_zero] at cx
      rw [← Nat.add_assoc] at cy
      have hmem := mem_at hil
      have hgn : ∀ m, m = l.getD i (0, 0) → isP m.1 = true ∧ isP m.2 = true → ∀ j, j < i + 1 → isP (l.getD j (0, 0)).1 = true ∧ isP (l.getD j (0, 0)).2 = true := fun m e h j hj => by
        by_cases q : j = i
        · subst q; rw [← e]; exact h
        · exact hg j (by omega)
      have HGN := Lib.hid hgn
      have t1 : decide (i < len) = true := by simpa using hlt
      clear hg hgn
      generalize hmm2 : l.getD i (0, 0) = m at cx cy hmem
      have HMM := Lib.hid hmm2
      have HMEM := Lib.hid hmem
      obtain ⟨x, y⟩ := m
      dsimp only at cx cy
      have K1 := Lib.hid (place_any x (wr.alloc (.cells #[.int .i64 x, .int .i64 y] 108)))
      have K2 := Lib.hid (place_any y (wr.alloc (.cells #[.int .i64 x, .int .i64 y] 108)))
      have cg := (HS.out.below ((hB.alloc hB.size (.cells #[.int .i64 x, .int .i64 y] 108)))).c2
      have HB := Lib.hid hB
      clear hB hc hil hmm hbl hmm2 hmem
      cases hx : isP x with
      | false =>
        have HX := Lib.hid hx
        rw [hx] at K1
        clear hx
        go_wp2_with (go_at_call 118; first | (refine K1.out.mono ?_; rintro e w' ⟨rfl, rfl⟩))
        go_ret
        exact ⟨HB.out.alloc HB.out.size _, .inr (.inl ⟨rfl, fun h => by have h2 := (h _ HMEM.out).1; rw [HX.out] at h2; cases h2⟩)⟩
      | true =>
        have HX := Lib.hid hx
        rw [hx] at K1
        clear hx
        cases hy : isP y with
        | false =>
          have HY := Lib.hid hy
          rw [hy] at K2
          clear hy
          go_wp2_with (go_at_call 118; first | (refine K1.out.mono ?_; rintro e w' ⟨rfl, rfl⟩) | (refine K2.out.mono ?_; rintro e w' ⟨rfl, rfl⟩))
          go_ret
          exact ⟨HB.out.alloc HB.out.size _, .inr (.inl ⟨rfl, fun h => by have h2 := (h _ HMEM.out).2; rw [HY.out] at h2; cases h2⟩)⟩
        | true =>
          have HY := Lib.hid hy
          rw [hy] at K2
          clear hy
          go_wp2_with (go_at_call 118; first | (refine K1.out.mono ?_; rintro e w' ⟨rfl, rfl⟩) | (refine K2.out.mono ?_; rintro e w' ⟨rfl, rfl⟩))
          go_roundw
          case rel => exact ⟨i + 1, by omega, by go_num, HGN.out _ HMM.out.symm ⟨HX.out, HY.out⟩, HB.out.alloc HB.out.size _⟩
          case measure => simp [intOf]; omega
    · obtain rfl : i = len := by omega
      obtain ⟨W, rfl⟩ : ∃ W : World, W = wr := ⟨_, rfl⟩
      have t1 : decide (i < i) = false := by simp
      have HG := Lib.hid (good_all (l := l) (by rw [HL.out]; exact hg))
      have M0 : Hid (NdRel i W.heap.size l w (.int .i64 0) (W.alloc (.map #[] 0))) := Lib.hid ⟨0, Nat.zero_le _, rfl, by simp, (IntSet.made W Tryd.prog 3).congr fun x => by simp, hB.alloc hB.size _, hB.size, by simp⟩
      clear hB hg
      go_wp2_with fail
      clear hmm
      go_loopw [35] (fun si wr => NdRel i W.heap.size l w si wr) (fun si _ => i - (intOf si).toNat)
      case atStart => exact M0.out
      case round =>
        clear M0
        obtain ⟨j, hj, rfl, hnd, hS, hB, hw1, hw2⟩ := hrel
        by_cases hlt : j < i
        · obtain ⟨b, off, rfl, hbl, hc⟩ := HR.out.at_ (by omega)
          have hil : j < l.length := by rw [HL.out]; exact hlt
          have cx : wr.cell? ⟨b, off + (j * 2 + 0), none⟩ = some (.int .i64 (l.getD j (0, 0)).1) := (hB.cell (p := ⟨b, off + (j * 2 + 0), none⟩) hbl).trans (hc j hlt).1
          have cy : wr.cell? ⟨b, off + (j * 2 + 1), none⟩ = some (.int .i64 (l.getD j (0, 0)).2) := (hB.cell (p := ⟨b, off + (j * 2 + 1), none⟩) hbl).trans (hc j hlt).2
          rw [Nat.add_zero] at cx
          rw [← Nat.add_assoc] at cy
          have hpi := (HG.out _ (mem_at hil)).1
          have t1 : decide (j < i) = true := by simpa using hlt
          have hno := nd_not (l := l) hil
          have hns := nd_snoc hil hnd
          have hnx := met_next l j hil
          generalize l.getD j (0, 0) = m at *
          obtain ⟨x, y⟩ := m
          dsimp only at cx cy hpi hno hnx hns
          simp only [isP, decide_eq_true_eq] at hpi
          have WX := Lib.hid (wf64 (x := x) (by omega) (by omega))
          have HM := Lib.hid (show j < maxLen by unfold maxLen; omega)
          have HS0 := Lib.hid hS
          have HS1 := Lib.hid ((hS.kept (w' := wr.alloc (.cells #[.int .i64 x, .int .i64 y] 108)) (Below.heap_alloc _ _ _ hS.lt)))
          have HS2 := Lib.hid (HS1.out.kept (w' := (wr.alloc (.cells #[.int .i64 x, .int .i64 y] 108)).alloc (.cells #[] 155)) (Below.heap_alloc _ _ _ HS1.out.lt))
          have cg := (HS.out.below ((hB.alloc hB.size (.cells #[.int .i64 x, .int .i64 y] 108)).alloc (by rw [World.size_alloc]; have := hB.size; omega) (.cells #[] 155))).c4
          have HNO := Lib.hid hno
          have HNS := Lib.hid hns
          have HNX := Lib.hid hnx
          have HB := Lib.hid hB
          have HW1 := Lib.hid hw1
          clear hno hnx hns hpi hB hc hil hbl hS hw1 hw2 hnd
          cases hct : ((l.take j).map Prod.fst).contains x with
          | true =>
            have HCT := Lib.hid hct
            clear hct
            go_wp2_with (at_lookup; refine wpList_iset_look _ rfl _ _ 233 rfl 3 155 Tryd.underlying3 Tryd.underlying233 (zero_unitM _) W.heap.size j _ rfl HS1.out x rfl WX.out true HCT.out ?_)
            go_ret
            exact ⟨(HB.out.alloc HB.out.size _).alloc (by rw [World.size_alloc]; have := HB.out.size; omega) _, .inr (.inr ⟨rfl, HG.out, HNO.out HCT.out⟩)⟩
          | false =>
            have HCT := Lib.hid hct
            clear hct
            go_wp2_with (first | (at_lookup; refine wpList_iset_look _ rfl _ _ 233 rfl 3 155 Tryd.underlying3 Tryd.underlying233 (zero_unitM _) W.heap.size j _ rfl HS1.out x rfl WX.out false HCT.out ?_) | (at_mapUpdate; refine wpList_iset_put _ rfl _ _ _ 233 rfl 3 155 Tryd.underlying3 Tryd.underlying233 W.heap.size j _ rfl HS2.out HM.out x rfl WX.out rfl ?_; intro w5 hS5 hT5; replace hS5 := Lib.hid hS5; replace hT5 := Lib.hid hT5))
            go_roundw
            case rel =>
              have hg := hT5.out.grown
              have hz := hg.size
              rw [World.size_alloc, World.size_alloc] at hz
              have hw1 := HW1.out
              have hlt0 := HS0.out.lt
              have hb2 := ((HB.out.alloc HB.out.size (.cells #[.int .i64 x, .int .i64 y] 108)).alloc (by rw [World.size_alloc]; have := HB.out.size; omega) (.cells #[] 155))
              exact ⟨j + 1, by omega, by go_num, HNS.out HCT.out, hS5.out.congr HNX.out, ⟨hg.os.trans hb2.os, hg.tape.trans hb2.tape, hg.output.trans hb2.output, by have := hb2.size; rw [World.size_alloc, World.size_alloc] at this; omega, fun k hk => (hg.block k (by have := HB.out.size; rw [World.size_alloc, World.size_alloc]; omega) (by simp; omega)).trans (hb2.block k hk)⟩, hw1, by omega⟩
            case measure => simp [intOf]; omega
        · obtain rfl : j = i := by omega
          have t1 : decide (j < j) = false := by simp
          have HB := Lib.hid hB
          rw [List.take_of_length_le (by rw [HL.out]; exact Nat.le_refl _)] at hnd
          have HND := Lib.hid hnd
          clear hB hS hnd
          go_wp2_with fail
          go_ret
          exact ⟨HB.out, .inl ⟨rfl, HG.out, HND.out⟩⟩

set_option maxHeartbeats 2000000 in
set_option maxRecDepth 100000 in
theorem cycles_bad (sa : Nat → Addr) (a : Option Addr) (len cap : Nat) (l : List (Int × Int)) (w : World) (S : Sents sa w) (hr : MAny w a len cap l) (hlen : len ≤ 500) (hno : ¬ (l.map Prod.fst).Nodup) :
    Calls Tryd.prog 66 #[.slice a len cap] w fun e w' => e = .returned (.int .i64 0) ∧ Below w.heap.size w w' := by
  have K1 := Lib.hid (may_gen sa a len cap l w S hr hlen)
  unfold MayPost errI at K1
  have HNO := Lib.hid hno
  clear S hr hno
  go_enter Tryd.func66, Tryd.ntmps66
  go_wp2_with (go_at_call 119; refine K1.out.mono ?_; rintro e w1 ⟨hB1, ⟨rfl, _, h⟩ | ⟨rfl, _⟩ | ⟨rfl, _⟩⟩)
  · exact absurd h HNO.out
  all_goals
    replace hB1 := Lib.hid hB1
    clear K1
    go_wp2_with fail
    go_ret
    exact ⟨rfl, hB1.out⟩

/-- What Order tells of at most 500 moves. -/
def OrdQ (sa : Nat → Addr) (l : List (Int × Int)) (spare : Int) (w : World) (e : Ending) (w' : World) : Prop :=
  Below w.heap.size w w' ∧ (((isP spare = false ∨ ¬ GoodP l) ∧ e = .returned (.tuple #[.slice none 0 0, errI sa 2])) ∨
    (isP spare = true ∧ GoodP l ∧ (¬ (l.map Prod.fst).Nodup ∨ ∃ m ∈ l, m.1 = spare ∨ m.2 = spare) ∧ e = .returned (.tuple #[.slice none 0 0, errI sa 4])) ∨
    (isP spare = true ∧ GoodP l ∧ (l.map Prod.fst).Nodup ∧ (∀ m ∈ l, m.1 ≠ spare ∧ m.2 ≠ spare) ∧ ∃ (o : List (Int × Int)) (c : Nat) (v : Value), Told l spare o c ∧ e = .returned (.tuple #[v, .nilIface]) ∧ w'.ownsRow w.heap.size 108 2 v o.length (mvCells o)))

set_option maxHeartbeats 2000000 in
set_option maxRecDepth 100000 in
theorem order_may (sa : Nat → Addr) (a : Option Addr) (len cap : Nat) (l : List (Int × Int)) (spare : Int) (w : World) (S : Sents sa w) (hr : MAny w a len cap l) (hlen : len ≤ 500) (hs : isP spare = true) (hno : ¬ (GoodP l ∧ (l.map Prod.fst).Nodup)) :
    Calls Tryd.prog 64 #[.slice a len cap, .int .i64 spare] w (OrdQ sa l spare w) := by
  have hle := hr.le
  have hmax := hr.max
  unfold maxLen at hmax
  have t0 : decide ((len : Int) > 500) = false := by simp; omega
  have K1 := Lib.hid (place_any spare w)
  rw [hs] at K1
  have K2 := Lib.hid (may_gen sa a len cap l w S hr hlen)
  unfold MayPost errI at K2
  have HNO := Lib.hid hno
  have HS := Lib.hid hs
  clear S hr hs hno
  go_enter Tryd.func64, Tryd.ntmps64
  go_wp2_with (first | (go_at_call 118; refine K1.out.mono ?_; rintro e w' ⟨rfl, rfl⟩) | (go_at_call 119; refine K2.out.mono ?_; rintro e w1 ⟨hB1, ⟨rfl, h1, h2⟩ | ⟨rfl, h1⟩ | ⟨rfl, h1, h2⟩⟩))
  · exact absurd ⟨h1, h2⟩ HNO.out
  · replace hB1 := Lib.hid hB1
    replace h1 := Lib.hid h1
    clear K1 K2
    go_wp2_with fail
    go_ret2
    exact ⟨hB1.out, .inl ⟨.inr h1.out, rfl⟩⟩
  · replace hB1 := Lib.hid hB1
    replace h1 := Lib.hid h1
    replace h2 := Lib.hid h2
    clear K1 K2
    go_wp2_with fail
    go_ret2
    exact ⟨hB1.out, .inr (.inl ⟨HS.out, h1.out, .inl h2.out, rfl⟩)⟩

set_option maxHeartbeats 4000000 in
set_option maxRecDepth 100000 in
theorem order_hit (sa : Nat → Addr) (a : Option Addr) (len cap : Nat) (l : List (Int × Int)) (spare : Int) (w : World) (S : Sents sa w) (hr : MAny w a len cap l) (hlen : len ≤ 500) (hs : isP spare = true) (hp : ∀ m ∈ l, isP m.1 = true ∧ isP m.2 = true) (hnd : (l.map Prod.fst).Nodup) (ht : ∃ m ∈ l, m.1 = spare ∨ m.2 = spare) :
    Calls Tryd.prog 64 #[.slice a len cap, .int .i64 spare] w (OrdQ sa l spare w) := by
  have hle := hr.le
  have hmax := hr.max
  unfold maxLen at hmax
  have t0 : decide ((len : Int) > 500) = false := by simp; omega
  have K1 := Lib.hid (place_any spare w)
  rw [hs] at K1
  have hsb : -2000 ≤ spare ∧ spare ≤ 2000 := by simp [isP] at hs; omega
  have HL := Lib.hid hr.len_eq
  have K2 := Lib.hid (may_ok a len cap l w hr hlen hp hnd)
  have HR := Lib.hid hr
  have HP := Lib.hid hp
  have HO := Lib.hid ht
  have HS := Lib.hid S
  have HSB := Lib.hid hsb
  have HIS := Lib.hid hs
  clear S hr hs hp hnd ht hsb
  go_enter Tryd.func64, Tryd.ntmps64
  go_wp2_with (first | (go_at_call 118; refine K1.out.mono ?_; rintro e w' ⟨rfl, rfl⟩) | (go_at_call 119; refine K2.out.mono ?_; rintro e w1 ⟨rfl, hB1⟩))
  have R0 : Hid (HitRel len l spare w (.int .i64 0) w1) := Lib.hid ⟨0, Nat.zero_le _, rfl, fun j hj => absurd hj (Nat.not_lt_zero _), hB1⟩
  clear hB1 K1 K2
  go_loopw [26] (fun si wr => HitRel len l spare w si wr) (fun si _ => len - (intOf si).toNat)
  case atStart => exact R0.out
  case round =>
    clear R0
    obtain ⟨i, hi, rfl, hno, hB⟩ := hrel
    by_cases hlt : i < len
    · obtain ⟨b, off, rfl, hbl, hc⟩ := HR.out.at_ (by omega)
      have hil : i < l.length := by rw [HL.out]; exact hlt
      have cx : wr.cell? ⟨b, off + (i * 2 + 0), none⟩ = some (.int .i64 (l.getD i (0, 0)).1) := (hB.cell (p := ⟨b, off + (i * 2 + 0), none⟩) hbl).trans (hc i hlt).1
      have cy : wr.cell? ⟨b, off + (i * 2 + 1), none⟩ = some (.int .i64 (l.getD i (0, 0)).2) := (hB.cell (p := ⟨b, off + (i * 2 + 1), none⟩) hbl).trans (hc i hlt).2
      rw [Nat.add_zero] at cx
      rw [← Nat.add_assoc] at cy
      have t1 : decide (i < len) = true := by simpa using hlt
      have hmem := mem_at hil
      have hno' : ∀ q, q = l.getD i (0, 0) → q.1 ≠ spare ∧ q.2 ≠ spare → ∀ j, j < i + 1 → (l.getD j (0, 0)).1 ≠ spare ∧ (l.getD j (0, 0)).2 ≠ spare := fun q hq h j hj => by
        by_cases e : j = i
        · subst e; rw [← hq]; exact h
        · exact hno j (by omega)
      have HNO' : Hid (∀ q, q = l.getD i (0, 0) → q.1 ≠ spare ∧ q.2 ≠ spare → ∀ j, j < i + 1 → (l.getD j (0, 0)).1 ≠ spare ∧ (l.getD j (0, 0)).2 ≠ spare) := Lib.hid hno'
      clear hno' hno
      generalize hm : l.getD i (0, 0) = m at cx cy hmem
      have HM := Lib.hid hm
      obtain ⟨x, y⟩ := m
      dsimp only at cx cy
      have cg := (HS.out.below ((hB.alloc hB.size (.cells #[.int .i64 x, .int .i64 y] 108)))).c4
      have HB := Lib.hid hB
      have HMEM := Lib.hid hmem
      clear hc hB hil hbl hm hmem
      by_cases hx : x = spare
      · have t2 : (x == spare) = true := by simpa using hx
        have HX := Lib.hid hx
        clear hx
        go_wp2_with fail
        go_quiet (fail)
        all_goals go_wp2_with fail
        all_goals go_ret2
        all_goals exact ⟨below_drewN (HB.out.alloc HB.out.size _) _, .inr (.inl ⟨HIS.out, HP.out, .inr HO.out, rfl⟩)⟩
      · have t2 : (x == spare) = false := by simpa using hx
        by_cases hy : y = spare
        · have t3 : (y == spare) = true := by simpa using hy
          have HY := Lib.hid hy
          clear hx hy
          go_wp2_with fail
          go_quiet (fail)
          all_goals go_wp2_with fail
          all_goals go_ret2
          all_goals exact ⟨below_drewN (HB.out.alloc HB.out.size _) _, .inr (.inl ⟨HIS.out, HP.out, .inr HO.out, rfl⟩)⟩
        · have t3 : (y == spare) = false := by simpa using hy
          have HXY := Lib.hid (And.intro hx hy)
          clear hx hy
          go_wp2_with fail
          go_roundw
          case rel => exact ⟨i + 1, by omega, by go_num, HNO'.out _ HM.out.symm HXY.out, HB.out.alloc HB.out.size _⟩
          case measure => simp [intOf]; omega
    · obtain rfl : i = len := by omega
      have t1 : decide (i < i) = false := by simp
      exfalso
      obtain ⟨m, hm, hq⟩ := HO.out
      obtain ⟨j, hj, rfl⟩ := List.getElem_of_mem hm
      have h2 := hno j (by rw [← HL.out]; exact hj)
      rw [show l.getD j (0, 0) = l[j] by simp [List.getD, hj]] at h2
      rcases hq with q | q
      · exact h2.1 q
      · exact h2.2 q

theorem order_gen (sa : Nat → Addr) (a : Option Addr) (len cap : Nat) (l : List (Int × Int)) (spare : Int) (w : World) (S : Sents sa w) (hr : MAny w a len cap l) (hlen : len ≤ 500) :
    Calls Tryd.prog 64 #[.slice a len cap, .int .i64 spare] w (OrdQ sa l spare w) := by
  cases hs : isP spare with
  | false =>
    refine (order_spare sa a len cap spare w S hlen hr.le hr.max hs).mono ?_
    rintro e w' ⟨rfl, hb⟩
    exact ⟨hb, .inl ⟨.inl hs, rfl⟩⟩
  | true =>
    by_cases hg : GoodP l ∧ (l.map Prod.fst).Nodup
    · by_cases hf : ∀ m ∈ l, m.1 ≠ spare ∧ m.2 ≠ spare
      · obtain ⟨o, c, ho, T⟩ := order_told l spare hg.2 (fun m hm => (hf m hm).1)
        refine (order_go sa a len cap l spare o c w S hr hlen hs hg.1 hg.2 ho).mono ?_
        rintro e w' (⟨⟨m, hm, hq⟩, rfl, hb⟩ | ⟨hno, v, rfl, hown, hb⟩)
        · exact ⟨hb, .inr (.inl ⟨hs, hg.1, .inr ⟨m, hm, hq⟩, rfl⟩)⟩
        · exact ⟨hb, .inr (.inr ⟨hs, hg.1, hg.2, hno, o, c, v, T, rfl, hown⟩)⟩
      · refine order_hit sa a len cap l spare w S hr hlen hs hg.1 hg.2 ?_
        refine Classical.byContradiction fun hno => hf fun m hm => ⟨fun e => hno ⟨m, hm, .inl e⟩, fun e => hno ⟨m, hm, .inr e⟩⟩
    · exact order_may sa a len cap l spare w S hr hlen hs hg

end Go.Proofs.YtflbjfcmnopfaaaDoor

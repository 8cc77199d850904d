/-
  MovesAtOnce: the law's walk.
-/
import Derived.Test.YtflbjfcmnopfaaaDoorMvJ
import Derived.Deep.Light
namespace Go.Proofs.YtflbjfcmnopfaaaDoor
open Go.RowKit

theorem bad_iff (p q : Bool) : (!(p && q)) = true ↔ ¬ (p = true ∧ q = true) := by cases p <;> cases q <;> simp

theorem isP_lo {x : Int} (h : x < -1000) : isP x = false := by simp [isP]; omega
theorem isP_hi {x : Int} (h : x > 1000) : isP x = false := by simp [isP]; omega
theorem isP_in {x : Int} (h : ¬ x < -1000) (g : ¬ x > 1000) : isP x = true := by simp [isP]; omega
def badB (X : Bool) (x y : Int) : Bool := X || !(isP x && isP y)
theorem badB_x {X : Bool} {x y : Int} (h : isP x = false) : badB X x y = true := by simp [badB, h]
theorem badB_y {X : Bool} {x y : Int} (h : isP y = false) : badB X x y = true := by simp [badB, h]
theorem badB_no {x y : Int} (h : isP x = true) (g : isP y = true) : badB false x y = false := by simp [badB, h, g]
def hitB (Y : Bool) (x y s : Int) : Bool := Y || (x == s || y == s)
theorem hitB_t (x y s : Int) : hitB true x y s = true := rfl
theorem hitB_x {x y s : Int} (h : (x == s) = true) : hitB false x y s = true := by simp [hitB, h]
theorem hitB_y {x y s : Int} (h : (x == s) = false) (g : (y == s) = true) : hitB false x y s = true := by simp [hitB, h, g]
theorem hitB_no {x y s : Int} (h : (x == s) = false) (g : (y == s) = false) : hitB false x y s = false := by simp [hitB, h, g]

theorem l1X {l : List (Int × Int)} {i : Nat} {X : Bool} {spare : Int} (hX : X = true ↔ (isP spare = false ∨ ∃ j, j < i ∧ ¬ (isP (l.getD j (0, 0)).1 = true ∧ isP (l.getD j (0, 0)).2 = true))) (m : Int × Int) (hm : l.getD i (0, 0) = m) :
    badB X m.1 m.2 = true ↔ (isP spare = false ∨ ∃ j, j < i + 1 ∧ ¬ (isP (l.getD j (0, 0)).1 = true ∧ isP (l.getD j (0, 0)).2 = true)) := by
  unfold badB
  rw [Bool.or_eq_true, hX]
  constructor
  · rintro ((h | ⟨j, hj, h⟩) | h)
    · exact .inl h
    · exact .inr ⟨j, by omega, h⟩
    · exact .inr ⟨i, by omega, by rw [hm]; exact (bad_iff _ _).1 h⟩
  · rintro (h | ⟨j, hj, h⟩)
    · exact .inl (.inl h)
    · by_cases q : j = i
      · subst q; rw [hm] at h; exact .inr ((bad_iff _ _).2 h)
      · exact .inl (.inr ⟨j, by omega, h⟩)
theorem l1Y {l : List (Int × Int)} {i : Nat} {Y : Bool} {spare : Int} (hY : Y = true ↔ ∃ j, j < i ∧ ((l.getD j (0, 0)).1 = spare ∨ (l.getD j (0, 0)).2 = spare)) (m : Int × Int) (hm : l.getD i (0, 0) = m) :
    hitB Y m.1 m.2 spare = true ↔ ∃ j, j < i + 1 ∧ ((l.getD j (0, 0)).1 = spare ∨ (l.getD j (0, 0)).2 = spare) := by
  unfold hitB
  rw [Bool.or_eq_true, hY]
  constructor
  · rintro (⟨j, hj, h⟩ | h)
    · exact ⟨j, by omega, h⟩
    · exact ⟨i, by omega, by rw [hm]; simpa using h⟩
  · rintro ⟨j, hj, h⟩
    by_cases q : j = i
    · subst q; rw [hm] at h; exact .inr (by simpa using h)
    · exact .inl ⟨j, by omega, h⟩
theorem l1Z {l : List (Int × Int)} {i : Nat} {Z : Bool} (hZ : Z = true ↔ ∃ j, j < i ∧ ∃ k, k < j ∧ (l.getD k (0, 0)).1 = (l.getD j (0, 0)).1) (m : Int × Int) (hm : l.getD i (0, 0) = m) (Z' : Bool) (hz : Z' = true ↔ (Z = true ∨ ∃ q, q < i ∧ (l.getD q (0, 0)).1 = m.1)) :
    Z' = true ↔ ∃ j, j < i + 1 ∧ ∃ k, k < j ∧ (l.getD k (0, 0)).1 = (l.getD j (0, 0)).1 := by
  rw [hz, hZ]
  constructor
  · rintro (⟨j, hj, h⟩ | ⟨q, hq, h⟩)
    · exact ⟨j, by omega, h⟩
    · exact ⟨i, by omega, q, hq, by rw [hm]; exact h⟩
  · rintro ⟨j, hj, k, hk, h⟩
    by_cases q : j = i
    · subst q; rw [hm] at h; exact .inr ⟨k, hk, h⟩
    · exact .inl ⟨j, by omega, k, hk, h⟩
theorem l1In {l : List (Int × Int)} {k : Nat} {Z Z' : Bool} {x : Int} (hz : Z' = true ↔ (Z = true ∨ ∃ q, q < k ∧ (l.getD q (0, 0)).1 = x)) (v : Int) (hv : (l.getD k (0, 0)).1 = v) :
    (Z' || v == x) = true ↔ (Z = true ∨ ∃ q, q < k + 1 ∧ (l.getD q (0, 0)).1 = x) := by
  rw [Bool.or_eq_true, hz]
  constructor
  · rintro ((h | ⟨q, hq, h⟩) | h)
    · exact .inl h
    · exact .inr ⟨q, by omega, h⟩
    · exact .inr ⟨k, by omega, by rw [hv]; simpa using h⟩
  · rintro (h | ⟨q, hq, h⟩)
    · exact .inl (.inl h)
    · by_cases e : q = k
      · subst e; rw [hv] at h; exact .inr (by simpa using h)
      · exact .inl (.inr ⟨q, by omega, h⟩)

theorem bad_ex {l : List (Int × Int)} (h : ¬ GoodP l) : ∃ j, j < l.length ∧ ¬ (isP (l.getD j (0, 0)).1 = true ∧ isP (l.getD j (0, 0)).2 = true) :=
  Classical.byContradiction fun hno => h (good_all fun j hj => Classical.byContradiction fun hb => hno ⟨j, hj, hb⟩)
theorem nd_of {l : List (Int × Int)} (h : ∀ j, j < l.length → ∀ k, k < j → (l.getD k (0, 0)).1 ≠ (l.getD j (0, 0)).1) : (l.map Prod.fst).Nodup := by
  refine List.pairwise_iff_getElem.2 fun i j hi hj hij e => ?_
  simp at hi hj
  refine h j hj i hij ?_
  simpa [List.getD, hi, hj] using e
theorem dup_ex {l : List (Int × Int)} (h : ¬ (l.map Prod.fst).Nodup) : ∃ j, j < l.length ∧ ∃ k, k < j ∧ (l.getD k (0, 0)).1 = (l.getD j (0, 0)).1 :=
  Classical.byContradiction fun hno => h (nd_of fun j hj k hk e => hno ⟨j, hj, k, hk, e⟩)
theorem ex_dup {l : List (Int × Int)} (h : ∃ j, j < l.length ∧ ∃ k, k < j ∧ (l.getD k (0, 0)).1 = (l.getD j (0, 0)).1) : ¬ (l.map Prod.fst).Nodup := fun hn => by
  obtain ⟨j, hj, k, hk, e⟩ := h
  have := nd_index hn (show k < l.length by omega) hj e
  omega
theorem hit_ex {l : List (Int × Int)} {spare : Int} : (∃ m ∈ l, m.1 = spare ∨ m.2 = spare) ↔ ∃ j, j < l.length ∧ ((l.getD j (0, 0)).1 = spare ∨ (l.getD j (0, 0)).2 = spare) := by
  constructor
  · rintro ⟨m, hm, h⟩
    obtain ⟨j, hj, rfl⟩ := List.getElem_of_mem hm
    exact ⟨j, hj, by rw [show l.getD j (0, 0) = l[j] by simp [List.getD, hj]]; exact h⟩
  · rintro ⟨j, hj, h⟩
    exact ⟨_, mem_at hj, h⟩
theorem bool_false {b : Bool} {P : Prop} (h : b = true ↔ P) (hn : ¬ P) : b = false := by
  cases b
  · rfl
  · exact absurd (h.1 rfl) hn

def L1 (l : List (Int × Int)) (len : Nat) (spare : Int) (W : World) (s13 s10 s11 s12 : Value) (wr : World) : Prop :=
  ∃ (i : Nat) (X Y Z : Bool), i ≤ len ∧ s13 = .int .i64 i ∧ s10 = .bool X ∧ s11 = .bool Y ∧ s12 = .bool Z ∧
    (X = true ↔ (isP spare = false ∨ ∃ j, j < i ∧ ¬ (isP (l.getD j (0, 0)).1 = true ∧ isP (l.getD j (0, 0)).2 = true))) ∧
    (Y = true ↔ ∃ j, j < i ∧ ((l.getD j (0, 0)).1 = spare ∨ (l.getD j (0, 0)).2 = spare)) ∧
    (Z = true ↔ ∃ j, j < i ∧ ∃ k, k < j ∧ (l.getD k (0, 0)).1 = (l.getD j (0, 0)).1) ∧ Below W.heap.size W wr

def L1In (l : List (Int × Int)) (i : Nat) (x : Int) (Z : Bool) (W2 : World) (s15 s12 : Value) (wr : World) : Prop :=
  ∃ (k : Nat) (Z' : Bool), k ≤ i ∧ s15 = .int .i64 k ∧ s12 = .bool Z' ∧ (Z' = true ↔ (Z = true ∨ ∃ q, q < k ∧ (l.getD q (0, 0)).1 = x)) ∧ ∃ n, wr = W2.drewN n

def WantRel (l : List (Int × Int)) (len c : Nat) (W : World) (s18 s17 : Value) (wr : World) : Prop :=
  ∃ k : Nat, k ≤ len ∧ s18 = .int .i64 k ∧ s17 = .int .i64 (c + goF l k : Nat) ∧ ∃ q, wr = W.drewN q

def DoneU (out : List (Int × Int)) (n : Nat) (spare : Int) (W : World) (s21 s19 s20 : Value) (wr : World) : Prop :=
  ∃ (k : Nat) (ks : List (Int × Int)) (bs : List Nat) (U : Bool), k ≤ n ∧ s21 = .int .i64 k ∧ s20 = .bool U ∧ KV W.heap.size bs s19 ks wr ∧ ks.length ≤ k ∧ (∀ q, look ks q = valM (out.take k) q) ∧ (ks.map Prod.fst).Nodup ∧ (U = true ↔ ∃ m ∈ out.take k, m.1 = spare) ∧ Below W.heap.size W wr

theorem uvalM_take {out : List (Int × Int)} {k : Nat} (h : k < out.length) : ∀ q, valM (out.take (k + 1)) q = upd (valM (out.take k)) (out.getD k (0, 0)).1 (valM (out.take k) (out.getD k (0, 0)).2) q := fun q => by
  rw [take_next out k h]
  exact congrFun (valM_next (out.take k) (out.getD k (0, 0)).1 (out.getD k (0, 0)).2) q
theorem used_next {out : List (Int × Int)} {k : Nat} (hk : k < out.length) {U : Bool} {spare : Int} (hU : U = true ↔ ∃ m ∈ out.take k, m.1 = spare) (m : Int × Int) (hm : out.getD k (0, 0) = m) : (U || m.1 == spare) = true ↔ ∃ m ∈ out.take (k + 1), m.1 = spare := by
  rw [take_next out k hk, hm, Bool.or_eq_true, hU]
  constructor
  · rintro (⟨q, hq, e⟩ | e)
    · exact ⟨q, List.mem_append_left _ hq, e⟩
    · exact ⟨m, List.mem_append_right _ (by simp), by simpa using e⟩
  · rintro ⟨q, hq, e⟩
    rcases List.mem_append.1 hq with h | h
    · exact .inl ⟨q, h, e⟩
    · simp at h
      subst h
      exact .inr (by simpa using e)

theorem far_of {l : List (Int × Int)} {Z' : Bool} {x spare : Int} (hz : Z' = true ↔ ((x == spare) = true ∨ ∃ q, q < l.length ∧ (l.getD q (0, 0)).1 = x)) (h : Z' = false) : x ∉ l.map Prod.fst ∧ x ≠ spare := by
  subst h
  refine ⟨fun hm => ?_, fun e => ?_⟩
  · obtain ⟨m, hm2, e⟩ := List.mem_map.1 hm
    obtain ⟨q, hq, e2⟩ := List.getElem_of_mem hm2
    exact absurd (hz.2 (.inr ⟨q, hq, by rw [← e, ← e2]; simp [List.getD, hq]⟩)) (by decide)
  · exact absurd (hz.2 (.inl (by simpa using e))) (by decide)

set_option maxHeartbeats 16000000 in
set_option maxRecDepth 100000 in
theorem once_main (sa : Nat → Addr) (a : Option Addr) (len cap : Nat) (l : List (Int × Int)) (spare : Int) (ka : Option Addr) (kn kc : Nat) (ks0 : List Int) (w : World) (S : Sents sa w) (hr : MAny w a len cap l) (hlen : len ≤ 60) (hka : Row .i64 w ka kn kc ks0) (hk : kn ≤ 40) :
    Calls Tryd.prog 13 #[.slice a len cap, .int .i64 spare, .slice ka kn kc] w (TruePost w) := by
  have hle := hr.le
  have hmax := hr.max
  have hkle := hka.le
  have hkmax := hka.max
  have t1 : decide ((len : Int) > 60) = false := by simp; omega
  have t3 : decide ((len : Int) > 600) = false := by simp; omega
  have t4 : decide ((kn : Int) > 40) = false := by simp; omega
  have t5 : decide ((len : Int) > 500) = false := by simp; omega
  have KO := Lib.hid (fun w' (hb : Below w.heap.size w w') => order_gen sa a len cap l spare w' (S.below hb) (hr.below hb) (by omega))
  have KI := Lib.hid (fun w' (hb : Below w.heap.size w w') (m : Nat) (hm : m < 14) => is_plain sa m w' (S.below hb) hm)
  have HS := Lib.hid S
  have HR := Lib.hid hr
  have HKA := Lib.hid hka
  have HL := Lib.hid hr.len_eq
  unfold maxLen at hmax hkmax
  clear S hr hka
  go_enter Tryd.func13, Tryd.ntmps13
  go_wp2_with fail
  refine (mfirstF w).mono ?_
  rintro e w1 ⟨rfl, hB1⟩
  have HB1 := Lib.hid hB1
  clear hB1
  go_wp2_with fail
  refine (KO.out w1 HB1.out).mono ?_
  rintro e w2 hq
  obtain ⟨oa, on, oc, ev, rfl, hB2, hD⟩ := ordD hq
  have HB2 := Lib.hid (HB1.out.trans (hB2.mono HB1.out.size))
  have HD := Lib.hid hD
  clear hB2 hD hq KO
  go_upto_region 7 with (fail)
  obtain ⟨X0, hX0⟩ : ∃ X0, (!isP spare) = X0 := ⟨_, rfl⟩
  have HX0 := Lib.hid hX0
  clear hX0
  go_cut [10] from 69 to 74 (fun s wx => s = .bool X0 ∧ wx = w2)
  case first =>
    by_cases g1 : spare < -1000
    · have u1 : decide (spare < -1000) = true := by simpa using g1
      obtain rfl : X0 = true := HX0.out.symm.trans (by rw [isP_lo g1]; rfl)
      go_wp2_with fail
      go_meet
      exact ⟨rfl, rfl⟩
    · have u1 : decide (spare < -1000) = false := by simpa using g1
      by_cases g2 : spare > 1000
      · have u2 : decide (spare > 1000) = true := by simpa using g2
        obtain rfl : X0 = true := HX0.out.symm.trans (by rw [isP_hi g2]; rfl)
        clear g1
        go_wp2_with fail
        go_meet
        exact ⟨rfl, rfl⟩
      · have u2 : decide (spare > 1000) = false := by simpa using g2
        obtain rfl : X0 = false := HX0.out.symm.trans (by rw [isP_in g1 g2]; rfl)
        clear g1 g2
        go_wp2_with fail
        go_meet
        exact ⟨rfl, rfl⟩
  case rest =>
  obtain ⟨rfl, rfl⟩ := hcut
  obtain ⟨W, rfl⟩ : ∃ W : World, W = wc := ⟨_, rfl⟩
  have R0 : Hid (L1 l len spare W (.int .i64 0) (.bool X0) (.bool false) (.bool false) W) := Lib.hid ⟨0, X0, false, false, Nat.zero_le _, rfl, rfl, rfl, rfl, by rw [← HX0.out]; simp, by simp, by simp, Below.refl _ _⟩
  go_wp2_with fail
  go_loopw [13, 10, 11, 12] (fun s13 s10 s11 s12 wr => L1 l len spare W s13 s10 s11 s12 wr) (fun s13 _ _ _ _ => len - (intOf s13).toNat)
  case atStart => exact R0.out
  case round =>
    clear R0
    obtain ⟨i, X, Y, Z, hi, rfl, rfl, rfl, rfl, hX, hY, hZ, hB⟩ := hrel
    by_cases hlt : i < len
    · have hil : i < l.length := by rw [HL.out]; exact hlt
      have hRW := HR.out.below (HB2.out.trans (hB.mono HB2.out.size))
      obtain ⟨b, off, rfl, hbl, hc⟩ := hRW.at_ (by omega)
      have cx := (hc i hlt).1
      have cy := (hc i hlt).2
      rw [Nat.add_zero] at cx
      rw [← Nat.add_assoc] at cy
      have u1 : decide (i < len) = true := by simpa using hlt
      have HXN := Lib.hid (l1X hX)
      have HYN := Lib.hid (l1Y hY)
      have HZN := Lib.hid (l1Z hZ)
      have HC := Lib.hid hc
      clear hX hY hZ hRW hc
      generalize hmm : l.getD i (0, 0) = m at cx cy
      have HMM := Lib.hid hmm
      clear hmm
      obtain ⟨x, y⟩ := m
      dsimp only at cx cy
      have HB := Lib.hid hB
      clear hB
      obtain ⟨w5, hw5⟩ : ∃ w5 : World, wr = w5 := ⟨_, rfl⟩
      subst hw5
      go_upto_region 14 with (fail)
      obtain ⟨X', hX'⟩ : ∃ X', badB X x y = X' := ⟨_, rfl⟩
      have HX' := Lib.hid hX'
      clear hX'
      have c0 := cell_of_row (wr.alloc (.cells #[.int .i64 x, .int .i64 y] 108)) wr.heap.size 0 _ 108 (0, 0) (heap_alloc_new _ _)
      have c1 := cell_of_row (wr.alloc (.cells #[.int .i64 x, .int .i64 y] 108)) wr.heap.size 1 _ 108 (0, 0) (heap_alloc_new _ _)
      obtain ⟨W2, hW2⟩ : ∃ W2, wr.alloc (.cells #[.int .i64 x, .int .i64 y] 108) = W2 := ⟨_, rfl⟩
      rw [hW2] at c0 c1
      have c0 : W2.cell? ⟨wr.heap.size, 0, none⟩ = some (.int .i64 x) := c0
      have c1 : W2.cell? ⟨wr.heap.size, 1, none⟩ = some (.int .i64 y) := c1
      have HW2 := Lib.hid hW2
      go_cut [10] from 85 to 105 (fun s wx => s = .bool X' ∧ wx = W2)
      case first =>
        cases X with
        | true =>
          obtain rfl : X' = true := HX'.out.symm.trans rfl
          go_wp2_with fail
          go_meet
          first | exact ⟨rfl, HW2.out⟩ | exact ⟨rfl, rfl⟩
        | false =>
          by_cases g1 : x < -1000
          · have v1 : decide (x < -1000) = true := by simpa using g1
            obtain rfl : X' = true := HX'.out.symm.trans (badB_x (isP_lo g1))
            go_wp2_with fail
            go_meet
            first | exact ⟨rfl, HW2.out⟩ | exact ⟨rfl, rfl⟩
          · have v1 : decide (x < -1000) = false := by simpa using g1
            by_cases g2 : x > 1000
            · have v2 : decide (x > 1000) = true := by simpa using g2
              obtain rfl : X' = true := HX'.out.symm.trans (badB_x (isP_hi g2))
              clear g1
              go_wp2_with fail
              go_meet
              first | exact ⟨rfl, HW2.out⟩ | exact ⟨rfl, rfl⟩
            · have v2 : decide (x > 1000) = false := by simpa using g2
              by_cases g3 : y < -1000
              · have v3 : decide (y < -1000) = true := by simpa using g3
                obtain rfl : X' = true := HX'.out.symm.trans (badB_y (isP_lo g3))
                clear g1 g2
                go_wp2_with fail
                go_meet
                first | exact ⟨rfl, HW2.out⟩ | exact ⟨rfl, rfl⟩
              · have v3 : decide (y < -1000) = false := by simpa using g3
                by_cases g4 : y > 1000
                · have v4 : decide (y > 1000) = true := by simpa using g4
                  obtain rfl : X' = true := HX'.out.symm.trans (badB_y (isP_hi g4))
                  clear g1 g2 g3
                  go_wp2_with fail
                  go_meet
                  first | exact ⟨rfl, HW2.out⟩ | exact ⟨rfl, rfl⟩
                · have v4 : decide (y > 1000) = false := by simpa using g4
                  obtain rfl : X' = false := HX'.out.symm.trans (badB_no (isP_in g1 g2) (isP_in g3 g4))
                  clear g1 g2 g3 g4
                  go_wp2_with fail
                  go_meet
                  first | exact ⟨rfl, HW2.out⟩ | exact ⟨rfl, rfl⟩
      case rest =>
      obtain ⟨rfl, rfl⟩ := hcut
      go_upto_region 15 with (fail)
      obtain ⟨Y', hY'⟩ : ∃ Y', hitB Y x y spare = Y' := ⟨_, rfl⟩
      have HY' := Lib.hid hY'
      clear hY'
      go_cut [11] from 106 to 118 (fun s wx => s = .bool Y' ∧ wx = wc)
      case first =>
        cases Y with
        | true =>
          obtain rfl : Y' = true := HY'.out.symm.trans (hitB_t _ _ _)
          go_wp2_with fail
          go_meet
          exact ⟨rfl, rfl⟩
        | false =>
          cases v1 : x == spare with
          | true =>
            obtain rfl : Y' = true := HY'.out.symm.trans (hitB_x v1)
            go_wp2_with fail
            go_meet
            exact ⟨rfl, rfl⟩
          | false =>
            cases v2 : y == spare with
            | true =>
              obtain rfl : Y' = true := HY'.out.symm.trans (hitB_y v1 v2)
              go_wp2_with fail
              go_meet
              exact ⟨rfl, rfl⟩
            | false =>
              obtain rfl : Y' = false := HY'.out.symm.trans (hitB_no v1 v2)
              go_wp2_with fail
              go_meet
              exact ⟨rfl, rfl⟩
      case rest =>
      obtain ⟨rfl, rfl⟩ := hcut
      obtain ⟨W4, rfl⟩ : ∃ W4 : World, W4 = wc := ⟨_, rfl⟩
      have I0 : Hid (L1In l i x Z W4 (.int .i64 0) (.bool Z) W4) := Lib.hid ⟨0, Z, Nat.zero_le _, rfl, rfl, by simp, 0, rfl⟩
      have HB4 : Hid (Below W.heap.size W W4) := Lib.hid (by rw [← HW2.out]; exact HB.out.alloc HB.out.size _)
      have HCB : Hid (∀ j, j < len → W4.cell? ⟨b, off + j * 2, none⟩ = some (.int .i64 (l.getD j (0, 0)).1)) := Lib.hid fun j hj => by
        have h1 := (HC.out j hj).1
        rw [Nat.add_zero] at h1
        rw [← HW2.out]
        exact (World.grownBy_alloc wr _ none).cell h1 (by simp)
      clear cx cy
      go_wp2_with fail
      go_loopw [15, 12] (fun s15 s12 wr' => L1In l i x Z W4 s15 s12 wr') (fun s15 _ _ => i - (intOf s15).toNat)
      case atStart => exact I0.out
      case round =>
        clear I0
        obtain ⟨k, Z', hk, rfl, rfl, hz, qn, rfl⟩ := hrel
        by_cases hki : k < i
        · have u2 : decide (k < i) = true := by simpa using hki
          have ck := HCB.out k (by omega)
          have hzn := l1In hz
          generalize hvv : (l.getD k (0, 0)).1 = v at *
          have HZ2 := Lib.hid (hzn v rfl)
          clear hzn hz hvv
          cases Z' with
          | true =>
            go_wp2_with fail
            go_quiet (fail)
            all_goals
              go_wp2_with fail
              go_roundw
              case rel => go_light; exact ⟨k + 1, true, by omega, by go_num, rfl, HZ2.out, _, rfl⟩
              case measure => go_light; simp [intOf]; omega
          | false =>
            obtain ⟨vb, hvb⟩ : ∃ vb, (v == x) = vb := ⟨_, rfl⟩
            rw [hvb] at HZ2
            go_wp2_with fail
            go_quiet (fail)
            all_goals
              go_wp2_with fail
              go_roundw
              case rel => go_light; exact ⟨k + 1, vb, by omega, by go_num, rfl, HZ2.out, _, rfl⟩
              case measure => go_light; simp [intOf]; omega
        · obtain rfl : k = i := by omega
          have u2 : decide (k < k) = false := by simp
          have HZ2 := Lib.hid hz
          clear hz
          go_wp2_with fail
          go_roundw
          case rel => go_light; exact ⟨k + 1, X', Y', Z', by omega, by go_num, rfl, rfl, rfl, HX'.out ▸ HXN.out _ HMM.out, HY'.out ▸ HYN.out _ HMM.out, HZN.out _ HMM.out Z' HZ2.out, below_drewN HB4.out _⟩
          case measure => go_light; simp [intOf]; omega
    · obtain rfl : i = len := by omega
      have u1 : decide (i < i) = false := by simp
      have BW := Lib.hid (HB2.out.trans (hB.mono HB2.out.size))
      rw [← HL.out] at hX hY hZ
      have hD := HD.out
      unfold OrdD errI at hD
      rcases hD with ⟨h1, hon, hev⟩ | ⟨h1, h2, h3, hon, hev⟩ | ⟨h1, h2, h3, h4, o, c, T, hon, hev, hown⟩
      · obtain rfl : X = true := hX.2 (h1.imp id bad_ex)
        subst hev
        have v1 : ((on : Int) == 0) = true := by simp [hon]
        clear hX hY hZ h1 hon hB HD
        go_wp2_with (go_at_call 65; refine (KI.out _ BW.out 2 (by decide)).mono ?_; rintro e w9 ⟨rfl, hB9⟩; replace hB9 := Lib.hid hB9)
        go_ret
        exact ⟨rfl, BW.out.trans (hB9.out.mono BW.out.size)⟩
      · obtain rfl : X = false := bool_false hX fun h => by
          rcases h with h | ⟨j, hj, h⟩
          · rw [h1] at h; cases h
          · exact h (h2 _ (mem_at hj))
        subst hev
        have v1 : ((on : Int) == 0) = true := by simp [hon]
        have hyz : Y = true ∨ Z = true := by
          rcases h3 with h | h
          · exact .inr (hZ.2 (dup_ex h))
          · exact .inl (hY.2 (hit_ex.1 h))
        have HZ := Lib.hid hZ
        clear hX hY hZ h1 h2 h3 hon hB HD
        cases Z with
        | true =>
          have KC := Lib.hid (fun w' (hb : Below w.heap.size w w') => cycles_bad sa a i cap l w' (HS.out.below hb) (HR.out.below hb) (by omega) (ex_dup (HZ.out.1 rfl)))
          cases Y with
          | true =>
            clear hyz
            go_wp2_with (first | (go_at_call 65; refine (KI.out _ BW.out 4 (by decide)).mono ?_; rintro e w9 ⟨rfl, hB9⟩; replace hB9 := Lib.hid (BW.out.trans (hB9.mono BW.out.size))) | (go_at_call 66; refine (KC.out _ hB9.out).mono ?_; rintro e w8 ⟨rfl, hB8⟩; replace hB8 := Lib.hid hB8))
            go_ret
            exact ⟨rfl, hB9.out.trans (hB8.out.mono hB9.out.size)⟩
          | false =>
            clear hyz
            go_wp2_with (first | (go_at_call 65; refine (KI.out _ BW.out 4 (by decide)).mono ?_; rintro e w9 ⟨rfl, hB9⟩; replace hB9 := Lib.hid (BW.out.trans (hB9.mono BW.out.size))) | (go_at_call 66; refine (KC.out _ hB9.out).mono ?_; rintro e w8 ⟨rfl, hB8⟩; replace hB8 := Lib.hid hB8))
            go_ret
            exact ⟨rfl, hB9.out.trans (hB8.out.mono hB9.out.size)⟩
        | false =>
          obtain rfl : Y = true := by simpa using hyz
          clear hyz
          go_wp2_with (go_at_call 65; refine (KI.out _ BW.out 4 (by decide)).mono ?_; rintro e w9 ⟨rfl, hB9⟩; replace hB9 := Lib.hid hB9)
          go_ret
          exact ⟨rfl, BW.out.trans (hB9.out.mono BW.out.size)⟩
      · obtain rfl : X = false := bool_false hX fun h => by
          rcases h with h | ⟨j, hj, h⟩
          · rw [h1] at h; cases h
          · exact h (h2 _ (mem_at hj))
        obtain rfl : Y = false := bool_false hY fun ⟨j, hj, h⟩ => by
          have := h4 _ (mem_at hj)
          rcases h with h | h
          · exact this.1 h
          · exact this.2 h
        obtain rfl : Z = false := bool_false hZ fun h => ex_dup h h3
        subst hev
        clear hX hY hZ
        have hrc : roundsF l l.length = c := by rw [rounds_cyc h3 _ (Nat.le_refl _), ← T.count]
        have hgo : goF l l.length + c = on := by rw [goF_all h3, hon, T.num]
        obtain ⟨o2, c2, ho2, T2⟩ := order_told l 1001 h3 (fun m hm e => by have := (h2 m hm).1; rw [e] at this; simp [isP] at this)
        have hc2 : c2 = c := by rw [T2.count, T.count]
        rw [HL.out] at hrc hgo
        subst hc2
        have KR := Lib.hid (rounds_any a i cap l wr (HR.out.below BW.out) hlen)
        rw [hrc] at KR
        have KC := Lib.hid (fun w' (hb : Below w.heap.size w w') => cycles_go a i cap l o2 c2 w' (HR.out.below hb) (by omega) h2 h3 ho2)
        have honb : on ≤ 200 := by have := goF_le l i; have := rounds_le l i; omega
        have HG := Lib.hid hgo
        have HT := Lib.hid T
        have HON := Lib.hid hon
        have HOWN := Lib.hid (owns_stays hown fun z _ hz => hB.block z hz)
        have HND := Lib.hid h3
        have HC60 : Hid (c2 ≤ 60) := Lib.hid (by have := rounds_le l i; omega)
        clear h1 h2 h3 h4 T T2 ho2 hon hown hB HD hgo hrc KI HX0
        go_wp2_with (go_at_call 67; refine KR.out.mono ?_; rintro e w9 ⟨rfl, q9, rfl⟩)
        have W0 : Hid (WantRel l i c2 wr (.int .i64 0) (.int .i64 c2) (wr.drewN q9)) := Lib.hid ⟨0, Nat.zero_le _, rfl, rfl, q9, rfl⟩
        clear KR
        go_loopw [18, 17] (fun s18 s17 wx => WantRel l i c2 wr s18 s17 wx) (fun s18 _ _ => i - (intOf s18).toNat)
        case atStart => exact W0.out
        case round =>
          clear W0
          obtain ⟨k, hk, rfl, rfl, qk, rfl⟩ := hrel
          by_cases hlt : k < i
          · have u1 : decide (k < i) = true := by simpa using hlt
            obtain ⟨b, off, rfl, hbl, hc⟩ := (HR.out.below BW.out).at_ (by omega)
            have cx := (hc k hlt).1
            have cy := (hc k hlt).2
            rw [Nat.add_zero] at cx
            rw [← Nat.add_assoc] at cy
            have hgn : goF l (k + 1) = goF l k + (if (l.getD k (0, 0)).1 = (l.getD k (0, 0)).2 then 0 else 1) := rfl
            have hgl := goF_le l k
            have hc60 := HC60.out
            generalize l.getD k (0, 0) = m at *
            obtain ⟨x, y⟩ := m
            dsimp only at cx cy hgn
            have HGN := Lib.hid hgn
            generalize goF l k = gk at *
            clear hc hbl hgn
            by_cases hxy : x = y
            · have v1 : (x != y) = false := by simp [hxy]
              have HXY := Lib.hid hxy
              clear hxy
              go_wp2_with fail
              go_quiet (fail)
              all_goals
                go_wp2_with fail
                go_roundw
                case rel => go_light; exact ⟨k + 1, by omega, by go_num, by rw [HGN.out, if_pos HXY.out]; rfl, _, rfl⟩
                case measure => go_light; simp [intOf]; omega
            · have v1 : (x != y) = true := by simpa using hxy
              have s1 : IntKind.i64.wrap (((c2 + gk : Nat) : Int) + 1) = ((c2 + (gk + 1) : Nat) : Int) := (IntWalk.i64_in _ (by omega)).trans (by omega)
              have s2 : IntKind.i64.wrap ((c2 : Int) + (gk : Int) + 1) = (c2 : Int) + (gk : Int) + 1 := IntWalk.i64_in _ (by omega)
              have HXY := Lib.hid hxy
              clear hxy
              go_wp2_with fail
              go_quiet (fail)
              all_goals
                go_wp2_with fail
                go_roundw
                case rel => go_light; exact ⟨k + 1, by omega, by go_num, by rw [HGN.out, if_neg HXY.out]; go_num, _, rfl⟩
                case measure => go_light; simp [intOf]; omega
          · obtain rfl : k = i := by omega
            have u1 : decide (k < k) = false := by simp
            have hg := HG.out
            have v1 : ((on : Int) != (c2 : Int) + (goF l k : Int)) = false := by simp; omega
            have v2 : ((c2 : Int) != (c2 : Int)) = false := by simp
            have BK := Lib.hid (below_drewN BW.out qk)
            have HO2 : Hid ((wr.drewN qk).ownsRow w1.heap.size 108 2 (.slice oa on oc) on (mvCells o)) := Lib.hid (owns_stays HOWN.out fun k _ hk2 => rfl)
            generalize goF l k = gk at *
            clear hg HG
            go_wp2_with (go_at_call 66; refine (KC.out _ BK.out).mono ?_; rintro e W ⟨rfl, hB8⟩; replace hB8 := Lib.hid hB8)
            obtain ⟨da, dc, hde, hdone⟩ := mrow_own (owns_stays HO2.out fun z _ hz => hB8.out.block z hz)
            obtain ⟨rfl, rfl⟩ : da = oa ∧ dc = oc := by cases hde; exact ⟨rfl, rfl⟩
            have BW8 := Lib.hid (BK.out.trans (hB8.out.mono BK.out.size))
            have HD8 := Lib.hid hdone
            have HR8 := Lib.hid (HR.out.below BW8.out)
            have HA8 := Lib.hid (Row_cells HKA.out BW8.out)
            have D0 : Hid (DoneU o on spare W (.int .i64 0) (.slice none 0 0) (.bool false) W) := Lib.hid ⟨0, [], [], false, Nat.zero_le _, rfl, rfl, KV.nil _ _, Nat.le_refl _, fun q => rfl, List.nodup_nil, by simp, Below.refl _ _⟩
            have hdl := hdone.le
            have hdm := hdone.max
            unfold maxLen at hdm
            clear hB8 hdone hde KC BK HO2 HOWN v1 v2
            go_wp2_with fail
            go_loopw [21, 19, 20] (fun s21 s19 s20 wr => DoneU o on spare W s21 s19 s20 wr) (fun s21 _ _ _ => on - (intOf s21).toNat)
            case atStart => exact D0.out
            case round =>
              clear D0
              obtain ⟨q, ks, bs, U, hq, rfl, rfl, hKV, hkl, hlook, hnd, hU, hB⟩ := hrel
              obtain ⟨ra, rc, rfl⟩ := own_shapeM hKV.own
              by_cases hlt : q < on
              · obtain ⟨bb, off, rfl, hbl, hc⟩ := HD8.out.at_ (by omega)
                have hil : q < o.length := by rw [← HON.out]; exact hlt
                have cx : wr.cell? ⟨bb, off + (q * 2 + 0), none⟩ = some (.int .i64 (o.getD q (0, 0)).1) := (hB.cell (p := ⟨bb, off + (q * 2 + 0), none⟩) hbl).trans (hc q hlt).1
                have cy : wr.cell? ⟨bb, off + (q * 2 + 1), none⟩ = some (.int .i64 (o.getD q (0, 0)).2) := (hB.cell (p := ⟨bb, off + (q * 2 + 1), none⟩) hbl).trans (hc q hlt).2
                rw [Nat.add_zero] at cx
                rw [← Nat.add_assoc] at cy
                have t1 : decide (q < on) = true := by simpa using hlt
                have hvt := uvalM_take hil
                have hun := used_next hil hU
                generalize o.getD q (0, 0) = m at *
                have HUN := Lib.hid (hun m rfl)
                obtain ⟨x, y⟩ := m
                dsimp only at cx cy hvt
                have KA := Lib.hid (fun n => at_any ra ks.length rc ks y (wr.drewN n) (hKV.kept fun _ _ => rfl))
                have KP := Lib.hid (fun n => put_nd ra ks.length rc ks x (look ks y) (wr.drewN n) (hKV.kept fun _ _ => rfl) hB.size (by omega) hnd)
                have HLK := Lib.hid hlook
                have HVT := Lib.hid hvt
                have HB := Lib.hid hB
                have HKL := Lib.hid hkl
                have HCX := Lib.hid cx
                have HBL := Lib.hid (show bb < W.heap.size from hbl)
                clear hc hvt hKV hkl hlook hB hbl hun hnd hU
                go_wp2_with fail
                go_region_with (first | (go_at_call 69; refine (KA.out _).mono ?_; rintro e w' ⟨rfl, rfl⟩) | (go_at_call 68; refine (KP.out _).mono ?_; rintro e w9 ⟨v9, ks9, bs9, rfl, hKV9, hlk9, hkl9, hnd9, _, hB9⟩))
                all_goals
                  have HN9 : Hid (∀ z, look ks9 z = valM (o.take (q + 1)) z) := Lib.hid fun z => by
                    rw [hlk9 z, HVT.out z, show look ks = valM (o.take q) from funext HLK.out]
                  have HK9 := Lib.hid hKV9
                  have HB9 := Lib.hid ((below_drewN HB.out _).trans hB9)
                  obtain ⟨ra9, rc9, rfl⟩ := own_shapeM hKV9.own
                  have HL9 := Lib.hid hkl9
                  have HND9 := Lib.hid hnd9
                  have cz : w9.cell? ⟨bb, off + q * 2, none⟩ = some (.int .i64 x) := (hB9.cell (p := ⟨bb, off + q * 2, none⟩) HBL.out).trans HCX.out
                  clear hlk9 hKV9 hB9 hkl9 hnd9 cx cy
                  cases U with
                  | true =>
                    go_wp2_with fail
                    go_roundw
                    case rel => go_light; exact ⟨q + 1, ks9, bs9, true, by omega, by go_num, rfl, HK9.out, by have := HL9.out; have := HKL.out; omega, HN9.out, HND9.out, HUN.out, HB9.out⟩
                    case measure => go_light; simp [intOf]; omega
                  | false =>
                    obtain ⟨vb, hvb⟩ : ∃ vb, (x == spare) = vb := ⟨_, rfl⟩
                    rw [hvb] at HUN
                    go_wp2_with fail
                    go_roundw
                    case rel => go_light; exact ⟨q + 1, ks9, bs9, vb, by omega, by go_num, rfl, HK9.out, by have := HL9.out; have := HKL.out; omega, HN9.out, HND9.out, HUN.out, HB9.out⟩
                    case measure => go_light; simp [intOf]; omega
              · obtain rfl : q = on := by omega
                obtain ⟨W4, rfl⟩ : ∃ W4 : World, W4 = wr := ⟨_, rfl⟩
                have t1 : decide (q < q) = false := by simp
                rw [List.take_of_length_le (by rw [← HON.out]; exact Nat.le_refl _)] at hlook hU
                have HKV := Lib.hid hKV
                have HLK := Lib.hid hlook
                have HB := Lib.hid hB
                have HU := Lib.hid (hU.trans HT.out.used)
                have HKN := Lib.hid hnd
                have HKL := Lib.hid hkl
                have C0 : Hid (PlRel k W4 (.int .i64 0) W4) := Lib.hid ⟨0, Nat.zero_le _, rfl, Below.refl _ _⟩
                have HR9 := Lib.hid (HR8.out.below hB)
                have HA9 := Lib.hid (Row_cells HA8.out hB)
                have BW9 := Lib.hid (BW8.out.trans (hB.mono BW8.out.size))
                clear hKV hlook hB hU hnd hkl HR8 HA8 HD8 BW8
                go_wp2_with fail
                go_loopw [22] (fun s22 wr => PlRel k W4 s22 wr) (fun s22 _ => k - (intOf s22).toNat)
                case atStart => exact C0.out
                case round =>
                  clear C0
                  obtain ⟨j, hj, rfl, hB⟩ := hrel
                  have hkv := HKV.out.kept (w' := wr) (fun z hz => hB.block z hz)
                  by_cases hlt : j < k
                  · obtain ⟨bb, off, rfl, hbl, hc⟩ := (HR9.out.below hB).at_ (by omega)
                    have cx := (hc j hlt).1
                    have cy := (hc j hlt).2
                    rw [Nat.add_zero] at cx
                    rw [← Nat.add_assoc] at cy
                    have t1 : decide (j < k) = true := by simpa using hlt
                    have hv := (HLK.out _).trans (HT.out.val _ (mem_at (l := l) (i := j) (by rw [HL.out]; exact hlt)))
                    generalize l.getD j (0, 0) = m at *
                    obtain ⟨x, y⟩ := m
                    dsimp only at cx cy hv
                    have KA := Lib.hid (fun n => at_any ra ks.length rc ks x (wr.drewN n) (hkv.kept fun _ _ => rfl))
                    rw [hv] at KA
                    have HB2 := Lib.hid hB
                    have t5 : (y != y) = false := by simp
                    clear hc hv hkv hB hbl
                    go_wp2_with fail
                    go_region_with (go_at_call 69; refine (KA.out _).mono ?_; rintro e w' ⟨rfl, rfl⟩)
                    all_goals
                      go_wp2_with fail
                      go_roundw
                      case rel => go_light; exact ⟨j + 1, by omega, by go_num, below_drewN HB2.out _⟩
                      case measure => go_light; simp [intOf]; omega
                  · obtain rfl : j = k := by omega
                    obtain ⟨W6, rfl⟩ : ∃ W6 : World, W6 = wr := ⟨_, rfl⟩
                    have t1 : decide (j < j) = false := by simp
                    have HKV6 := Lib.hid hkv
                    have HR6 := Lib.hid (HR9.out.below hB)
                    have HA6 := Lib.hid (Row_cells HA9.out hB)
                    have BW6 := Lib.hid (BW9.out.trans (hB.mono BW9.out.size))
                    have E0 : Hid (PlRel ks.length W6 (.int .i64 0) W6) := Lib.hid ⟨0, Nat.zero_le _, rfl, Below.refl _ _⟩
                    have hkl9 := HKL.out
                    clear hkv hB HR9 HA9 BW9 HKV
                    go_wp2_with fail
                    go_loopw [23] (fun s23 wr => PlRel ks.length W6 s23 wr) (fun s23 _ => ks.length - (intOf s23).toNat)
                    case atStart => exact E0.out
                    case round =>
                      clear E0
                      obtain ⟨z, hz, rfl, hB⟩ := hrel
                      have hkv := HKV6.out.kept (w' := wr) (fun z hz => hB.block z hz)
                      by_cases hlt : z < ks.length
                      · have u1 : decide (z < ks.length) = true := by simpa using hlt
                        obtain ⟨gg, bb, rfl, _, _, _, _, cr, c0, c1⟩ := hkv.cells hlt
                        have hlo := look_own ks HKN.out z hlt
                        generalize ks.getD z (0, 0) = m at *
                        obtain ⟨kx, vx⟩ := m
                        dsimp only at c0 c1 hlo
                        have HLO := Lib.hid ((HLK.out kx).symm.trans hlo)
                        have HB := Lib.hid hB
                        have HRW := Lib.hid (HR6.out.below hB)
                        obtain ⟨Zb, hZb⟩ : ∃ Zb, (kx == spare) = Zb := ⟨_, rfl⟩
                        have HZB := Lib.hid hZb
                        have I0 : Hid (L1In l j kx Zb wr (.int .i64 0) (.bool Zb) wr) := Lib.hid ⟨0, Zb, Nat.zero_le _, rfl, rfl, by simp, 0, rfl⟩
                        clear hkv hB hlo
                        go_wp2_with fail
                        clear hZb
                        go_loopw [25, 24] (fun s25 s24 wx => L1In l j kx Zb wr s25 s24 wx) (fun s25 _ _ => j - (intOf s25).toNat)
                        case atStart => exact I0.out
                        case round =>
                          clear I0
                          obtain ⟨k, Z', hk, rfl, rfl, hzz, qn, rfl⟩ := hrel
                          by_cases hki : k < j
                          · have u2 : decide (k < j) = true := by simpa using hki
                            obtain ⟨lb, lo, rfl, _, hlc⟩ := HRW.out.at_ (by omega)
                            have ck := (hlc k hki).1
                            rw [Nat.add_zero] at ck
                            have hzn := l1In hzz
                            generalize (l.getD k (0, 0)).1 = v at *
                            have HZ2 := Lib.hid (hzn v rfl)
                            clear hzn hzz hlc
                            cases Z' with
                            | true =>
                              go_wp2_with fail
                              go_quiet (fail)
                              all_goals
                                go_wp2_with fail
                                go_roundw
                                case rel => go_light; exact ⟨k + 1, true, by omega, by go_num, rfl, HZ2.out, _, rfl⟩
                                case measure => go_light; simp [intOf]; omega
                            | false =>
                              obtain ⟨vb, hvb⟩ : ∃ vb, (v == kx) = vb := ⟨_, rfl⟩
                              rw [hvb] at HZ2
                              go_wp2_with fail
                              go_quiet (fail)
                              all_goals
                                go_wp2_with fail
                                go_roundw
                                case rel => go_light; exact ⟨k + 1, vb, by omega, by go_num, rfl, HZ2.out, _, rfl⟩
                                case measure => go_light; simp [intOf]; omega
                          · obtain rfl : k = j := by omega
                            have u2 : decide (k < k) = false := by simp
                            rw [← HL.out, ← HZB.out] at hzz
                            cases Z' with
                            | true =>
                              clear hzz
                              go_wp2_with fail
                              go_quiet (fail)
                              all_goals
                                go_wp2_with fail
                                go_roundw
                                case rel => go_light; exact ⟨z + 1, by omega, by go_num, below_drewN HB.out _⟩
                                case measure => go_light; simp [intOf]; omega
                            | false =>
                              have hfar := far_of hzz rfl
                              have hvk : vx = kx := HLO.out.symm.trans (HT.out.rest kx hfar.1 hfar.2)
                              have v1 : (vx != kx) = false := by simp [hvk]
                              clear hzz hfar hvk
                              go_wp2_with fail
                              go_quiet (fail)
                              all_goals
                                go_wp2_with fail
                                go_roundw
                                case rel => go_light; exact ⟨z + 1, by omega, by go_num, below_drewN HB.out _⟩
                                case measure => go_light; simp [intOf]; omega
                      · obtain rfl : z = ks.length := by omega
                        obtain ⟨W7, rfl⟩ : ∃ W7 : World, W7 = wr := ⟨_, rfl⟩
                        have u1 : decide (ks.length < ks.length) = false := by simp
                        have HKV7 := Lib.hid hkv
                        have HR7 := Lib.hid (HR6.out.below hB)
                        have HA7 := Lib.hid (Row_cells HA6.out hB)
                        have BW7 := Lib.hid (BW6.out.trans (hB.mono BW6.out.size))
                        have A0 : Hid (PlRel kn W7 (.int .i64 0) W7) := Lib.hid ⟨0, Nat.zero_le _, rfl, Below.refl _ _⟩
                        clear hkv hB HR6 HA6 BW6 HKV6
                        go_wp2_with fail
                        go_loopw [26] (fun s26 wr => PlRel kn W7 s26 wr) (fun s26 _ => kn - (intOf s26).toNat)
                        case atStart => exact A0.out
                        case round =>
                          clear A0
                          obtain ⟨z, hz, rfl, hB⟩ := hrel
                          have hkv := HKV7.out.kept (w' := wr) (fun z hz => hB.block z hz)
                          by_cases hlt : z < kn
                          ·
                            as_aux_lemma =>
                              have u1 : decide (z < kn) = true := by simpa using hlt
                              obtain ⟨ab, ao, rfl, hac⟩ := Row_at (Row_cells HA7.out hB) (by omega)
                              have ca := hac z hlt
                              generalize ks0.getD z 0 = kx at *
                              have HKVZ := Lib.hid hkv
                              have KA := Lib.hid (fun n => at_any ra ks.length rc ks kx (wr.drewN n) (hkv.kept fun _ _ => rfl))
                              have HB := Lib.hid hB
                              have HRW := Lib.hid (HR7.out.below hB)
                              obtain ⟨Zb, hZb⟩ : ∃ Zb, (kx == spare) = Zb := ⟨_, rfl⟩
                              have HZB := Lib.hid hZb
                              have I0 : Hid (L1In l j kx Zb wr (.int .i64 0) (.bool Zb) wr) := Lib.hid ⟨0, Zb, Nat.zero_le _, rfl, rfl, by simp, 0, rfl⟩
                              clear hkv hB hac
                              go_wp2_with fail
                              clear hZb
                              go_loopw [28, 27] (fun s28 s27 wx => L1In l j kx Zb wr s28 s27 wx) (fun s28 _ _ => j - (intOf s28).toNat)
                              case atStart => exact I0.out
                              case round =>
                                clear I0
                                obtain ⟨k, Z', hk, rfl, rfl, hzz, qn, rfl⟩ := hrel
                                by_cases hki : k < j
                                · have u2 : decide (k < j) = true := by simpa using hki
                                  obtain ⟨lb, lo, rfl, _, hlc⟩ := HRW.out.at_ (by omega)
                                  have ck := (hlc k hki).1
                                  rw [Nat.add_zero] at ck
                                  have hzn := l1In hzz
                                  generalize (l.getD k (0, 0)).1 = v at *
                                  have HZ2 := Lib.hid (hzn v rfl)
                                  clear hzn hzz hlc
                                  cases Z' with
                                  | true =>
                                    go_wp2_with fail
                                    go_quiet (fail)
                                    all_goals
                                      go_wp2_with fail
                                      go_roundw
                                      case rel => go_light; exact ⟨k + 1, true, by omega, by go_num, rfl, HZ2.out, _, rfl⟩
                                      case measure => go_light; simp [intOf]; omega
                                  | false =>
                                    obtain ⟨vb, hvb⟩ : ∃ vb, (v == kx) = vb := ⟨_, rfl⟩
                                    rw [hvb] at HZ2
                                    go_wp2_with fail
                                    go_quiet (fail)
                                    all_goals
                                      go_wp2_with fail
                                      go_roundw
                                      case rel => go_light; exact ⟨k + 1, vb, by omega, by go_num, rfl, HZ2.out, _, rfl⟩
                                      case measure => go_light; simp [intOf]; omega
                                · obtain rfl : k = j := by omega
                                  have u2 : decide (k < k) = false := by simp
                                  rw [← HL.out, ← HZB.out] at hzz
                                  cases Z' with
                                  | true =>
                                    clear hzz
                                    go_wp2_with fail
                                    go_quiet (fail)
                                    all_goals
                                      go_wp2_with fail
                                      go_roundw
                                      case rel => go_light; exact ⟨z + 1, by omega, by go_num, below_drewN HB.out _⟩
                                      case measure => go_light; simp [intOf]; omega
                                  | false =>
                                    have hfar := far_of hzz rfl
                                    have hvk : look ks kx = kx := (HLK.out kx).trans (HT.out.rest kx hfar.1 hfar.2)
                                    have KQ := Lib.hid (fun n => (at_any ra ks.length rc ks kx ((wr.drewN qn).drewN n) (HKVZ.out.kept fun _ _ => rfl)).mono (R' := fun e w' => e = .returned (.int .i64 kx) ∧ w' = (wr.drewN qn).drewN n) (fun e w' h => ⟨hvk ▸ h.1, h.2.symm⟩))
                                    have cb : (wr.drewN qn).cell? ⟨ab, ao + z, none⟩ = some (.int .i64 kx) := ca
                                    have HBZ := Lib.hid (below_drewN HB.out qn)
                                    have v1 : (kx != kx) = false := by simp
                                    clear hzz hfar hvk KA ca HKVZ
                                    generalize wr.drewN qn = Wz at *
                                    go_wp2_with fail
                                    go_quiet ((go_at_call 69; exact Calls.quiet_of_same (KQ.out _)))
                                    all_goals
                                      go_wp2_with fail
                                      go_roundw
                                      case rel => go_light; exact ⟨z + 1, by omega, by go_num, below_drewN HBZ.out _⟩
                                      case measure => go_light; simp [intOf]; omega
                          · obtain rfl : z = kn := by omega
                            have u1 : decide (z < z) = false := by simp
                            have BF := Lib.hid (BW7.out.trans (hB.mono BW7.out.size))
                            clear hkv hB
                            have hu := HU.out
                            cases U with
                            | true =>
                              have v1 : decide ((c2 : Int) > 0) = true := by have := hu.1 rfl; simp; omega
                              have v2 : decide (0 < c2) = true := by have := hu.1 rfl; simp; omega
                              have v3 : decide (c2 > 0) = true := v2
                              clear hu
                              go_wp2_with fail
                              go_ret
                              exact ⟨rfl, BF.out⟩
                            | false =>
                              have v1 : decide ((c2 : Int) > 0) = false := by
                                have : ¬ 0 < c2 := fun h => absurd (hu.2 h) (by decide)
                                simp; omega
                              have v2 : decide (0 < c2) = false := by
                                have : ¬ 0 < c2 := fun h => absurd (hu.2 h) (by decide)
                                simp; omega
                              have v3 : decide (c2 > 0) = false := v2
                              clear hu
                              go_wp2_with fail
                              go_ret
                              exact ⟨rfl, BF.out⟩

end Go.Proofs.YtflbjfcmnopfaaaDoor

/-
  A heap's Refs and Reach.
-/
import Derived.Test.YtjffbojgdemooaaDoorRchA
namespace Go.Proofs.YtjffbojgdemooaaDoor
open Go.RowKit

/-- The objects of a heap: of each place, class and number of values. -/
structure Objs (n : Nat) (wd : Nat → Int) (bd : Nat → Bool) (cl : Nat) (cf : Nat → ByteArray) (ob : Nat → Option (Int × Nat)) : Prop where
  has : ∀ p kl m, ob p = some (kl, m) → Obj1 n wd bd cl cf p kl m
  no : ∀ p, p < n → ob p = none → bd p = false
  wf : ∀ j, j < n → (Lit.int .i64 (wd j)).wf = true

def isB (ob : Nat → Option (Int × Nat)) (n : Nat) (r : Int) : Bool := decide (1 ≤ r ∧ r ≤ n) && (ob (r - 1).toNat).isSome

theorem isB_le {ob : Nat → Option (Int × Nat)} {n : Nat} {r : Int} (h : isB ob n r = true) : 1 ≤ r ∧ r ≤ n := by
  simp [isB] at h
  exact h.1

theorem isB_at {ob : Nat → Option (Int × Nat)} {n : Nat} {r : Int} (h : isB ob n r = true) : ∃ (p : Nat) (kl : Int) (m : Nat), r = (p : Int) + 1 ∧ ob p = some (kl, m) ∧ p < n := by
  have hr := isB_le h
  unfold isB at h
  rw [Bool.and_eq_true] at h
  obtain ⟨⟨kl, m⟩, hs⟩ := Option.isSome_iff_exists.1 h.2
  exact ⟨(r - 1).toNat, kl, m, by omega, hs, by omega⟩

/-- The references that are not none among the first k values of an object at p. -/
def refsTo (wd : Nat → Int) (cf : Nat → ByteArray) (kl : Int) (p : Nat) : Nat → List Int
  | 0 => []
  | k + 1 => refsTo wd cf kl p k ++ if refK cf kl k && wd (p + 2 + k) != 0 then [wd (p + 2 + k)] else []

def refsB (wd : Nat → Int) (cf : Nat → ByteArray) (ob : Nat → Option (Int × Nat)) (r : Int) : List Int :=
  match ob (r - 1).toNat with
  | none => []
  | some (kl, m) => refsTo wd cf kl (r - 1).toNat m

section
variable {B hb ab gb bg : Nat} {cp : Option Addr} {cl cc : Nat} {cf : Nat → ByteArray} {n : Nat} {yt yp hp ht f1 t1 p1 : Int} {wd : Nat → Int} {bd : Nat → Bool} {mk : Value} {ob : Nat → Option (Int × Nat)}

theorem is_any (r : Int) (w : World) (h : Hp B hb ab gb bg cp cl cc cf n yt yp hp ht f1 t1 p1 wd bd mk w) (hO : Objs n wd bd cl cf ob) :
    Calls Tryd.prog 71 #[.pointer (some ⟨hb, 0, none⟩), .int .i64 r] w (IsPost (isB ob n r) w) := by
  by_cases hr : 1 ≤ r ∧ r ≤ n
  · obtain ⟨p, rfl⟩ : ∃ p : Nat, r = (p : Int) + 1 := ⟨(r - 1).toNat, by omega⟩
    have e : ((p : Int) + 1 - 1).toNat = p := by omega
    cases hob : ob p with
    | none =>
      have hb' : isB ob n ((p : Int) + 1) = false := by unfold isB; rw [e, hob]; simp
      rw [hb']
      refine (is_no _ w h (.inr (.inr (by rw [e]; exact hO.no p (by omega) hob)))).mono ?_
      rintro e w' ⟨rfl, rfl⟩
      exact ⟨0, 0, rfl, rfl⟩
    | some x =>
      obtain ⟨kl, m⟩ := x
      have hb' : isB ob n ((p : Int) + 1) = true := by unfold isB; rw [e, hob]; simp; omega
      rw [hb']
      refine (is_yes p kl m w h (hO.has p kl m hob)).mono ?_
      rintro e w' ⟨rfl, rfl⟩
      exact ⟨_, _, rfl, rfl⟩
  · have hb' : isB ob n r = false := by unfold isB; rw [decide_eq_false hr]; rfl
    rw [hb']
    refine (is_no _ w h (by omega)).mono ?_
    rintro e w' ⟨rfl, rfl⟩
    exact ⟨0, 0, rfl, rfl⟩

/-- What stands at a round's head. -/
def RefsRel (X : Nat → Prop) (hb N bm bh bt bo mb : Nat) (is : Int → Bool) (f : Nat → List Int) (out : List Int) (m : Nat) (w0 w : World) (si : Value) (wr : World) : Prop :=
  ∃ i : Nat, i ≤ m ∧ si = .int .i64 i ∧ Rch X hb N bm bh bt bo mb ((f i).foldl (meetF is) out) wr ∧ Below w0.heap.size w0 wr ∧ (∀ k, X k → wr.heap[k]? = w.heap[k]?) ∧ w.heap.size ≤ wr.heap.size

def RefsPost (X : Nat → Prop) (hb N bm bh bt bo mb : Nat) (out : List Int) (w0 w : World) (e : Ending) (w' : World) : Prop :=
  e = .returned (.tuple #[]) ∧ Rch X hb N bm bh bt bo mb out w' ∧ Below w0.heap.size w0 w' ∧ (∀ k, X k → w'.heap[k]? = w.heap[k]?) ∧ w.heap.size ≤ w'.heap.size

theorem fold_snoc {is : Int → Bool} {l : List Int} {x : Int} {out : List Int} : (l ++ [x]).foldl (meetF is) out = meetF is (l.foldl (meetF is) out) x := by simp [List.foldl_append]

set_option maxHeartbeats 2000000 in
set_option maxRecDepth 100000 in
theorem refs_any {X : Nat → Prop} {N bm bh bt bo mb b1 b2 : Nat} (p : Nat) (kl : Int) (m : Nat) (out : List Int) (w0 w : World) (H0 : Hp B hb ab gb bg cp cl cc cf n yt yp hp ht f1 t1 p1 wd bd mk w0) (hO : Objs n wd bd cl cf ob) (hob : ob p = some (kl, m))
    (hR : Rch X hb N bm bh bt bo mb out w) (hneat : Neat (isB ob n) out) (x1 : X b1) (x2 : X b2) (c1 : w.heap[b1]? = some (.cells #[.pointer (some ⟨hb, 0, none⟩)] 91 (0, 0))) (c2 : w.heap[b2]? = some (.cells #[.int .i64 ((p : Int) + 1)] 3 (0, 0)))
    (hB0 : Below w0.heap.size w0 w) (hlo : w0.heap.size ≤ bm ∧ w0.heap.size ≤ bh ∧ w0.heap.size ≤ bt ∧ w0.heap.size ≤ bo ∧ w0.heap.size ≤ mb) (hN : N ≤ w.heap.size) :
    Calls Tryd.prog 199 #[.func (.func 177) #[] #[.pointer (some ⟨bm, 0, none⟩), .pointer (some ⟨bh, 0, none⟩), .pointer (some ⟨bt, 0, none⟩), .pointer (some ⟨bo, 0, none⟩)], .pointer (some ⟨b1, 0, none⟩), .pointer (some ⟨b2, 0, none⟩)] w
      (RefsPost X hb N bm bh bt bo mb ((refsTo wd cf kl p m).foldl (meetF (isB ob n)) out) w0 w) := by
  have hobj := hO.has p kl m hob
  have hfit := hobj.fit
  have sm := H0.sm
  have HO := Lib.hid hO
  have HB := Lib.hid hobj
  have HH := Lib.hid H0
  have HNE := Lib.hid hneat
  have HLO := Lib.hid hlo
  have HX1 := Lib.hid x1
  have HX2 := Lib.hid x2
  have C1 := Lib.hid c1
  have C2 := Lib.hid c2
  have HBL := Lib.hid hB0
  have HNN := Lib.hid hN
  have k1 : w.cell? ⟨b1, 0, none⟩ = some (.pointer (some ⟨hb, 0, none⟩)) := by rw [cell_of_row w b1 0 _ _ (0, 0) c1]; rfl
  have k2 : w.cell? ⟨b2, 0, none⟩ = some (.int .i64 ((p : Int) + 1)) := by rw [cell_of_row w b2 0 _ _ (0, 0) c2]; rfl
  have KI := Lib.hid (is_yes p kl m w (H0.below hB0) hobj)
  have HR0 : Hid (RefsRel X hb N bm bh bt bo mb (isB ob n) (refsTo wd cf kl p) out m w0 w (.int .i64 0) w) := Lib.hid ⟨0, Nat.zero_le _, rfl, hR, hB0, fun _ _ => rfl, Nat.le_refl _⟩
  clear hR hO hob hobj H0 hneat x1 x2 c1 c2 hB0 hlo hN
  go_enter Tryd.func199, Tryd.ntmps199
  go_wp2_with (go_at_call 71; refine KI.out.mono ?_; rintro e w' ⟨rfl, rfl⟩)
  go_loopw [21] (fun si wr => RefsRel X hb N bm bh bt bo mb (isB ob n) (refsTo wd cf kl p) out m w0 w si wr) (fun si _ => m - (intOf si).toNat)
  case atStart => exact HR0.out
  case round =>
    clear HR0 k1 k2 KI
    obtain ⟨i, hi, rfl, hR, hBr, hX, hz⟩ := hrel
    by_cases hlt : i < m
    · have k1 : wr.cell? ⟨b1, 0, none⟩ = some (.pointer (some ⟨hb, 0, none⟩)) := by rw [cell_of_row wr b1 0 _ _ (0, 0) ((hX b1 HX1.out).trans C1.out)]; rfl
      have k2 : wr.cell? ⟨b2, 0, none⟩ = some (.int .i64 ((p : Int) + 1)) := by rw [cell_of_row wr b2 0 _ _ (0, 0) ((hX b2 HX2.out).trans C2.out)]; rfl
      have hHr := HH.out.below hBr
      have k3 : wr.cell? ⟨hb, 2, none⟩ = some (.pointer (some ⟨ab, 0, none⟩)) := hHr.cell 2
      have t1 : decide (i < m) = true := by simpa using hlt
      have KP := Lib.hid (place_yes p kl m i wr hHr HB.out hlt)
      have KL := Lib.hid (loadI ((p + 2 + i : Nat) : Int) (p + 2 + i) _ wr hHr.ar rfl (by omega) rfl)
      have hstep : refsTo wd cf kl p (i + 1) = refsTo wd cf kl p i ++ if refK cf kl i && wd (p + 2 + i) != 0 then [wd (p + 2 + i)] else [] := rfl
      have hwf := HO.out.wf (p + 2 + i) (by omega)
      generalize ((p + 2 + i : Nat) : Int) = z at *
      generalize wd (p + 2 + i) = v at *
      have HWF := Lib.hid hwf
      have HRR := Lib.hid hR
      have HBR := Lib.hid hBr
      have HXR := Lib.hid hX
      have HZ := Lib.hid hz
      have HHR := Lib.hid hHr
      clear hR hBr hX hz hHr hwf
      cases hk : refK cf kl i with
      | false =>
        rw [hk, Bool.false_and, if_neg (by simp), List.append_nil] at hstep
        rw [hk] at KP
        have HST := Lib.hid hstep
        clear hstep hk
        go_wp2_with (first | (go_at_call 134; refine KP.out.mono ?_; rintro e w' ⟨rfl, rfl⟩) | (go_at_call 132; refine KL.out.mono ?_; rintro e w' ⟨rfl, rfl⟩))
        go_roundw
        case rel => exact ⟨i + 1, by omega, by go_num, by rw [HST.out]; exact HRR.out, HBR.out, HXR.out, HZ.out⟩
        case measure => simp [intOf]; omega
      | true =>
        rw [hk, Bool.true_and] at hstep
        rw [hk] at KP
        clear hk
        by_cases hv : v = 0
        · rw [if_neg (by simpa using hv), List.append_nil] at hstep
          have t2 : (v != 0) = false := by simpa using hv
          have HST := Lib.hid hstep
          clear hstep hv
          go_wp2_with (first | (go_at_call 134; refine KP.out.mono ?_; rintro e w' ⟨rfl, rfl⟩) | (go_at_call 132; refine KL.out.mono ?_; rintro e w' ⟨rfl, rfl⟩))
          go_roundw
          case rel => exact ⟨i + 1, by omega, by go_num, by rw [HST.out]; exact HRR.out, HBR.out, HXR.out, HZ.out⟩
          case measure => simp [intOf]; omega
        · rw [if_pos (by simpa using hv)] at hstep
          have t2 : (v != 0) = true := by simpa using hv
          have HST := Lib.hid hstep
          have hne2 := neat_fold (refsTo wd cf kl p i) HNE.out
          have KM := Lib.hid (meet_any (B := w0.heap.size) (isB ob n) _ v wr HRR.out HWF.out (Nat.le_trans (neat_len hne2 (fun r hr => isB_le hr)) sm) ⟨HLO.out.1, HLO.out.2.1, HLO.out.2.2.1, HLO.out.2.2.2.1, HLO.out.2.2.2.2, HBR.out.size⟩ (Nat.le_trans HNN.out HZ.out)
            (fun w' hb' => is_any v w' (HHR.out.below hb') HO.out))
          clear hstep hv hne2
          go_wp2_with (first | (go_at_call 134; refine KP.out.mono ?_; rintro e w' ⟨rfl, rfl⟩) | (go_at_call 132; refine KL.out.mono ?_; rintro e w' ⟨rfl, rfl⟩) | (go_at_call 177; refine KM.out.mono ?_; rintro e w9 ⟨rfl, hR9, hB9, hX9⟩))
          go_roundw
          case rel => exact ⟨i + 1, by omega, by go_num, by rw [HST.out, fold_snoc]; exact hR9, HBR.out.trans (hB9), fun k hk => (hX9 k hk).trans (HXR.out k hk), Nat.le_trans HZ.out hB9.size⟩
          case measure => simp [intOf]; omega
    · obtain rfl : i = m := by omega
      have t1 : decide (i < i) = false := by simp
      have HRR := Lib.hid hR
      have HBR := Lib.hid hBr
      have HXR := Lib.hid hX
      have HZ := Lib.hid hz
      clear hR hBr hX hz
      go_wp2_with fail
      exact bodyPost_end (v := .tuple #[]) (by simp [results, Tryd.results199, go_sem]) rfl ⟨rfl, HRR.out, HBR.out, HXR.out, HZ.out⟩
end

end Go.Proofs.YtjffbojgdemooaaDoor

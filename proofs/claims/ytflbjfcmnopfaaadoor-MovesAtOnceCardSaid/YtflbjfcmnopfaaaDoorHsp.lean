/-
  The space's methods on a space that lies within a block, and the arena's Clear of a part.
-/
import Derived.Test.YtflbjfcmnopfaaaDoorAnF
import Derived.Outline
namespace Go.Proofs.YtflbjfcmnopfaaaDoor
open Go.RowKit

def RoomPost (r : Int) (w : World) (e : Ending) (w' : World) : Prop := e = .returned (.int .i64 r) ∧ ∃ n, w' = w.drewN n

def takenB (i f p : Int) : Bool := decide (f ≤ i ∧ i < p)
theorem taken_of {i f p : Int} (h0 : f ≤ i) (h1 : i < p) : takenB i f p = true := by simp [takenB, h0, h1]
theorem untaken_of {i f p : Int} (h : ¬ (f ≤ i ∧ i < p)) : takenB i f p = false := by simpa [takenB] using h

theorem hasG {s o : Nat} {f p : Int} (i : Int) (w : World) (c0 : w.cell? ⟨s, o, none⟩ = some (.int .i64 f)) (c2 : w.cell? ⟨s, o + 2, none⟩ = some (.int .i64 p)) :
    Calls Tryd.prog 117 #[.pointer (some ⟨s, o, none⟩), .int .i64 i] w fun e w' => e = .returned (.bool (takenB i f p)) ∧ w = w' := by
  by_cases h0 : f ≤ i
  · by_cases h1 : i < p
    · rw [taken_of h0 h1]
      go_enter Tryd.func117, Tryd.ntmps117
      go_wp2
      go_ret
      exact ⟨rfl, rfl⟩
    · rw [untaken_of (by omega)]
      go_enter Tryd.func117, Tryd.ntmps117
      go_wp2
      go_ret
      exact ⟨rfl, rfl⟩
  · rw [untaken_of (by omega)]
    go_enter Tryd.func117, Tryd.ntmps117
    go_wp2
    go_ret
    exact ⟨rfl, rfl⟩

theorem roomG {s o : Nat} {t p : Int} (w : World) (c1 : w.cell? ⟨s, o + 1, none⟩ = some (.int .i64 t)) (c2 : w.cell? ⟨s, o + 2, none⟩ = some (.int .i64 p)) (h0 : 0 ≤ p) (h1 : p ≤ t) (h2 : t ≤ 65536) :
    Calls Tryd.prog 115 #[.pointer (some ⟨s, o, none⟩)] w (RoomPost (t - p) w) := by
  have a1 : IntKind.i64.wrap (t - p) = t - p := IntWalk.i64_in _ (by omega)
  go_enter Tryd.func115, Tryd.ntmps115
  go_wp2
  go_quiet (fail)
  all_goals go_wp2
  all_goals
    go_ret
    exact ⟨rfl, _, rfl⟩

def TakeG (s o : Nat) (q r : Int) (w : World) (e : Ending) (w' : World) : Prop :=
  e = .returned (.tuple #[.int .i64 r, .bool true]) ∧ ∃ n, w' = (w.drewN n).setCell ⟨s, o + 2, none⟩ (.int .i64 q)

theorem takeG_yes {s o : Nat} {t p : Int} (m : Int) (w : World) (c1 : w.cell? ⟨s, o + 1, none⟩ = some (.int .i64 t)) (c2 : w.cell? ⟨s, o + 2, none⟩ = some (.int .i64 p)) (cf : w.frozen? ⟨s, o + 2, none⟩ = false)
    (h0 : 0 ≤ p) (h1 : p ≤ t) (h2 : t ≤ 65536) (h3 : 1 ≤ m) (h4 : m ≤ t - p) :
    Calls Tryd.prog 160 #[.pointer (some ⟨s, o, none⟩), .int .i64 m] w (TakeG s o (p + m) p w) := by
  have d1 : decide (m < 1) = false := by simp; omega
  have d2 : decide (t - p < m) = false := by simp; omega
  go_enter Tryd.func160, Tryd.ntmps160
  go_wp2_with (go_at_call 115; refine (roomG _ c1 c2 h0 h1 h2).mono ?_; rintro e w' ⟨rfl, nq, rfl⟩)
  go_ret2
  exact ⟨rfl, _, rfl⟩

theorem takeG_no {s o : Nat} {t p : Int} (m : Int) (w : World) (c1 : w.cell? ⟨s, o + 1, none⟩ = some (.int .i64 t)) (c2 : w.cell? ⟨s, o + 2, none⟩ = some (.int .i64 p))
    (h0 : 0 ≤ p) (h1 : p ≤ t) (h2 : t ≤ 65536) (h3 : 1 ≤ m) (h4 : t - p < m) :
    Calls Tryd.prog 160 #[.pointer (some ⟨s, o, none⟩), .int .i64 m] w fun e w' => e = .returned (.tuple #[.int .i64 0, .bool false]) ∧ ∃ n, w' = w.drewN n := by
  have d1 : decide (m < 1) = false := by simp; omega
  have d2 : decide (t - p < m) = true := by simp; omega
  go_enter Tryd.func160, Tryd.ntmps160
  go_wp2_with (go_at_call 115; refine (roomG _ c1 c2 h0 h1 h2).mono ?_; rintro e w' ⟨rfl, nq, rfl⟩)
  go_ret2
  exact ⟨rfl, _, rfl⟩

def ClearG (B b g n : Nat) (f : Nat → Int) (w : World) (e : Ending) (w' : World) : Prop := e = .returned (.tuple #[]) ∧ AnF B b g n f w' ∧ w.grownBy w' (some g)

/-- Clear of a part that lies within. -/
theorem clearG {B b g n : Nat} {f : Nat → Int} (p m : Nat) (w : World) (h : AnF B b g n f w) (hm : 0 < m) (hn : p + m ≤ n) :
    Calls Tryd.prog 161 #[.pointer (some ⟨b, 0, none⟩), .int .i64 p, .int .i64 (p + m : Nat)] w (ClearG B b g n (fun j => if p ≤ j ∧ j < p + m then 0 else f j) w) := by
  obtain ⟨zs, hA, hzf⟩ := h
  have hb := hA.box
  have hs := hA.small
  have hc0 : ∀ n1 j, j < m → ((w.drewN n1).cell? ⟨g, p + j, none⟩).isSome = true := fun n1 j hj => by
    show (w.cell? ⟨g, p + j, none⟩).isSome = true
    rw [hA.cell (p + j) (by omega)]; rfl
  have hf0 : ∀ n1 j, j < m → (w.drewN n1).frozen? ⟨g, p + j, none⟩ = false := fun n1 j hj => hA.frozen _
  have HC := Lib.hid hc0
  have HF := Lib.hid hf0
  have HA := Lib.hid hA
  have HN := Lib.hid hm
  have HZ := Lib.hid hzf
  obtain ⟨q, hq⟩ : ∃ q, p + m = q := ⟨_, rfl⟩
  have HQ := Lib.hid hq
  have b1 : p < q := by omega
  have b2 : q ≤ n := by omega
  have d1 : decide (p < q) = true := by simp; omega
  have hnp : ¬ n = p := by omega
  have hqm : q - p = m := by omega
  rw [hq]
  clear hA hc0 hf0 hzf hq hn hm
  go_enter Tryd.func161, Tryd.ntmps161
  go_wp2
  go_quiet (fail)
  all_goals go_wp2_with (with_reducible refine wpList_clear_row (o := ⟨none, _, _, _, _, _⟩) rfl (.tmp 24) 43 2 rfl (.int .i64 0) Tryd.underlying43 zero_i64 rfl rfl g p m (n - p) (by simp [Act.eval]) HN.out (HC.out _) (HF.out _) ?_)
  all_goals
    have hA4 : An B b g n zs (w.drewN nq) := HA.out.kept rfl rfl
    obtain ⟨zs', hA5, hz, hg5⟩ := An.storedAll (List.replicate m 0) zs p _ hA4 (by simp; have := HQ.out; omega)
    rw [List.map_replicate] at hA5 hg5
    have hpost : ClearG B b g n (fun j => if p ≤ j ∧ j < q then 0 else f j) w (.returned (.tuple #[])) ((w.drewN nq).setCells g p (List.replicate m (Value.int IntKind.i64 0))) := by
      refine ⟨rfl, ⟨zs', hA5, fun j hj => ?_⟩, ⟨hg5.os, hg5.tape, hg5.output, hg5.size, hg5.block⟩⟩
      rw [hz j, List.length_replicate, HQ.out]
      show _ = if p ≤ j ∧ j < q then (0 : Int) else f j
      by_cases hr : p ≤ j ∧ j < q
      · rw [if_pos hr, if_pos hr]
        simp [List.getD, show j - p < m by omega]
      · rw [if_neg hr, if_neg hr]
        exact HZ.out j hj
    clear hA4 hA5 hz hg5
    exact bodyPost_end (v := .tuple #[]) (by simp [results, Tryd.results161, go_sem]) rfl hpost

theorem clearI {B b g n : Nat} {f : Nat → Int} (P Q : Int) (p m : Nat) (w : World) (h : AnF B b g n f w) (hP : P = p) (hQ : Q = (p + m : Nat)) (hm : 0 < m) (hn : p + m ≤ n) :
    Calls Tryd.prog 161 #[.pointer (some ⟨b, 0, none⟩), .int .i64 P, .int .i64 Q] w (ClearG B b g n (fun j => if p ≤ j ∧ j < p + m then 0 else f j) w) := by
  subst hP; subst hQ
  exact clearG p m w h hm hn

end Go.Proofs.YtflbjfcmnopfaaaDoor

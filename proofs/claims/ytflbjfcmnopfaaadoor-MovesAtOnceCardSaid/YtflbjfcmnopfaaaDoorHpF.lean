/-
  A heap's methods: Is, place, Get, Ref, InYoung.
-/
import Derived.Test.YtflbjfcmnopfaaaDoorHpE
namespace Go.Proofs.YtflbjfcmnopfaaaDoor
open Go.RowKit

section
variable {B hb ab gb bg : Nat} {cp : Option Addr} {cl cc : Nat} {cf : Nat → ByteArray} {n : Nat} {yt yp hp ht f1 t1 p1 : Int} {wd : Nat → Int} {bd : Nat → Bool} {mk : Value}

theorem ret_int3 {k : IntKind} {a b : Int} {x y : Value} (h : a = b) : Ending.returned (.tuple #[.int k a, x, y]) = .returned (.tuple #[.int k b, x, y]) := by rw [h]

/-- An object begins at p: its class, how many values it has. -/
structure Obj1 (n : Nat) (wd : Nat → Int) (bd : Nat → Bool) (cl : Nat) (cf : Nat → ByteArray) (p : Nat) (kl : Int) (m : Nat) : Prop where
  lt : p < n
  beg : bd p = true
  head : wd p = word kl m
  fit : p + 2 + m ≤ n
  lo : -2 ≤ kl
  hi : kl < 12
  cls : ∀ c : Nat, kl = c → c < cl ∧ m = (cf c).size

theorem is_yes (p : Nat) (kl : Int) (m : Nat) (w : World) (h : Hp B hb ab gb bg cp cl cc cf n yt yp hp ht f1 t1 p1 wd bd mk w) (ho : Obj1 n wd bd cl cf p kl m) :
    Calls Tryd.prog 60 #[.pointer (some ⟨hb, 0, none⟩), .int .i64 ((p : Int) + 1)] w fun e w' => e = .returned (.tuple #[.int .i64 kl, .int .i64 m, .bool true]) ∧ w = w' := by
  have sm := h.sm
  have c2 : w.cell? ⟨hb, 2, none⟩ = some (.pointer (some ⟨ab, 0, none⟩)) := h.cell 2
  have c13 : w.cell? ⟨hb, 13, none⟩ = some (.slice (some ⟨bg, 0, none⟩) n n) := h.cell 13
  have hl := ho.lt
  have hfit := ho.fit
  have bp := h.bcell p hl
  rw [ho.beg] at bp
  have KL := Lib.hid (loadI (p : Int) p (word kl m) w h.ar rfl hl ho.head)
  have KU := Lib.hid (unpack_word kl m w (by have := ho.lo; have := ho.hi; omega))
  have s1 : IntKind.i64.wrap ((p : Int) + 1 - 1) = (p : Int) := by rw [IntWalk.i64_in _ (by omega)]; omega
  have s2 : (p : Int) + 1 - 1 = (p : Int) := by omega
  have d1 : decide ((p : Int) + 1 < 1) = false := by simp; omega
  have d2 : decide ((n : Int) < (p : Int) + 1) = false := by simp; omega
  clear h ho
  go_enter Tryd.func60, Tryd.ntmps60
  go_wp2_with (first | (go_at_call 113; refine KL.out.mono ?_; rintro e w' ⟨rfl, rfl⟩) | (go_at_call 114; refine KU.out.mono ?_; rintro e w' ⟨rfl, rfl⟩))
  go_ret3
  exact ⟨rfl, rfl⟩

theorem is_no (r : Int) (w : World) (h : Hp B hb ab gb bg cp cl cc cf n yt yp hp ht f1 t1 p1 wd bd mk w) (hr : r < 1 ∨ (n : Int) < r ∨ bd (r - 1).toNat = false) :
    Calls Tryd.prog 60 #[.pointer (some ⟨hb, 0, none⟩), .int .i64 r] w fun e w' => e = .returned (.tuple #[.int .i64 0, .int .i64 0, .bool false]) ∧ w = w' := by
  have sm := h.sm
  have c13 : w.cell? ⟨hb, 13, none⟩ = some (.slice (some ⟨bg, 0, none⟩) n n) := h.cell 13
  by_cases h1 : r < 1
  · have d1 : decide (r < 1) = true := by simp; omega
    clear h hr
    go_enter Tryd.func60, Tryd.ntmps60
    go_wp2_with fail
    go_ret3
    exact ⟨rfl, rfl⟩
  · have d1 : decide (r < 1) = false := by simp; omega
    by_cases h2 : (n : Int) < r
    · have d2 : decide ((n : Int) < r) = true := by simp; omega
      clear h hr
      go_enter Tryd.func60, Tryd.ntmps60
      go_wp2_with fail
      go_ret3
      exact ⟨rfl, rfl⟩
    · have d2 : decide ((n : Int) < r) = false := by simp; omega
      obtain ⟨q, hq⟩ : ∃ q : Nat, r = (q : Int) + 1 := ⟨(r - 1).toNat, by omega⟩
      subst hq
      have hqn : q < n := by omega
      have e : ((q : Int) + 1 - 1).toNat = q := by omega
      rw [e] at hr
      have bp := h.bcell q hqn
      rw [show bd q = false by rcases hr with h3 | h3 | h3 <;> first | omega | exact h3] at bp
      have s1 : IntKind.i64.wrap ((q : Int) + 1 - 1) = (q : Int) := by rw [IntWalk.i64_in _ (by omega)]; omega
      have s2 : (q : Int) + 1 - 1 = (q : Int) := by omega
      clear h hr e
      go_enter Tryd.func60, Tryd.ntmps60
      go_wp2_with fail
      go_ret3
      exact ⟨rfl, rfl⟩

/-- Is the i-th value of an object of a class a reference? -/
def refK (cf : Nat → ByteArray) (kl : Int) (i : Nat) : Bool := if kl = -2 then true else if 0 ≤ kl then ((cf kl.toNat).data.getD i 0).toNat == 82 else false

theorem place_yes (p : Nat) (kl : Int) (m i : Nat) (w : World) (h : Hp B hb ab gb bg cp cl cc cf n yt yp hp ht f1 t1 p1 wd bd mk w) (ho : Obj1 n wd bd cl cf p kl m) (hi : i < m) :
    Calls Tryd.prog 140 #[.pointer (some ⟨hb, 0, none⟩), .int .i64 ((p : Int) + 1), .int .i64 i] w fun e w' => e = .returned (.tuple #[.int .i64 ((p + 2 + i : Nat) : Int), .bool (refK cf kl i), .bool true]) ∧ w = w' := by
  have sm := h.sm
  have hfit := ho.fit
  have KI := Lib.hid (is_yes p kl m w h ho)
  have c0 : w.cell? ⟨hb, 0, none⟩ = some (.slice cp cl cc) := h.cell 0
  have t1 : decide (m ≤ i) = false := by simp; omega
  have t2 : decide ((i : Int) < 0) = false := by simp
  have s1 : IntKind.i64.wrap ((p : Int) + 1 - 1) = (p : Int) := by rw [IntWalk.i64_in _ (by omega)]; omega
  have lo := ho.lo
  have FIN : Hid ((p : Int) + 2 + i = ((p + 2 + i : Nat) : Int)) := Lib.hid (by omega)
  by_cases k2 : kl = -2
  · have e : refK cf kl i = true := by unfold refK; rw [if_pos k2]
    rw [e]
    subst k2
    clear h ho e
    go_enter Tryd.func140, Tryd.ntmps140
    go_wp2_with (go_at_call 60; refine KI.out.mono ?_; rintro e w' ⟨rfl, rfl⟩)
    go_ret3
    exact ⟨ret_int3 FIN.out, rfl⟩
  · by_cases k0 : 0 ≤ kl
    · obtain ⟨c, rfl⟩ : ∃ c : Nat, kl = (c : Int) := ⟨kl.toNat, by omega⟩
      obtain ⟨hc, hm⟩ := ho.cls c rfl
      have e : refK cf c i = (((cf c).data.getD i 0).toNat == 82) := by unfold refK; rw [if_neg k2, if_pos k0, Int.toNat_natCast]
      rw [e]
      obtain ⟨b, off, rfl, hbl, hcell⟩ := Cls_at h.cls (by omega)
      have hcc := hcell c hc
      have hcap := h.cls.max
      have hle := h.cls.le
      unfold maxLen at hcap
      have hsz : i < (cf c).size := by omega
      clear h ho e hcell
      generalize cf c = s at *
      have hget : s.data.getD i 0 = s[i] := by
        simp [Array.getD, hsz]
        rfl
      rw [hget]
      have HM := Lib.hid hm
      clear hm hget
      have k2' : ((c : Int) == -2) = false := by simp
      cases hb8 : (s[i].toNat == 82) with
      | true =>
        have t3 : ((s[i].toNat : Int) == 82) = true := by
          have h82 : s[i].toNat = 82 := by simpa using hb8
          rw [h82]; rfl
        clear hb8
        go_enter Tryd.func140, Tryd.ntmps140
        go_wp2_with (go_at_call 60; refine KI.out.mono ?_; rintro e w' ⟨rfl, rfl⟩)
        go_ret3
        exact ⟨ret_int3 FIN.out, rfl⟩
      | false =>
        have t3 : ((s[i].toNat : Int) == 82) = false := by
          have h82 : s[i].toNat ≠ 82 := by simpa using hb8
          simpa using (show ¬ (s[i].toNat : Int) = 82 by omega)
        clear hb8
        go_enter Tryd.func140, Tryd.ntmps140
        go_wp2_with (go_at_call 60; refine KI.out.mono ?_; rintro e w' ⟨rfl, rfl⟩)
        go_ret3
        exact ⟨ret_int3 FIN.out, rfl⟩
    · have e : refK cf kl i = false := by unfold refK; rw [if_neg k2, if_neg k0]
      rw [e]
      obtain rfl : kl = -1 := by omega
      clear h ho e
      go_enter Tryd.func140, Tryd.ntmps140
      go_wp2_with (go_at_call 60; refine KI.out.mono ?_; rintro e w' ⟨rfl, rfl⟩)
      go_ret3
      exact ⟨ret_int3 FIN.out, rfl⟩

/-- No such value. -/
theorem place_no (r i : Int) (w : World) (h : Hp B hb ab gb bg cp cl cc cf n yt yp hp ht f1 t1 p1 wd bd mk w) (hr : (r < 1 ∨ (n : Int) < r ∨ bd (r - 1).toNat = false) ∨ ∃ (p : Nat) (kl : Int) (m : Nat), r = (p : Int) + 1 ∧ Obj1 n wd bd cl cf p kl m ∧ (i < 0 ∨ (m : Int) ≤ i)) :
    Calls Tryd.prog 140 #[.pointer (some ⟨hb, 0, none⟩), .int .i64 r, .int .i64 i] w fun e w' => e = .returned (.tuple #[.int .i64 0, .bool false, .bool false]) ∧ w = w' := by
  rcases hr with hr | ⟨p, kl, m, rfl, ho, hi⟩
  · have KI := Lib.hid (is_no r w h hr)
    clear h hr
    go_enter Tryd.func140, Tryd.ntmps140
    go_wp2_with (go_at_call 60; refine KI.out.mono ?_; rintro e w' ⟨rfl, rfl⟩)
    go_ret3
    exact ⟨rfl, rfl⟩
  · have KI := Lib.hid (is_yes p kl m w h ho)
    have hfit := ho.fit
    have sm := h.sm
    clear h ho
    by_cases h0 : i < 0
    · have t2 : decide (i < 0) = true := by simp; omega
      clear hi
      go_enter Tryd.func140, Tryd.ntmps140
      go_wp2_with (go_at_call 60; refine KI.out.mono ?_; rintro e w' ⟨rfl, rfl⟩)
      go_ret3
      exact ⟨rfl, rfl⟩
    · have t2 : decide (i < 0) = false := by simp; omega
      have t1 : decide ((m : Int) ≤ i) = true := by simp; omega
      clear hi
      go_enter Tryd.func140, Tryd.ntmps140
      go_wp2_with (go_at_call 60; refine KI.out.mono ?_; rintro e w' ⟨rfl, rfl⟩)
      go_ret3
      exact ⟨rfl, rfl⟩

theorem get_yes (p : Nat) (kl : Int) (m i : Nat) (w : World) (h : Hp B hb ab gb bg cp cl cc cf n yt yp hp ht f1 t1 p1 wd bd mk w) (ho : Obj1 n wd bd cl cf p kl m) (hi : i < m) :
    Calls Tryd.prog 151 #[.pointer (some ⟨hb, 0, none⟩), .int .i64 ((p : Int) + 1), .int .i64 i] w fun e w' => e = .returned (.tuple #[.int .i64 (wd (p + 2 + i)), .bool true]) ∧ w = w' := by
  have KP := Lib.hid (place_yes p kl m i w h ho hi)
  have c2 : w.cell? ⟨hb, 2, none⟩ = some (.pointer (some ⟨ab, 0, none⟩)) := h.cell 2
  have KL := Lib.hid (loadI ((p + 2 + i : Nat) : Int) (p + 2 + i) _ w h.ar rfl (by have := ho.fit; omega) rfl)
  generalize ((p + 2 + i : Nat) : Int) = z at *
  generalize wd (p + 2 + i) = v at *
  clear h ho
  go_enter Tryd.func151, Tryd.ntmps151
  go_wp2_with (first | (go_at_call 140; refine KP.out.mono ?_; rintro e w' ⟨rfl, rfl⟩) | (go_at_call 113; refine KL.out.mono ?_; rintro e w' ⟨rfl, rfl⟩))
  go_ret2
  exact ⟨rfl, rfl⟩

theorem get_no (r i : Int) (w : World) (h : Hp B hb ab gb bg cp cl cc cf n yt yp hp ht f1 t1 p1 wd bd mk w) (hr : (r < 1 ∨ (n : Int) < r ∨ bd (r - 1).toNat = false) ∨ ∃ (p : Nat) (kl : Int) (m : Nat), r = (p : Int) + 1 ∧ Obj1 n wd bd cl cf p kl m ∧ (i < 0 ∨ (m : Int) ≤ i)) :
    Calls Tryd.prog 151 #[.pointer (some ⟨hb, 0, none⟩), .int .i64 r, .int .i64 i] w fun e w' => e = .returned (.tuple #[.int .i64 0, .bool false]) ∧ w = w' := by
  have KP := Lib.hid (place_no r i w h hr)
  clear h hr
  go_enter Tryd.func151, Tryd.ntmps151
  go_wp2_with (go_at_call 140; refine KP.out.mono ?_; rintro e w' ⟨rfl, rfl⟩)
  go_ret2
  exact ⟨rfl, rfl⟩

theorem ref_yes (p : Nat) (kl : Int) (m i : Nat) (w : World) (h : Hp B hb ab gb bg cp cl cc cf n yt yp hp ht f1 t1 p1 wd bd mk w) (ho : Obj1 n wd bd cl cf p kl m) (hi : i < m) :
    Calls Tryd.prog 152 #[.pointer (some ⟨hb, 0, none⟩), .int .i64 ((p : Int) + 1), .int .i64 i] w fun e w' => e = .returned (.bool (refK cf kl i)) ∧ w = w' := by
  have KP := Lib.hid (place_yes p kl m i w h ho hi)
  generalize ((p + 2 + i : Nat) : Int) = z at *
  generalize refK cf kl i = b at *
  clear h ho
  go_enter Tryd.func152, Tryd.ntmps152
  go_wp2_with (go_at_call 140; refine KP.out.mono ?_; rintro e w' ⟨rfl, rfl⟩)
  go_ret
  exact ⟨rfl, rfl⟩

theorem ref_no (r i : Int) (w : World) (h : Hp B hb ab gb bg cp cl cc cf n yt yp hp ht f1 t1 p1 wd bd mk w) (hr : (r < 1 ∨ (n : Int) < r ∨ bd (r - 1).toNat = false) ∨ ∃ (p : Nat) (kl : Int) (m : Nat), r = (p : Int) + 1 ∧ Obj1 n wd bd cl cf p kl m ∧ (i < 0 ∨ (m : Int) ≤ i)) :
    Calls Tryd.prog 152 #[.pointer (some ⟨hb, 0, none⟩), .int .i64 r, .int .i64 i] w fun e w' => e = .returned (.bool false) ∧ w = w' := by
  have KP := Lib.hid (place_no r i w h hr)
  clear h hr
  go_enter Tryd.func152, Tryd.ntmps152
  go_wp2_with (go_at_call 140; refine KP.out.mono ?_; rintro e w' ⟨rfl, rfl⟩)
  go_ret
  exact ⟨rfl, rfl⟩

theorem inYoung_yes (p : Nat) (kl : Int) (m : Nat) (w : World) (h : Hp B hb ab gb bg cp cl cc cf n yt yp hp ht f1 t1 p1 wd bd mk w) (ho : Obj1 n wd bd cl cf p kl m) :
    Calls Tryd.prog 62 #[.pointer (some ⟨hb, 0, none⟩), .int .i64 ((p : Int) + 1)] w fun e w' => e = .returned (.bool (takenB p 0 yp)) ∧ w = w' := by
  have KI := Lib.hid (is_yes p kl m w h ho)
  have c3 : w.cell? ⟨hb, 3, none⟩ = some (.int .i64 0) := h.cell 3
  have c5 : w.cell? ⟨hb, 3 + 2, none⟩ = some (.int .i64 yp) := h.cell 5
  have KH := Lib.hid (hasG (s := hb) (o := 3) (p : Int) w c3 c5)
  have hl := ho.lt
  have sm := h.sm
  have s1 : IntKind.i64.wrap ((p : Int) + 1 - 1) = (p : Int) := by rw [IntWalk.i64_in _ (by omega)]; omega
  generalize takenB p 0 yp = b at *
  clear h ho c3 c5
  go_enter Tryd.func62, Tryd.ntmps62
  go_wp2_with (first | (go_at_call 60; refine KI.out.mono ?_; rintro e w' ⟨rfl, rfl⟩) | (go_at_call 117; refine KH.out.mono ?_; rintro e w' ⟨rfl, rfl⟩))
  go_ret
  exact ⟨rfl, rfl⟩
end

end Go.Proofs.YtflbjfcmnopfaaaDoor

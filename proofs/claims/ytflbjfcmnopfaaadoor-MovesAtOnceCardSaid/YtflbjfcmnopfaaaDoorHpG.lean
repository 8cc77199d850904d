/-
  A heap's methods: Put, where nothing is marked.
-/
import Derived.Test.YtflbjfcmnopfaaaDoorHpF
namespace Go.Proofs.YtflbjfcmnopfaaaDoor
open Go.RowKit

section
variable {B hb ab gb bg : Nat} {cp : Option Addr} {cl cc : Nat} {cf : Nat → ByteArray} {n : Nat} {yt yp hp ht f1 t1 p1 : Int} {wd : Nat → Int} {bd : Nat → Bool} {mk : Value}

def PutPost (B hb ab gb bg : Nat) (cp : Option Addr) (cl cc : Nat) (cf : Nat → ByteArray) (n : Nat) (yt yp hp ht f1 t1 p1 : Int) (wd : Nat → Int) (bd : Nat → Bool) (mk : Value) (w : World) (e : Ending) (w' : World) : Prop :=
  e = .returned (.bool true) ∧ Hp B hb ab gb bg cp cl cc cf n yt yp hp ht f1 t1 p1 wd bd mk w' ∧ Tri hb gb bg w w'

def putW (wd : Nat → Int) (j : Nat) (v : Int) : Nat → Int := fun i => if i = j then v else wd i

set_option maxRecDepth 100000 in
theorem put_plain (p : Nat) (kl : Int) (m i : Nat) (v : Int) (w : World) (h : Hp B hb ab gb bg cp cl cc cf n yt yp hp ht f1 t1 p1 wd bd mk w) (ho : Obj1 n wd bd cl cf p kl m) (hi : i < m) (hr : refK cf kl i = false ∨ v = 0) :
    Calls Tryd.prog 104 #[.pointer (some ⟨hb, 0, none⟩), .int .i64 ((p : Int) + 1), .int .i64 i, .int .i64 v] w
      (PutPost B hb ab gb bg cp cl cc cf n yt yp hp ht f1 t1 p1 (putW wd (p + 2 + i) v) bd mk w) := by
  have KP := Lib.hid (place_yes p kl m i w h ho hi)
  have c2 : w.cell? ⟨hb, 2, none⟩ = some (.pointer (some ⟨ab, 0, none⟩)) := h.cell 2
  have KS := Lib.hid (storeI ((p + 2 + i : Nat) : Int) (p + 2 + i) (v := v) w h.ar rfl (by have := ho.fit; omega))
  have H := Lib.hid h
  generalize refK cf kl i = b at *
  generalize ((p + 2 + i : Nat) : Int) = z at *
  clear h ho
  cases b with
  | false =>
    clear hr
    go_enter Tryd.func104, Tryd.ntmps104
    go_wp2_with (first | (go_at_call 140; refine KP.out.mono ?_; rintro e w' ⟨rfl, rfl⟩) | (go_at_call 142; refine KS.out.mono ?_; rintro e w2 ⟨rfl, hA, hg⟩))
    go_ret
    exact ⟨rfl, H.out.words _ hA hg, Tri.of_grown hg (.inr (.inl rfl))⟩
  | true =>
    obtain rfl : v = 0 := by simpa using hr
    clear hr
    go_enter Tryd.func104, Tryd.ntmps104
    go_wp2_with (first | (go_at_call 140; refine KP.out.mono ?_; rintro e w' ⟨rfl, rfl⟩) | (go_at_call 142; refine KS.out.mono ?_; rintro e w2 ⟨rfl, hA, hg⟩))
    go_ret
    exact ⟨rfl, H.out.words _ hA hg, Tri.of_grown hg (.inr (.inl rfl))⟩

set_option maxRecDepth 100000 in
theorem put_ref (p : Nat) (kl : Int) (m i q : Nat) (kq : Int) (mq : Nat) (w : World) (h : Hp B hb ab gb bg cp cl cc cf n yt yp hp ht f1 t1 p1 wd bd mk w) (ho : Obj1 n wd bd cl cf p kl m) (hi : i < m) (hr : refK cf kl i = true)
    (hq : Obj1 n wd bd cl cf q kq mq) (hm : ¬ (q : Int) < yp ∨ (p : Int) < yp) :
    Calls Tryd.prog 104 #[.pointer (some ⟨hb, 0, none⟩), .int .i64 ((p : Int) + 1), .int .i64 i, .int .i64 ((q : Int) + 1)] w
      (PutPost B hb ab gb bg cp cl cc cf n yt yp hp ht f1 t1 p1 (putW wd (p + 2 + i) ((q : Int) + 1)) bd mk w) := by
  have KP := Lib.hid (place_yes p kl m i w h ho hi)
  rw [hr] at KP
  have c2 : w.cell? ⟨hb, 2, none⟩ = some (.pointer (some ⟨ab, 0, none⟩)) := h.cell 2
  have c13 : w.cell? ⟨hb, 13, none⟩ = some (.slice (some ⟨bg, 0, none⟩) n n) := h.cell 13
  have sm := h.sm
  have hql := hq.lt
  have bq := h.bcell q hql
  rw [hq.beg] at bq
  have d1 : decide ((q : Int) + 1 < 0) = false := by simp; omega
  have d2 : decide ((n : Int) < (q : Int) + 1) = false := by simp; omega
  have d3 : ((q : Int) + 1 == 0) = false := by simp; omega
  have d4 : ((q : Int) + 1 != 0) = true := by simp; omega
  have s1 : IntKind.i64.wrap ((q : Int) + 1 - 1) = (q : Int) := by rw [IntWalk.i64_in _ (by omega)]; omega
  have s2 : (q : Int) + 1 - 1 = (q : Int) := by omega
  have KQ := Lib.hid (inYoung_yes q kq mq w h hq)
  have KR := Lib.hid (inYoung_yes p kl m w h ho)
  have hab : takenB q 0 yp = true → takenB p 0 yp = true := by
    intro h1
    simp [takenB] at h1 ⊢
    omega
  have KS := Lib.hid (storeI ((p + 2 + i : Nat) : Int) (p + 2 + i) (v := (q : Int) + 1) w h.ar rfl (by have := ho.fit; omega))
  have H := Lib.hid h
  generalize ((p + 2 + i : Nat) : Int) = z at *
  clear h ho hq hm hr
  by_cases hy : takenB q 0 yp = true
  · rw [hy] at KQ
    rw [hab hy] at KR
    clear hab hy
    go_enter Tryd.func104, Tryd.ntmps104
    go_wp2_with fail
    refine KP.out.mono ?_
    rintro e w' ⟨rfl, rfl⟩
    go_wp2_with fail
    refine KQ.out.mono ?_
    rintro e w' ⟨rfl, rfl⟩
    go_wp2_with fail
    refine KR.out.mono ?_
    rintro e w' ⟨rfl, rfl⟩
    go_wp2_with fail
    refine KS.out.mono ?_
    rintro e w2 ⟨rfl, hA, hg⟩
    go_wp2_with fail
    go_ret
    exact ⟨rfl, H.out.words _ hA hg, Tri.of_grown hg (.inr (.inl rfl))⟩
  · rw [Bool.not_eq_true] at hy
    rw [hy] at KQ
    clear hab hy KR
    go_enter Tryd.func104, Tryd.ntmps104
    go_wp2_with fail
    refine KP.out.mono ?_
    rintro e w' ⟨rfl, rfl⟩
    go_wp2_with fail
    refine KQ.out.mono ?_
    rintro e w' ⟨rfl, rfl⟩
    go_wp2_with fail
    refine KS.out.mono ?_
    rintro e w2 ⟨rfl, hA, hg⟩
    go_wp2_with fail
    go_ret
    exact ⟨rfl, H.out.words _ hA hg, Tri.of_grown hg (.inr (.inl rfl))⟩
end

end Go.Proofs.YtflbjfcmnopfaaaDoor

/-
  A heap's methods: Words, Need, make.
-/
import Derived.Test.YtflbjfcmnopfaaaDoorHpC
namespace Go.Proofs.YtflbjfcmnopfaaaDoor
open Go.RowKit

/-- How many values an object of a kind has. -/
def Kind (cl : Nat) (cf : Nat → ByteArray) (kl k : Int) (m : Nat) : Prop := (∃ c : Nat, kl = c ∧ c < cl ∧ m = (cf c).size) ∨ ((kl = -1 ∨ kl = -2) ∧ k = m ∧ m ≤ 50)

def IntPost (r : Int) (w : World) (e : Ending) (w' : World) : Prop := e = .returned (.int .i64 r) ∧ Below w.heap.size w w'

theorem words_any (ca : Option Addr) (nc cc : Nat) (ma : Option Addr) (nm mc : Nat) (cf : Nat → ByteArray) (kl k : Int) (m : Nat) (w : World) (hc : Cls w ca nc cc cf) (hk : Kind nc cf kl k m) (hm : m ≤ 1048576) :
    Calls Tryd.prog 184 #[progV ca nc cc ma nm mc, .int .i64 kl, .int .i64 k] w (IntPost (2 + m) w) := by
  have hcap := hc.max
  have hle := hc.le
  unfold maxLen at hcap
  unfold progV
  rcases hk with ⟨c, rfl, hlt, hsz⟩ | ⟨hn, rfl, h50⟩
  · obtain ⟨b, off, rfl, hb, hcell⟩ := Cls_at hc (by omega)
    have hc0 := hcell c hlt
    have hin : inside (c : Int) (nc : Int) = true := by simp [inside]; omega
    have KW := Lib.hid (within_any (c : Int) (nc : Int))
    rw [hin] at KW
    generalize cf c = s at *
    have HS := Lib.hid hsz
    have hss : s.size ≤ 1048576 := by omega
    clear hcell hc hin hsz
    go_enter Tryd.func184, Tryd.ntmps184
    go_wp2_with (go_at_call 138; refine (KW.out _).mono ?_; rintro e w' ⟨rfl, rfl⟩)
    go_ret
    exact ⟨ret_int (by rw [HS.out]), (Below.refl _ _).alloc (Nat.le_refl _) _⟩
  · have hin : inside kl (nc : Int) = false := by simp [inside]; omega
    have KW := Lib.hid (within_any kl (nc : Int))
    rw [hin] at KW
    clear hc hin
    rcases hn with rfl | rfl
    · go_enter Tryd.func184, Tryd.ntmps184
      go_wp2_with (go_at_call 138; refine (KW.out _).mono ?_; rintro e w' ⟨rfl, rfl⟩)
      go_ret
      exact ⟨rfl, (Below.refl _ _).alloc (Nat.le_refl _) _⟩
    · go_enter Tryd.func184, Tryd.ntmps184
      go_wp2_with (go_at_call 138; refine (KW.out _).mono ?_; rintro e w' ⟨rfl, rfl⟩)
      go_ret
      exact ⟨rfl, (Below.refl _ _).alloc (Nat.le_refl _) _⟩

section
variable {B hb ab gb bg : Nat} {cp : Option Addr} {cl cc : Nat} {cf : Nat → ByteArray} {n : Nat} {yt yp hp ht f1 t1 p1 : Int} {wd : Nat → Int} {bd : Nat → Bool} {mk : Value}

theorem need_yes (kl k : Int) (m : Nat) (w : World) (h : Hp B hb ab gb bg cp cl cc cf n yt yp hp ht f1 t1 p1 wd bd mk w) (hk : Kind cl cf kl k m) (hm : m ≤ 1048576) :
    Calls Tryd.prog 159 #[.pointer (some ⟨hb, 0, none⟩), .int .i64 kl, .int .i64 k] w fun e w' => e = .returned (.tuple #[.int .i64 (2 + m), .bool true]) ∧ Below w.heap.size w w' := by
  have c0 : w.cell? ⟨hb, 0, none⟩ = some (.slice cp cl cc) := h.cell 0
  have c1 : w.cell? ⟨hb, 1, none⟩ = some (.slice none 0 0) := h.cell 1
  have KW := Lib.hid (words_any cp cl cc none 0 0 cf kl k m w h.cls hk hm)
  unfold progV at KW
  have hp0 : (0 : Int) < 2 + m := by omega
  rcases hk with ⟨c, rfl, hlt, hsz⟩ | ⟨hn, rfl, h50⟩
  · clear h hsz
    go_enter Tryd.func159, Tryd.ntmps159
    go_wp2_with (go_at_call 184; refine KW.out.mono ?_; rintro e w' ⟨rfl, hb'⟩)
    go_ret2
    exact ⟨rfl, hb'⟩
  · clear h
    have d1 : decide (kl < 0) = true := by simp; omega
    have d2 : decide ((50 : Int) < (m : Int)) = false := by simp; omega
    have d3 : decide ((m : Int) < 0) = false := by simp
    clear hn
    go_enter Tryd.func159, Tryd.ntmps159
    go_wp2_with (go_at_call 184; refine KW.out.mono ?_; rintro e w' ⟨rfl, hb'⟩)
    go_ret2
    exact ⟨rfl, hb'⟩

def MakePost (B hb ab gb bg : Nat) (cp : Option Addr) (cl cc : Nat) (cf : Nat → ByteArray) (n : Nat) (yt yp hp ht f1 t1 p1 : Int) (wd : Nat → Int) (bd : Nat → Bool) (mk : Value) (r : Int) (w : World) (e : Ending) (w' : World) : Prop :=
  e = .returned (.tuple #[.int .i64 r, .bool true]) ∧ Hp B hb ab gb bg cp cl cc cf n yt yp hp ht f1 t1 p1 wd bd mk w' ∧ Tri hb gb bg w w'

/-- What is laid in at p for an object of a kl with m values. -/
def laidW (wd : Nat → Int) (kl : Int) (p m : Nat) : Nat → Int := fun j => if j = p then word kl m else if p ≤ j ∧ j < p + (m + 2) then 0 else wd j
def laidB (bd : Nat → Bool) (p : Nat) : Nat → Bool := fun j => if j = p then true else bd j

set_option maxHeartbeats 1000000 in
set_option maxRecDepth 100000 in
theorem make_young (kl k : Int) (m p : Nat) (w : World) (h : Hp B hb ab gb bg cp cl cc cf n yt p hp ht f1 t1 p1 wd bd mk w) (hk : Kind cl cf kl k m) (hm : m ≤ 1048576) (hc : kl < 12) (hroom : (p : Int) + (m + 2) ≤ yt) :
    Calls Tryd.prog 109 #[.pointer (some ⟨hb, 0, none⟩), .pointer (some ⟨hb, 3, none⟩), .int .i64 kl, .int .i64 k] w
      (MakePost B hb ab gb bg cp cl cc cf n yt ((p : Int) + (m + 2)) hp ht f1 t1 p1 (laidW wd kl p m) (laidB bd p) mk ((p : Int) + 1) w) := by
  have y0 := h.y0
  have y1 := h.y1
  have y2 := h.y2
  have y3 := h.y3
  have y4 := h.y4
  have sm := h.sm
  have hcl : -2 ≤ kl := by rcases hk with ⟨c, h1, _, _⟩ | ⟨h1 | h1, _, _⟩ <;> omega
  have H := Lib.hid h
  have HK := Lib.hid hk
  clear h hk
  go_enter Tryd.func109, Tryd.ntmps109
  go_wp2_with fail
  refine (need_yes kl k m _ H.out HK.out hm).mono ?_
  rintro e w1 ⟨rfl, hb1⟩
  have H1 := Lib.hid (H.out.below hb1)
  have T1 : Hid (Tri hb gb bg w w1) := Lib.hid (Tri.of_below hb1)
  clear hb1 H HK
  have k1 : w1.cell? ⟨hb, 3 + 1, none⟩ = some (.int .i64 yt) := H1.out.cell 4
  have k2 : w1.cell? ⟨hb, 3 + 2, none⟩ = some (.int .i64 p) := H1.out.cell 5
  have kf : w1.frozen? ⟨hb, 3 + 2, none⟩ = false := H1.out.frozen 5
  have KT := Lib.hid (takeG_yes (s := hb) (o := 3) (t := yt) (p := p) (2 + m) w1 k1 k2 kf (by omega) (by omega) (by omega) (by omega) (by omega))
  clear k1 k2 kf
  go_wp2_with fail
  refine KT.out.mono ?_
  rintro e w2 ⟨rfl, q, hw2⟩
  have H2 : Hid (Hp B hb ab gb bg cp cl cc cf n yt ((p : Int) + (m + 2)) hp ht f1 t1 p1 wd bd mk w2) := Lib.hid (by
    rw [hw2, show (p : Int) + (2 + m) = (p : Int) + (m + 2) by omega]
    exact (H1.out.drewN q).young _ (by omega) (by omega))
  have T2 : Hid (Tri hb gb bg w w2) := Lib.hid (by
    rw [hw2]
    exact (T1.out.drew q).trans (Tri.of_grown (grown_store _ hb 5 _) (.inl rfl)))
  clear hw2 H1 T1 KT
  have c2 : w2.cell? ⟨hb, 1, none⟩ = w2.cell? ⟨hb, 1, none⟩ := rfl
  clear c2
  have c2 : w2.cell? ⟨hb, 2, none⟩ = some (.pointer (some ⟨ab, 0, none⟩)) := H2.out.cell 2
  have s1 : IntKind.i64.wrap ((p : Int) + (2 + m)) = (p : Int) + (2 + m) := IntWalk.i64_in _ (by omega)
  have KCL := Lib.hid (clearI (p : Int) ((p : Int) + (2 + m)) p (m + 2) w2 H2.out.ar rfl (by omega) (by omega) (by omega))
  go_wp2_with fail
  refine KCL.out.mono ?_
  rintro e w3 ⟨rfl, hA3, hg3⟩
  have H3 := Lib.hid (H2.out.words _ hA3 hg3)
  have T3 : Hid (Tri hb gb bg w w3) := Lib.hid (T2.out.trans (Tri.of_grown hg3 (.inr (.inl rfl))))
  clear hA3 hg3 H2 T2 KCL c2 s1
  have c2 : w3.cell? ⟨hb, 2, none⟩ = some (.pointer (some ⟨ab, 0, none⟩)) := H3.out.cell 2
  have S4 : Hid (IntKind.i64.wrap ((2 : Int) + m - 2) = (m : Int)) := Lib.hid (by rw [IntWalk.i64_in _ (by omega)]; omega)
  have KS : ∀ v, Hid (Calls Tryd.prog 142 #[.pointer (some ⟨ab, 0, none⟩), .int .i64 p, .int .i64 v] w3.drew (ArnPost B ab gb n (fun j => if j = p then v else (if p ≤ j ∧ j < p + (m + 2) then 0 else wd j)) w3.drew)) := fun v => Lib.hid (storeI (v := v) (p : Int) p w3.drew (H3.out.ar.kept rfl rfl) rfl (by omega))
  go_wp2_with fail
  go_region_with (first | (go_at_call 162; refine (pack_any _ _ _).mono ?_; rintro e w' ⟨rfl, rfl⟩) | (go_at_call 142; refine (KS _).out.mono ?_; rintro e w4 ⟨rfl, hA4, hg4⟩))
  all_goals
    have hA5 := hA4.congr (f' := laidW wd kl p m) (fun j _ => by unfold laidW; rw [S4.out])
    have H4 := Lib.hid ((H3.out.drewN 1).words _ hA5 hg4)
    have T4 : Hid (Tri hb gb bg w w4) := Lib.hid ((T3.out.drew 1).trans (Tri.of_grown hg4 (.inr (.inl rfl))))
    clear hA4 hg4 hA5
    have b13 : w4.cell? ⟨hb, 13, none⟩ = some (.slice (some ⟨bg, 0, none⟩) n n) := H4.out.cell 13
    have bp := H4.out.bcell p (by omega)
    have bf := H4.out.bfrozen p
    have pn : p < n := by omega
    go_wp2_with fail
    go_ret2
    exact ⟨rfl, H4.out.begun p, T4.out.trans (Tri.of_grown (grown_store _ bg p _) (.inr (.inr rfl)))⟩

end

end Go.Proofs.YtflbjfcmnopfaaaDoor

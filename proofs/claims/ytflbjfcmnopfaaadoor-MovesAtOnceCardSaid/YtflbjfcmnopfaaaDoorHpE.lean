/-
  A heap's methods: make where there is no room; Young and Old.
-/
import Derived.Test.YtflbjfcmnopfaaaDoorHpD
namespace Go.Proofs.YtflbjfcmnopfaaaDoor
open Go.RowKit

section
variable {B hb ab gb bg : Nat} {cp : Option Addr} {cl cc : Nat} {cf : Nat → ByteArray} {n : Nat} {yt yp hp ht f1 t1 p1 : Int} {wd : Nat → Int} {bd : Nat → Bool} {mk : Value}

set_option maxHeartbeats 1000000 in
set_option maxRecDepth 100000 in
theorem make_old (kl k : Int) (m p : Nat) (w : World) (h : Hp B hb ab gb bg cp cl cc cf n yt yp p ht f1 t1 p1 wd bd mk w) (hk : Kind cl cf kl k m) (hm : m ≤ 1048576) (hc : kl < 12) (hroom : (p : Int) + (m + 2) ≤ ht) :
    Calls Tryd.prog 109 #[.pointer (some ⟨hb, 0, none⟩), .pointer (some ⟨hb, 6, none⟩), .int .i64 kl, .int .i64 k] w
      (MakePost B hb ab gb bg cp cl cc cf n yt yp ((p : Int) + (m + 2)) ht f1 t1 p1 (laidW wd kl p m) (laidB bd p) mk ((p : Int) + 1) w) := by
  have y0 := h.y0
  have y1 := h.y1
  have y2 := h.y2
  have y3 := h.y3
  have y4 := h.y4
  have sm := h.sm
  have hcl : -2 ≤ kl := by rcases hk with ⟨c, h1, _, _⟩ | ⟨h1 | h1, _, _⟩ <;> omega
  have H := Lib.hid h
  have HK := Lib.hid hk
  clear h hk
  go_enter Tryd.func109, Tryd.ntmps109
  go_wp2_with fail
  refine (need_yes kl k m _ H.out HK.out hm).mono ?_
  rintro e w1 ⟨rfl, hb1⟩
  have H1 := Lib.hid (H.out.below hb1)
  have T1 : Hid (Tri hb gb bg w w1) := Lib.hid (Tri.of_below hb1)
  clear hb1 H HK
  have k1 : w1.cell? ⟨hb, 6 + 1, none⟩ = some (.int .i64 ht) := H1.out.cell 7
  have k2 : w1.cell? ⟨hb, 6 + 2, none⟩ = some (.int .i64 p) := H1.out.cell 8
  have kf : w1.frozen? ⟨hb, 6 + 2, none⟩ = false := H1.out.frozen 8
  have KT := Lib.hid (takeG_yes (s := hb) (o := 6) (t := ht) (p := p) (2 + m) w1 k1 k2 kf (by omega) (by omega) (by omega) (by omega) (by omega))
  clear k1 k2 kf
  go_wp2_with fail
  refine KT.out.mono ?_
  rintro e w2 ⟨rfl, q, hw2⟩
  have H2 : Hid (Hp B hb ab gb bg cp cl cc cf n yt yp ((p : Int) + (m + 2)) ht f1 t1 p1 wd bd mk w2) := Lib.hid (by
    rw [hw2, show (p : Int) + (2 + m) = (p : Int) + (m + 2) by omega]
    exact (H1.out.drewN q).old _ (by omega) (by omega))
  have T2 : Hid (Tri hb gb bg w w2) := Lib.hid (by
    rw [hw2]
    exact (T1.out.drew q).trans (Tri.of_grown (grown_store _ hb 8 _) (.inl rfl)))
  clear hw2 H1 T1 KT
  have c2 : w2.cell? ⟨hb, 1, none⟩ = w2.cell? ⟨hb, 1, none⟩ := rfl
  clear c2
  have c2 : w2.cell? ⟨hb, 2, none⟩ = some (.pointer (some ⟨ab, 0, none⟩)) := H2.out.cell 2
  have s1 : IntKind.i64.wrap ((p : Int) + (2 + m)) = (p : Int) + (2 + m) := IntWalk.i64_in _ (by omega)
  have KCL := Lib.hid (clearI (p : Int) ((p : Int) + (2 + m)) p (m + 2) w2 H2.out.ar rfl (by omega) (by omega) (by omega))
  go_wp2_with fail
  refine KCL.out.mono ?_
  rintro e w3 ⟨rfl, hA3, hg3⟩
  have H3 := Lib.hid (H2.out.words _ hA3 hg3)
  have T3 : Hid (Tri hb gb bg w w3) := Lib.hid (T2.out.trans (Tri.of_grown hg3 (.inr (.inl rfl))))
  clear hA3 hg3 H2 T2 KCL c2 s1
  have c2 : w3.cell? ⟨hb, 2, none⟩ = some (.pointer (some ⟨ab, 0, none⟩)) := H3.out.cell 2
  have S4 : Hid (IntKind.i64.wrap ((2 : Int) + m - 2) = (m : Int)) := Lib.hid (by rw [IntWalk.i64_in _ (by omega)]; omega)
  have KS : ∀ v, Hid (Calls Tryd.prog 142 #[.pointer (some ⟨ab, 0, none⟩), .int .i64 p, .int .i64 v] w3.drew (ArnPost B ab gb n (fun j => if j = p then v else (if p ≤ j ∧ j < p + (m + 2) then 0 else wd j)) w3.drew)) := fun v => Lib.hid (storeI (v := v) (p : Int) p w3.drew (H3.out.ar.kept rfl rfl) rfl (by omega))
  go_wp2_with fail
  go_region_with (first | (go_at_call 162; refine (pack_any _ _ _).mono ?_; rintro e w' ⟨rfl, rfl⟩) | (go_at_call 142; refine (KS _).out.mono ?_; rintro e w4 ⟨rfl, hA4, hg4⟩))
  all_goals
    have hA5 := hA4.congr (f' := laidW wd kl p m) (fun j _ => by unfold laidW; rw [S4.out])
    have H4 := Lib.hid ((H3.out.drewN 1).words _ hA5 hg4)
    have T4 : Hid (Tri hb gb bg w w4) := Lib.hid ((T3.out.drew 1).trans (Tri.of_grown hg4 (.inr (.inl rfl))))
    clear hA4 hg4 hA5
    have b13 : w4.cell? ⟨hb, 13, none⟩ = some (.slice (some ⟨bg, 0, none⟩) n n) := H4.out.cell 13
    have bp := H4.out.bcell p (by omega)
    have bf := H4.out.bfrozen p
    have pn : p < n := by omega
    go_wp2_with fail
    go_ret2
    exact ⟨rfl, H4.out.begun p, T4.out.trans (Tri.of_grown (grown_store _ bg p _) (.inr (.inr rfl)))⟩

def NoPost (B hb ab gb bg : Nat) (cp : Option Addr) (cl cc : Nat) (cf : Nat → ByteArray) (n : Nat) (yt yp hp ht f1 t1 p1 : Int) (wd : Nat → Int) (bd : Nat → Bool) (mk : Value) (w : World) (e : Ending) (w' : World) : Prop :=
  e = .returned (.tuple #[.int .i64 0, .bool false]) ∧ Hp B hb ab gb bg cp cl cc cf n yt yp hp ht f1 t1 p1 wd bd mk w' ∧ Tri hb gb bg w w'

set_option maxHeartbeats 1000000 in
set_option maxRecDepth 100000 in
theorem make_young_no (kl k : Int) (m : Nat) (w : World) (h : Hp B hb ab gb bg cp cl cc cf n yt yp hp ht f1 t1 p1 wd bd mk w) (hk : Kind cl cf kl k m) (hm : m ≤ 1048576) (hroom : yt < yp + (m + 2)) :
    Calls Tryd.prog 109 #[.pointer (some ⟨hb, 0, none⟩), .pointer (some ⟨hb, 3, none⟩), .int .i64 kl, .int .i64 k] w
      (NoPost B hb ab gb bg cp cl cc cf n yt yp hp ht f1 t1 p1 wd bd mk w) := by
  have y0 := h.y0
  have y1 := h.y1
  have y2 := h.y2
  have y3 := h.y3
  have y4 := h.y4
  have sm := h.sm
  have H := Lib.hid h
  have HK := Lib.hid hk
  clear h hk
  go_enter Tryd.func109, Tryd.ntmps109
  go_wp2_with fail
  refine (need_yes kl k m _ H.out HK.out hm).mono ?_
  rintro e w1 ⟨rfl, hb1⟩
  have H1 := Lib.hid (H.out.below hb1)
  have T1 : Hid (Tri hb gb bg w w1) := Lib.hid (Tri.of_below hb1)
  clear hb1 H HK
  have k1 : w1.cell? ⟨hb, 3 + 1, none⟩ = some (.int .i64 yt) := H1.out.cell 4
  have k2 : w1.cell? ⟨hb, 3 + 2, none⟩ = some (.int .i64 yp) := H1.out.cell 5
  have KT := Lib.hid (takeG_no (s := hb) (o := 3) (t := yt) (p := yp) (2 + m) w1 k1 k2 (by omega) (by omega) (by omega) (by omega) (by omega))
  clear k1 k2
  go_wp2_with fail
  refine KT.out.mono ?_
  rintro e w2 ⟨rfl, q, rfl⟩
  clear KT
  go_wp2_with fail
  go_ret2
  exact ⟨rfl, H1.out.drewN q, T1.out.drew q⟩

set_option maxHeartbeats 1000000 in
set_option maxRecDepth 100000 in
theorem make_old_no (kl k : Int) (m : Nat) (w : World) (h : Hp B hb ab gb bg cp cl cc cf n yt yp hp ht f1 t1 p1 wd bd mk w) (hk : Kind cl cf kl k m) (hm : m ≤ 1048576) (hroom : ht < hp + (m + 2)) :
    Calls Tryd.prog 109 #[.pointer (some ⟨hb, 0, none⟩), .pointer (some ⟨hb, 6, none⟩), .int .i64 kl, .int .i64 k] w
      (NoPost B hb ab gb bg cp cl cc cf n yt yp hp ht f1 t1 p1 wd bd mk w) := by
  have y0 := h.y0
  have y1 := h.y1
  have y2 := h.y2
  have y3 := h.y3
  have y4 := h.y4
  have sm := h.sm
  have H := Lib.hid h
  have HK := Lib.hid hk
  clear h hk
  go_enter Tryd.func109, Tryd.ntmps109
  go_wp2_with fail
  refine (need_yes kl k m _ H.out HK.out hm).mono ?_
  rintro e w1 ⟨rfl, hb1⟩
  have H1 := Lib.hid (H.out.below hb1)
  have T1 : Hid (Tri hb gb bg w w1) := Lib.hid (Tri.of_below hb1)
  clear hb1 H HK
  have k1 : w1.cell? ⟨hb, 6 + 1, none⟩ = some (.int .i64 ht) := H1.out.cell 7
  have k2 : w1.cell? ⟨hb, 6 + 2, none⟩ = some (.int .i64 hp) := H1.out.cell 8
  have KT := Lib.hid (takeG_no (s := hb) (o := 6) (t := ht) (p := hp) (2 + m) w1 k1 k2 (by omega) (by omega) (by omega) (by omega) (by omega))
  clear k1 k2
  go_wp2_with fail
  refine KT.out.mono ?_
  rintro e w2 ⟨rfl, q, rfl⟩
  clear KT
  go_wp2_with fail
  go_ret2
  exact ⟨rfl, H1.out.drewN q, T1.out.drew q⟩

theorem young_yes (kl k : Int) (m p : Nat) (w : World) (h : Hp B hb ab gb bg cp cl cc cf n yt p hp ht f1 t1 p1 wd bd mk w) (hk : Kind cl cf kl k m) (hm : m ≤ 1048576) (hc : kl < 12) (hroom : (p : Int) + (m + 2) ≤ yt) :
    Calls Tryd.prog 58 #[.pointer (some ⟨hb, 0, none⟩), .int .i64 kl, .int .i64 k] w
      (MakePost B hb ab gb bg cp cl cc cf n yt ((p : Int) + (m + 2)) hp ht f1 t1 p1 (laidW wd kl p m) (laidB bd p) mk ((p : Int) + 1) w) := by
  have KM := Lib.hid (make_young kl k m p w h hk hm hc hroom)
  clear h hk
  go_enter Tryd.func58, Tryd.ntmps58
  go_wp2_with fail
  refine KM.out.mono ?_
  rintro e w1 ⟨rfl, h1⟩
  have H1 := Lib.hid h1
  clear h1 KM
  go_wp2_with fail
  go_ret2
  exact ⟨rfl, H1.out⟩

theorem young_no (kl k : Int) (m : Nat) (w : World) (h : Hp B hb ab gb bg cp cl cc cf n yt yp hp ht f1 t1 p1 wd bd mk w) (hk : Kind cl cf kl k m) (hm : m ≤ 1048576) (hroom : yt < yp + (m + 2)) :
    Calls Tryd.prog 58 #[.pointer (some ⟨hb, 0, none⟩), .int .i64 kl, .int .i64 k] w (NoPost B hb ab gb bg cp cl cc cf n yt yp hp ht f1 t1 p1 wd bd mk w) := by
  have KM := Lib.hid (make_young_no kl k m w h hk hm hroom)
  clear h hk
  go_enter Tryd.func58, Tryd.ntmps58
  go_wp2_with fail
  refine KM.out.mono ?_
  rintro e w1 ⟨rfl, h1⟩
  have H1 := Lib.hid h1
  clear h1 KM
  go_wp2_with fail
  go_ret2
  exact ⟨rfl, H1.out⟩

theorem old_yes (kl k : Int) (m p : Nat) (w : World) (h : Hp B hb ab gb bg cp cl cc cf n yt yp p ht f1 t1 p1 wd bd mk w) (hk : Kind cl cf kl k m) (hm : m ≤ 1048576) (hc : kl < 12) (hroom : (p : Int) + (m + 2) ≤ ht) :
    Calls Tryd.prog 185 #[.pointer (some ⟨hb, 0, none⟩), .int .i64 kl, .int .i64 k] w
      (MakePost B hb ab gb bg cp cl cc cf n yt yp ((p : Int) + (m + 2)) ht f1 t1 p1 (laidW wd kl p m) (laidB bd p) mk ((p : Int) + 1) w) := by
  have KO := Lib.hid (old_any w h)
  have KM : ∀ q, Hid (Calls Tryd.prog 109 #[.pointer (some ⟨hb, 0, none⟩), .pointer (some ⟨hb, 6, none⟩), .int .i64 kl, .int .i64 k] (w.drewN q) (MakePost B hb ab gb bg cp cl cc cf n yt yp ((p : Int) + (m + 2)) ht f1 t1 p1 (laidW wd kl p m) (laidB bd p) mk ((p : Int) + 1) (w.drewN q))) := fun q => Lib.hid (make_old kl k m p _ (h.drewN q) hk hm hc hroom)
  clear h hk
  go_enter Tryd.func185, Tryd.ntmps185
  go_wp2_with fail
  refine KO.out.mono ?_
  rintro e w1 ⟨rfl, q, rfl⟩
  have KN := KM q
  clear KM KO
  go_wp2_with fail
  refine KN.out.mono ?_
  rintro e w1 ⟨rfl, h1, h2⟩
  have H1 := Lib.hid h1
  have H2 := Lib.hid h2
  clear h1 h2 KN
  go_wp2_with fail
  go_ret2
  exact ⟨rfl, H1.out, H2.out.os, H2.out.tape, H2.out.output, H2.out.size, H2.out.block⟩

theorem old_no (kl k : Int) (m : Nat) (w : World) (h : Hp B hb ab gb bg cp cl cc cf n yt yp hp ht f1 t1 p1 wd bd mk w) (hk : Kind cl cf kl k m) (hm : m ≤ 1048576) (hroom : ht < hp + (m + 2)) :
    Calls Tryd.prog 185 #[.pointer (some ⟨hb, 0, none⟩), .int .i64 kl, .int .i64 k] w (NoPost B hb ab gb bg cp cl cc cf n yt yp hp ht f1 t1 p1 wd bd mk w) := by
  have KO := Lib.hid (old_any w h)
  have KM : ∀ q, Hid (Calls Tryd.prog 109 #[.pointer (some ⟨hb, 0, none⟩), .pointer (some ⟨hb, 6, none⟩), .int .i64 kl, .int .i64 k] (w.drewN q) (NoPost B hb ab gb bg cp cl cc cf n yt yp hp ht f1 t1 p1 wd bd mk (w.drewN q))) := fun q => Lib.hid (make_old_no kl k m _ (h.drewN q) hk hm hroom)
  clear h hk
  go_enter Tryd.func185, Tryd.ntmps185
  go_wp2_with fail
  refine KO.out.mono ?_
  rintro e w1 ⟨rfl, q, rfl⟩
  have KN := KM q
  clear KM KO
  go_wp2_with fail
  refine KN.out.mono ?_
  rintro e w1 ⟨rfl, h1, h2⟩
  have H1 := Lib.hid h1
  have H2 := Lib.hid h2
  clear h1 h2 KN
  go_wp2_with fail
  go_ret2
  exact ⟨rfl, H1.out, H2.out.os, H2.out.tape, H2.out.output, H2.out.size, H2.out.block⟩

theorem room_any (w : World) (h : Hp B hb ab gb bg cp cl cc cf n yt yp hp ht f1 t1 p1 wd bd mk w) :
    Calls Tryd.prog 61 #[.pointer (some ⟨hb, 0, none⟩)] w (PairPost (yt - yp) (ht - hp) w) := by
  have y0 := h.y0
  have y1 := h.y1
  have y2 := h.y2
  have y3 := h.y3
  have y4 := h.y4
  have sm := h.sm
  have k1 : w.cell? ⟨hb, 3 + 1, none⟩ = some (.int .i64 yt) := h.cell 4
  have k2 : w.cell? ⟨hb, 3 + 2, none⟩ = some (.int .i64 yp) := h.cell 5
  have j1 : w.cell? ⟨hb, 6 + 1, none⟩ = some (.int .i64 ht) := h.cell 7
  have j2 : w.cell? ⟨hb, 6 + 2, none⟩ = some (.int .i64 hp) := h.cell 8
  have KR := Lib.hid (roomG (s := hb) (o := 3) (t := yt) (p := yp) w k1 k2 (by omega) (by omega) (by omega))
  have KO : ∀ q, Hid (Calls Tryd.prog 116 #[.pointer (some ⟨hb, 0, none⟩)] (w.drewN q) fun e w' => e = .returned (.pointer (some ⟨hb, 6, none⟩)) ∧ ∃ r, w' = (w.drewN q).drewN r) := fun q => Lib.hid (old_any _ (h.drewN q))
  have KR2 : ∀ q, Hid (Calls Tryd.prog 115 #[.pointer (some ⟨hb, 6, none⟩)] (w.drewN q) (RoomPost (ht - hp) (w.drewN q))) := fun q => Lib.hid (roomG (s := hb) (o := 6) (t := ht) (p := hp) _ j1 j2 (by omega) (by omega) (by omega))
  clear h k1 k2 j1 j2
  go_enter Tryd.func61, Tryd.ntmps61
  go_wp2_with fail
  refine KR.out.mono ?_
  rintro e w1 ⟨rfl, q, rfl⟩
  go_wp2_with fail
  refine (KO q).out.mono ?_
  rintro e w1 ⟨rfl, r, rfl⟩
  rw [World.drewN_drewN]
  go_wp2_with fail
  refine (KR2 _).out.mono ?_
  rintro e w1 ⟨rfl, t, rfl⟩
  rw [World.drewN_drewN]
  go_wp2_with fail
  go_ret2
  exact ⟨rfl, _, rfl⟩

end

end Go.Proofs.YtflbjfcmnopfaaaDoor

/-
  HeapLeast: the law's walk.
-/
import Derived.Test.YtbpamcgmhnnmnaaDoorHFst2
import Derived.Test.YtbpamcgmhnnmnaaDoorLow
namespace Go.Proofs.YtbpamcgmhnnmnaaDoor
open Go.RowKit

theorem new_none (ma : Option Addr) (n y : Nat) (x z : Int) (w : World) (hx : x = n) (hz : z = y) (hn : n ≤ 65536) (hy : y ≤ n) :
    Calls Tryd.prog 68 #[.agg #[.slice none 0 0, .slice ma 1 1], .int .i64 x, .int .i64 z] w (NewHPost 0 irF n y w) := by
  subst hx; subst hz
  exact new_heap none 0 0 ma 1 1 irF n y w ⟨Nat.le_refl _, Nat.zero_le _, fun _ => rfl, fun ad h => (by cases h)⟩ (by decide) hn hy

/-- A program without classes, of one method that answers nothing, in its box. -/
def progW (w : World) : World :=
  ((w.alloc (.cells #[.int .i64 33, .int .i64 0, .int .i64 0, .int .i64 0] 67)).alloc (.cells #[.string ⟨#[]⟩, .string ⟨#[]⟩, .string ⟨#[]⟩, .slice (some ⟨w.heap.size, 0, none⟩) 1 1] 62)).alloc (.cells #[.slice none 0 0, .slice (some ⟨w.heap.size + 1, 0, none⟩) 1 1] 46)

theorem progW_box (w w' : World) (hb : Below (progW w).heap.size (progW w) w') : w'.cell? ⟨w.heap.size + 1 + 1, 0, none⟩ = some (.slice none 0 0) ∧ w'.cell? ⟨w.heap.size + 1 + 1, 1, none⟩ = some (.slice (some ⟨w.heap.size + 1, 0, none⟩) 1 1) := by
  have h0 : (progW w).heap[w.heap.size + 1 + 1]? = some (.cells #[.slice none 0 0, .slice (some ⟨w.heap.size + 1, 0, none⟩) 1 1] 46 (0, 0)) := by
    have := heap_alloc_new ((w.alloc (.cells #[.int .i64 33, .int .i64 0, .int .i64 0, .int .i64 0] 67)).alloc (.cells #[.string ⟨#[]⟩, .string ⟨#[]⟩, .string ⟨#[]⟩, .slice (some ⟨w.heap.size, 0, none⟩) 1 1] 62)) (.cells #[.slice none 0 0, .slice (some ⟨w.heap.size + 1, 0, none⟩) 1 1] 46)
    rw [World.size_alloc, World.size_alloc] at this
    exact this
  have h1 := (hb.block _ (Array.getElem?_eq_some_iff.1 h0).1).trans h0
  exact ⟨by rw [cell_of_row w' _ 0 _ _ (0, 0) h1]; rfl, by rw [cell_of_row w' _ 1 _ _ (0, 0) h1]; rfl⟩

theorem progW_below (w : World) : Below w.heap.size w (progW w) := (((Below.refl _ _).alloc (Nat.le_refl _) _).alloc (by simp) _).alloc (by simp; omega) _

set_option maxHeartbeats 2000000 in
set_option maxRecDepth 100000 in
theorem least_main (x y : Int) (w : World) (_hx : (Lit.int .i64 x).wf = true) (_hy : (Lit.int .i64 y).wf = true) : Calls Tryd.prog 9 #[.int .i64 x, .int .i64 y] w (TruePost w) := by
  have e1 := lowb13_i64 x
  have e2 := lowb12_i64 y
  obtain ⟨a, ha⟩ : ∃ a : Nat, x % 8192 = (a : Int) := ⟨(x % 8192).toNat, by omega⟩
  obtain ⟨b, hb⟩ : ∃ b : Nat, y % 4096 = (b : Int) := ⟨(y % 4096).toNat, by omega⟩
  have ha1 : a < 8192 := by omega
  have hb1 : b < 4096 := by omega
  rw [ha] at e1
  rw [hb] at e2
  clear ha hb
  have s1 : IntKind.i64.wrap ((a : Int) + b) = (a : Int) + b := IntWalk.i64_in _ (by omega)
  obtain ⟨n, hn⟩ : ∃ n : Nat, 2 * ((a : Int) + b) + b = (n : Int) := ⟨2 * (a + b) + b, by omega⟩
  have hn1 : n = 2 * (a + b) + b := by omega
  have HN := Lib.hid hn1
  have hnl : n ≤ 65536 := by omega
  have hbn : b ≤ n := by omega
  have s2 : IntKind.i64.wrap ((n : Int) - 1) = (n : Int) - 1 := IntWalk.i64_in _ (by omega)
  go_enter Tryd.func9, Tryd.ntmps9
  go_wp2_with fail
  refine (hfirst _).mono ?_
  rintro e w1 ⟨rfl, hB1⟩
  have B1 : Hid (Below w.heap.size w (progW w1)) := Lib.hid (hB1.trans ((progW_below w1).mono hB1.size))
  have BOX : Hid (∀ w', Below (progW w1).heap.size (progW w1) w' → w'.cell? ⟨w1.heap.size + 1 + 1, 0, none⟩ = some (.slice none 0 0) ∧ w'.cell? ⟨w1.heap.size + 1 + 1, 1, none⟩ = some (.slice (some ⟨w1.heap.size + 1, 0, none⟩) 1 1)) := Lib.hid (progW_box w1)
  have KL := least_any none 0 0 (some ⟨w1.heap.size + 1, 0, none⟩) 1 1 (a : Int) (b : Int) (progW w1) (by omega) (by omega) (by omega) (by omega)
  rw [hn] at KL
  unfold progV at KL
  have KLH := Lib.hid KL
  obtain ⟨W, hW⟩ : ∃ W, progW w1 = W := ⟨_, rfl⟩
  rw [hW] at KLH B1 BOX
  unfold progW at hW
  have HW := Lib.hid hW
  obtain ⟨pb, hpb⟩ : ∃ pb, w1.heap.size + 1 + 1 = pb := ⟨_, rfl⟩
  rw [hpb] at BOX
  have HPB := Lib.hid hpb
  clear hB1 KL hW hn hn1 hpb
  go_wp2_with fail
  rw [HW.out]
  refine KLH.out.mono ?_
  rintro e w2 ⟨rfl, hb2⟩
  have B2 := Lib.hid hb2
  obtain ⟨c0, c1⟩ := BOX.out w2 hb2
  rw [← HPB.out] at c0 c1
  clear hb2 KLH HW
  go_wp2_with fail
  refine (new_none _ n b _ _ _ rfl rfl hnl hbn).mono ?_
  rintro e w3 ⟨hb, ab, gb, bg, cp, cx, rfl, h3, hb3⟩
  have H3 := Lib.hid h3
  have B3 := Lib.hid (B2.out.trans (hb3.mono B2.out.size))
  clear h3 hb3 c0 c1 B2
  go_wp2_with fail
  refine (size_any _ H3.out).mono ?_
  rintro e w4 ⟨rfl, q, rfl⟩
  have B4 := Lib.hid (below_drewN B3.out q)
  obtain ⟨c0, c1⟩ := BOX.out _ B4.out
  rw [← HPB.out] at c0 c1
  clear H3 B3
  generalize w3.drewN q = w4 at *
  obtain ⟨r, hr⟩ : ∃ r : Int, (b : Int) + ((n : Int) - b) / 2 - b = r := ⟨_, rfl⟩
  have hr1 : r = (a : Int) + b := by have := HN.out; omega
  rw [hr, hr1]
  clear hr hr1 r
  have d1 : decide ((a : Int) + b < (a : Int) + b) = false := by simp
  have KM := Lib.hid (least_less none 0 0 (some ⟨w1.heap.size + 1, 0, none⟩) 1 1 w4)
  unfold progV at KM
  go_wp2_with fail
  refine KM.out.mono ?_
  rintro e w5 ⟨rfl, hb5⟩
  have B5 := Lib.hid (B4.out.trans (hb5.mono B4.out.size))
  obtain ⟨c2, c3⟩ := BOX.out _ B5.out
  rw [← HPB.out] at c2 c3
  clear hb5 B4 c0 c1 KM
  by_cases hlt : (n : Int) - 1 < (b : Int)
  · have z1 : (a : Int) + b = 0 := by have := HN.out; omega
    have d2 : decide ((n : Int) - 1 < (b : Int)) = true := by simpa using hlt
    have d3 : ((a : Int) + b == 0) = true := by simpa using z1
    have FIN : Hid (Below w.heap.size w w5) := Lib.hid (B1.out.trans (B5.out.mono B1.out.size))
    have FTR : Hid (decide ((a : Int) + b = 0) = true) := Lib.hid (by simpa using z1)
    clear z1 BOX hlt
    go_wp2_with fail
    go_ret
    exact ⟨rfl, FIN.out⟩
  · have d2 : decide ((n : Int) - 1 < (b : Int)) = false := by simpa using hlt
    obtain ⟨m, hm⟩ : ∃ m : Nat, (n : Int) - 1 = (m : Int) := ⟨n - 1, by omega⟩
    have hm1 : m = n - 1 ∧ 1 ≤ n := by omega
    have HM := Lib.hid hm1
    have KN := Lib.hid (new_none (some ⟨w1.heap.size + 1, 0, none⟩) m b ((n : Int) - 1) (b : Int) w5 hm rfl (by omega) (by omega))
    clear hm hm1 hlt
    go_wp2_with fail
    refine KN.out.mono ?_
    rintro e w6 ⟨hb', ab', gb', bg', cp', cx', rfl, h6, hb6⟩
    have H6 := Lib.hid h6
    have B6 : Hid (Below w.heap.size w w6) := Lib.hid (B1.out.trans ((B5.out.trans (hb6.mono B5.out.size)).mono B1.out.size))
    clear h6 hb6 KN c2 c3 BOX B5 B1
    go_wp2_with fail
    refine (size_any _ H6.out).mono ?_
    rintro e w7 ⟨rfl, q7, rfl⟩
    obtain ⟨r, hr⟩ : ∃ r : Int, (b : Int) + ((m : Int) - b) / 2 - b = r := ⟨_, rfl⟩
    have hr1 : decide (r < (a : Int) + b) = true := by have := HN.out; have := HM.out; simp; omega
    rw [hr]
    clear hr
    go_wp2_with fail
    go_ret
    exact ⟨rfl, below_drewN B6.out q7⟩

end Go.Proofs.YtbpamcgmhnnmnaaDoor

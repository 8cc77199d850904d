/-
  The document's blocks, by a contract.
-/
import Derived.Test.YtchechdcebmoeaaDoorRfP
import Derived.Test.YtchechdcebmoeaaDoorSrtB
import Derived.Deep.RegionHeld3
namespace Go.Proofs.YtchechdcebmoeaaDoor
open Go.RowKit

def Rf1 (H n : Nat) (gv : Nat → Nat → Int) (W : World) (s5 : Value) (wr : World) : Prop :=
  ∃ k : Nat, k ≤ n ∧ s5 = .int .i64 k ∧ SeenAt H H (n + 1) (rhF gv k) wr ∧ Below H W wr

/-- The row of blocks while it grows; the block of each instruction. -/
def Rf2 (N nb n : Nat) (f : Nat → Bool) (W : World) (s7 s9 : Value) (wr : World) : Prop :=
  ∃ pc : Nat, pc ≤ n ∧ s9 = .int .i64 pc ∧ wr.ownsRow N 79 4 s7 (nB f pc) (blRows (frB f n) (nB f pc) n) ∧ NumR nb (n + 1) (fun q => if q < pc then atB f q else 0) wr ∧ Below nb W wr

theorem num_next (f : Nat → Bool) (pc x : Nat) (hx : x = atB f pc) (q : Nat) : updV (fun q => if q < pc then atB f q else 0) pc x q = if q < pc + 1 then atB f q else 0 := by
  unfold updV
  by_cases e : q = pc
  · rw [if_pos e, if_pos (by omega), e, hx]
  · rw [if_neg e]
    dsimp only
    by_cases h : q < pc
    · rw [if_pos h, if_pos (by omega)]
    · rw [if_neg h, if_neg (by omega)]

theorem own_ptr {w : World} {B e size n : Nat} {v : Value} {xs : List Value} (h : w.ownsRow B e size v (n + 1) xs) : ∃ g c, v = .slice (some ⟨g, 0, none⟩) (n + 1) c ∧ n + 1 ≤ c ∧ c ≤ maxLen ∧ B ≤ g := by
  rcases h.2 with ⟨_, h1⟩ | ⟨g, cap, cur, hv, hb, hg, h2, h3, h4, h5⟩
  · omega
  · exact ⟨g, cap, hv, h2, h3, hb⟩
theorem own_cell {w : World} {B e size g n c : Nat} {xs : List Value} (h : w.ownsRow B e size (.slice (some ⟨g, 0, none⟩) n c) n xs) (j : Nat) (hj : j < n * size) : (∃ x, w.cell? ⟨g, j, none⟩ = some x) ∧ w.frozen? ⟨g, j, none⟩ = false := by
  rcases h.2 with ⟨h1, _⟩ | ⟨g2, cap, cur, hv, hb, hg, h2, h3, h4, h5⟩
  · cases h1
  · cases hv
    have hlt : j < cur.size := by
      have := Nat.mul_le_mul_right size h2
      omega
    exact ⟨⟨cur[j], by rw [cell_of_row w g j _ e (0, 0) hg]; simp [hlt]⟩, frozen_of_row w g j _ e hg⟩

/-- The ways on of the first b blocks. -/
def Rf3 (W : World) (ob nb Z n L : Nat) (fr aF : Nat → Nat) (X : Nat → Value) (S : Nat → List Int) (s10 : Value) (wr : World) : Prop :=
  ∃ b : Nat, b ≤ L ∧ s10 = .int .i64 b ∧ ∃ vs, (0 < L → RfS W ob nb Z (n + 1) (rfC fr vs L X) aF wr) ∧ Fam W.heap.size (2 * L) vs (famS S [] b) wr ∧ (∀ i, b ≤ i → i < L → vs (2 * i) = .slice none 0 0) ∧ Below nb W wr
/-- The ways on of block b, so far; the list that they are read from. -/
def Rf3a (W wN : World) (ob nb Z n L : Nat) (fr aF : Nat → Nat) (X : Nat → Value) (S : Nat → List Int) (f : Nat → Bool) (nx : List Int) (b : Nat) (s12 : Value) (wr : World) : Prop :=
  ∃ k : Nat, k ≤ nx.length ∧ s12 = .int .i64 k ∧ ∃ vs, RfS W ob nb Z (n + 1) (rfC fr vs L X) aF wr ∧ Fam W.heap.size (2 * L) vs (famS S (sucP f n nx k) b) wr ∧
    (∀ j, j < wN.heap.size → W.heap.size ≤ j → (vs (2 * b)).ownBlock ≠ some j) ∧ (∀ j, j < wN.heap.size → W.heap.size ≤ j → wr.heap[j]? = wN.heap[j]?) ∧ wN.heap.size ≤ wr.heap.size ∧ ∀ i, b < i → i < L → vs (2 * i) = .slice none 0 0

/-- Who comes, for the first blocks; for the first ways of the next one. -/
def Rf5 (W : World) (ob nb Z n L : Nat) (fr aF : Nat → Nat) (X : Nat → Value) (S : Nat → List Int) (s13 : Value) (wr : World) : Prop :=
  ∃ i : Nat, i ≤ L ∧ s13 = .int .i64 i ∧ ∃ vs, (0 < L → RfS W ob nb Z (n + 1) (rfC fr vs L X) aF wr) ∧ Fam W.heap.size (2 * L) vs (famP S i 0) wr ∧ Below nb W wr
def Rf5a (W : World) (ob nb Z n L : Nat) (fr aF : Nat → Nat) (X : Nat → Value) (S : Nat → List Int) (i : Nat) (s14 : Value) (wr : World) : Prop :=
  ∃ k : Nat, k ≤ (S i).length ∧ s14 = .int .i64 k ∧ ∃ vs, RfS W ob nb Z (n + 1) (rfC fr vs L X) aF wr ∧ Fam W.heap.size (2 * L) vs (famP S i k) wr

/-- What stands below the rows as they were made. -/
theorem RfS.below {W : World} {ob nb Z n : Nat} {C : Nat → Value} {aF : Nat → Nat} {wr : World} (h : RfS W ob nb Z n C aF wr) (hb : nb ≤ ob) (hM : nb ≤ W.heap.size) : Below nb W wr :=
  ⟨h.os.1, h.os.2.1, h.os.2.2, h.size, fun k hk => h.keep k (by omega) (by omega) (by omega)⟩

def RofPost (n : Nat) (gv : Nat → Nat → Int) (w : World) (e : Ending) (w' : World) : Prop :=
  ∃ oa oc vs B2, e = .returned (.slice oa (nB (hdF n gv n) n) oc) ∧ (0 < nB (hdF n gv n) n → ∃ ob X, oa = some ⟨ob, 0, none⟩ ∧ nB (hdF n gv n) n ≤ oc ∧ w'.heap[ob]? = some (.cells ((List.range (oc * 4)).map (rfC (frB (hdF n gv n) n) vs (nB (hdF n gv n) n) X)).toArray 79 (0, 0))) ∧
    Fam B2 (2 * nB (hdF n gv n) n) vs (famF (sucF n gv (hdF n gv n)) [] (nB (hdF n gv n) n) 0) w' ∧ w.heap.size ≤ B2 ∧ Below w.heap.size w w'

set_option maxHeartbeats 8000000 in
set_option maxRecDepth 100000 in
theorem rof_any (ps ls rt : ByteArray) (co : Option Addr) (len cap : Nat) (gv : Nat → Nat → Int) (w : World) (h : Picks w co len cap gv) (hl : len ≤ 140) (hA : ∀ i, i < len → gv i 0 = 22 ∨ gv i 0 = 23 → 0 ≤ gv i 1 ∧ gv i 1 < (len : Int)) :
    Calls Tryd.prog 46 #[.agg #[.string ps, .string ls, .string rt, .slice co len cap]] w (RofPost len gv w) := by
  have hb1 : Below w.heap.size w (w.alloc (.cells #[.string ps, .string ls, .string rt, .slice co len cap] 46)) := (Below.refl _ _).alloc (Nat.le_refl _) _
  have hnew := heap_alloc_new w (.cells #[.string ps, .string ls, .string rt, .slice co len cap] 46)
  have HP := Lib.hid h
  have HA := Lib.hid hA
  have HF := Lib.hid (rhF_hd len gv hA)
  have HSR := Lib.hid (suc_rises len gv hA)
  have HNP := Lib.hid (nextM_pos len gv hA)
  have HZ : Hid (0 < len → hdF len gv len 0 = true) := Lib.hid fun h0 => hd_zero len gv h0 len
  have HWF : Hid (∀ i, i < len → gv i 0 = 22 ∨ gv i 0 = 23 → (Lit.int .i64 (gv i 1)).wf = true) := Lib.hid fun i hi h => by
    have := hA i hi h
    exact wf64 (by omega) (by omega)
  unfold RofPost
  obtain ⟨f, hf⟩ : ∃ f, hdF len gv len = f := ⟨_, rfl⟩
  rw [hf] at HSR HZ ⊢
  have HFE := Lib.hid hf
  obtain ⟨i0, hi, hz0, hz1, hz2⟩ := info_parts intinfoW
  have HI := Lib.hid hi
  have HZ0 := Lib.hid hz0
  have HZ1 := Lib.hid hz1
  have HZ2 := Lib.hid hz2
  obtain ⟨ib, hib, hy0, hy1, hy2⟩ := info_parts boolinfo
  have HIB := Lib.hid hib
  have HY0 := Lib.hid hy0
  have HY1 := Lib.hid hy1
  have HY2 := Lib.hid hy2
  have HM := Lib.hid (show len + 1 ≤ maxLen by unfold maxLen; omega)
  have HMB := Lib.hid (show 8 * (len + 1) ≤ 281474976710656 by omega)
  have HMB1 := Lib.hid (show 1 * (len + 1) ≤ 281474976710656 by omega)
  have HB1 := Lib.hid hb1
  have HNEW := Lib.hid hnew
  clear h hb1 hnew hA hf hi hz0 hz1 hz2 hib hy0 hy1 hy2
  have HCP : Hid (cap ≤ maxLen ∧ len ≤ cap) := Lib.hid ⟨HP.out.max, HP.out.le⟩
  have hcp1 := HCP.out.1
  have hcp2 := HCP.out.2
  unfold maxLen at hcp1
  have tw : IntKind.i64.wrap ((len : Int) + 1) = (len : Int) + 1 := IntWalk.i64_in _ (by omega)
  go_enter Tryd.func46, Tryd.ntmps46
  have c3 := (cell_of_row _ w.heap.size 3 _ 46 (0, 0) HNEW.out).trans (show _ = some (Value.slice co len cap) from rfl)
  go_wp2_with (at_make; refine wpList_make_len _ rfl (.tmp 20) (.tmp 20) 84 rfl (w.alloc (.cells #[.string ps, .string ls, .string rt, .slice co len cap] 46)).heap.size 4 ib (.bool false) 1 Tryd.underlying84 HIB.out HY0.out HY1.out HY2.out rfl .i64 .i64 ((len : Int) + 1) ((len : Int) + 1) (len + 1) (len + 1) rfl rfl (by omega) (by omega) (Nat.le_refl _) HMB1.out HM.out (Nat.le_refl _) ?_; intro w6 hown6 hg6; have hS6 := Lib.hid (seenAt_made hown6); have hB6 := Lib.hid (Below.grown (Below.refl _ (w.alloc (.cells #[.string ps, .string ls, .string rt, .slice co len cap] 46))) hg6 (Nat.le_refl _) (by simp)); clear hown6 hg6)
  have hsz1 : (w.alloc (.cells #[.string ps, .string ls, .string rt, .slice co len cap] 46)).heap.size = w.heap.size + 1 := World.size_alloc _ _
  generalize (w.alloc (.cells #[.string ps, .string ls, .string rt, .slice co len cap] 46)) = w1 at *
  obtain ⟨H, hH0⟩ : ∃ H, w.heap.size + 1 = H := ⟨_, rfl⟩
  have hH : w1.heap.size = H := hsz1.trans hH0
  have HH := Lib.hid hH
  have R0 : Hid (Rf1 H len gv w1 (.int .i64 0) w6) := Lib.hid ⟨0, Nat.zero_le _, rfl, by rw [← hH]; exact hS6.out, by rw [← hH]; exact hB6.out⟩
  have HN1 : Hid (w.heap.size < H) := Lib.hid (by rw [← hH]; exact (Array.getElem?_eq_some_iff.1 HNEW.out).1)
  rw [hH0]
  clear hS6 hB6 c3 tw hH hH0 hsz1
  go_loopw [5] (fun s5 wr => Rf1 H len gv w1 s5 wr) (fun s5 _ => len - (intOf s5).toNat)
  case atStart => exact R0.out
  case round =>
    clear R0
    obtain ⟨k, hk, rfl, hS, hB⟩ := hrel
    have hB3 : Below w1.heap.size w1 wr := by rw [HH.out]; exact hB
    have cm := (hB3.cell (p := ⟨w.heap.size, 3, none⟩) (Array.getElem?_eq_some_iff.1 HNEW.out).1).trans ((cell_of_row w1 w.heap.size 3 _ 46 (0, 0) HNEW.out).trans (show _ = some (Value.slice co len cap) from rfl))
    by_cases hlt : k < len
    · have t1 : decide ((k : Int) < len) = true := by simp; omega
      have t1' : decide (k < len) = true := by simpa using hlt
      obtain ⟨lb, lo, rfl, hlb, hc⟩ := Picks_at HP.out (by omega)
      have hlb1 := Nat.lt_of_lt_of_le hlb HB1.out.size
      have cc : ∀ i j : Nat, i < len → j < 4 → w1.cell? ⟨lb, lo + (i * 4 + j), none⟩ = some (.int .i64 (gv i j)) := fun i j hi hj => (HB1.out.cell (p := ⟨lb, lo + (i * 4 + j), none⟩) hlb).trans (hc i j hi hj)
      have c0 := (hB3.cell (p := ⟨lb, lo + (k * 4 + 0), none⟩) hlb1).trans (cc k 0 hlt (by omega))
      have c1 := (hB3.cell (p := ⟨lb, lo + (k * 4 + 1), none⟩) hlb1).trans (cc k 1 hlt (by omega))
      rw [Nat.add_zero] at c0
      rw [← Nat.add_assoc] at c1
      have HA1 := HA.out k hlt
      have HNX : Hid (rhF gv (k + 1) = rhS (rhF gv k) (gv k 0) (gv k 1) k) := Lib.hid rfl
      generalize rhF gv k = F at *
      generalize gv k 0 = T at *
      generalize hk1 : gv k 1 = A at *
      have hx0 := hS.cell (j := 0) (by omega)
      have hz0 := hS.frozen 0
      have HB := Lib.hid hB
      have hF0 : k = 0 → SeenAt H H (len + 1) (putT F 0) (wr.setCell ⟨H, 0, none⟩ (.bool true)) := fun _ => hS.put 0 true
      have HS := Lib.hid hS
      have HCM : Hid (∀ wx, Below H w1 wx → wx.cell? ⟨w.heap.size, 3, none⟩ = some (.slice (some ⟨lb, lo, none⟩) len cap)) := Lib.hid fun wx hb => by
        have hb3 : Below w1.heap.size w1 wx := by rw [HH.out]; exact hb
        exact (hb3.cell (p := ⟨w.heap.size, 3, none⟩) (Array.getElem?_eq_some_iff.1 HNEW.out).1).trans ((cell_of_row w1 w.heap.size 3 _ 46 (0, 0) HNEW.out).trans (show _ = some (Value.slice (some ⟨lb, lo, none⟩) len cap) from rfl))
      have hc1 := cc k 1 hlt (by omega)
      rw [← Nat.add_assoc, hk1] at hc1
      clear hk1
      have HC1 : Hid (∀ wx, Below H w1 wx → wx.cell? ⟨lb, lo + k * 4 + 1, none⟩ = w1.cell? ⟨lb, lo + k * 4 + 1, none⟩) := Lib.hid fun wx hb => by
        have hb3 : Below w1.heap.size w1 wx := by rw [HH.out]; exact hb
        exact hb3.cell (p := ⟨lb, lo + k * 4 + 1, none⟩) hlb1
      clear hS hB hB3 cc hc hlb
      have HNX2 : Hid (rhF gv (k + 1) = if T = 22 ∨ T = 23 then putT (putT (if k = 0 then putT F 0 else F) (k + 1)) A.toNat else if T = 33 then putT (if k = 0 then putT F 0 else F) (k + 1) else if k = 0 then putT F 0 else F) := Lib.hid (by rw [HNX.out]; rfl)
      clear hF0
      by_cases h0 : k = 0
      · have t0 : ((k : Int) == 0) = true := by simpa using h0
        have hSz : SeenAt H H (len + 1) (putT F 0) (wr.setCell ⟨H, 0, none⟩ (.bool true)) := HS.out.put 0 true
        have hBz : Below H w1 (wr.setCell ⟨H, 0, none⟩ (.bool true)) := HB.out.setCell (Nat.le_refl _) (p := ⟨H, 0, none⟩) (.bool true)
        have cmz := HCM.out _ hBz
        have x1 := hSz.cell (j := k + 1) (by omega)
        have z1 := hSz.frozen (k + 1)
        have h1 := hSz.put (k + 1) true
        have hb1 := hBz.setCell (Nat.le_refl _) (p := ⟨H, k + 1, none⟩) (.bool true)
        by_cases hT : T = 22 ∨ T = 23
        · have ha := HA1 hT
          obtain ⟨a, rfl⟩ : ∃ a : Nat, A = a := ⟨A.toNat, by omega⟩
          have hal : a < len + 1 := by omega
          have x2 := h1.cell (j := a) hal
          have z2 := h1.frozen a
          have z3 := HS.out.frozen a
          have z4 := hSz.frozen a
          have cm3 := HCM.out _ hb1
          have k1 := (HC1.out _ hb1).trans hc1
          have t33 : (T != 33) = true := by simp; omega
          have FIN : Hid (Rf1 H len gv w1 (.int .i64 ((k + 1 : Nat) : Int)) (((wr.setCell ⟨H, 0, none⟩ (.bool true)).setCell ⟨H, k + 1, none⟩ (.bool true)).setCell ⟨H, a, none⟩ (.bool true))) := Lib.hid ⟨k + 1, by omega, rfl, by
            rw [HNX2.out, if_pos hT, Int.toNat_natCast, if_pos h0]
            exact h1.put a true, hb1.setCell (Nat.le_refl _) (p := ⟨H, a, none⟩) (.bool true)⟩
          clear hSz hBz h1 hb1 HNX HNX2 ha HA1 HCM HC1 hc1 h0 HS HB
          rcases hT with rfl | rfl
          all_goals
            go_upto_region 12 with (fail)
            generalize ((wr.setCell ⟨H, 0, none⟩ (.bool true)).setCell ⟨H, k + 1, none⟩ (.bool true)) = W9 at *
            go_wp2_with fail
            go_roundw
            case rel => obtain ⟨k2, h1, h2, h3⟩ := FIN.out; exact ⟨k2, h1, by rw [← h2]; go_num, h3⟩
            case measure => simp [intOf]; omega
        · have t2 : (T == 22) = false := by simp; omega
          have t3 : (T == 23) = false := by simp; omega
          by_cases hT2 : T = 33
          · have FIN : Hid (Rf1 H len gv w1 (.int .i64 ((k + 1 : Nat) : Int)) ((wr.setCell ⟨H, 0, none⟩ (.bool true)).setCell ⟨H, k + 1, none⟩ (.bool true))) := Lib.hid ⟨k + 1, by omega, rfl, by
              rw [HNX2.out, if_neg hT, if_pos hT2, if_pos h0]
              exact h1, hb1⟩
            clear hSz hBz h1 hb1 HNX HNX2 HA1 HCM HC1 hc1 t2 t3 hT h0 HS HB
            subst hT2
            go_wp2_with fail
            go_roundw
            case rel => obtain ⟨k2, h1, h2, h3⟩ := FIN.out; exact ⟨k2, h1, by rw [← h2]; go_num, h3⟩
            case measure => simp [intOf]; omega
          · have t4 : (T == 33) = false := by simpa using hT2
            have FIN : Hid (Rf1 H len gv w1 (.int .i64 ((k + 1 : Nat) : Int)) (wr.setCell ⟨H, 0, none⟩ (.bool true))) := Lib.hid ⟨k + 1, by omega, rfl, by
              rw [HNX2.out, if_neg hT, if_neg hT2, if_pos h0]
              exact hSz, hBz⟩
            clear hSz hBz h1 hb1 HNX HNX2 HA1 HCM HC1 hc1 x1 z1 h0 HS HB
            go_wp2_with fail
            go_roundw
            case rel => obtain ⟨k2, h1, h2, h3⟩ := FIN.out; exact ⟨k2, h1, by rw [← h2]; go_num, h3⟩
            case measure => simp [intOf]; omega
      · have t0 : ((k : Int) == 0) = false := by simpa using h0
        have hSz : SeenAt H H (len + 1) (F) (wr) := HS.out
        have hBz : Below H w1 (wr) := HB.out
        have cmz := HCM.out _ hBz
        have x1 := hSz.cell (j := k + 1) (by omega)
        have z1 := hSz.frozen (k + 1)
        have h1 := hSz.put (k + 1) true
        have hb1 := hBz.setCell (Nat.le_refl _) (p := ⟨H, k + 1, none⟩) (.bool true)
        by_cases hT : T = 22 ∨ T = 23
        · have ha := HA1 hT
          obtain ⟨a, rfl⟩ : ∃ a : Nat, A = a := ⟨A.toNat, by omega⟩
          have hal : a < len + 1 := by omega
          have x2 := h1.cell (j := a) hal
          have z2 := h1.frozen a
          have z3 := HS.out.frozen a
          have z4 := hSz.frozen a
          have cm3 := HCM.out _ hb1
          have k1 := (HC1.out _ hb1).trans hc1
          have t33 : (T != 33) = true := by simp; omega
          have FIN : Hid (Rf1 H len gv w1 (.int .i64 ((k + 1 : Nat) : Int)) (((wr).setCell ⟨H, k + 1, none⟩ (.bool true)).setCell ⟨H, a, none⟩ (.bool true))) := Lib.hid ⟨k + 1, by omega, rfl, by
            rw [HNX2.out, if_pos hT, Int.toNat_natCast, if_neg h0]
            exact h1.put a true, hb1.setCell (Nat.le_refl _) (p := ⟨H, a, none⟩) (.bool true)⟩
          clear hSz hBz h1 hb1 HNX HNX2 ha HA1 HCM HC1 hc1 h0 HS HB
          rcases hT with rfl | rfl
          all_goals
            go_upto_region 12 with (fail)
            generalize ((wr).setCell ⟨H, k + 1, none⟩ (.bool true)) = W9 at *
            go_wp2_with fail
            go_roundw
            case rel => obtain ⟨k2, h1, h2, h3⟩ := FIN.out; exact ⟨k2, h1, by rw [← h2]; go_num, h3⟩
            case measure => simp [intOf]; omega
        · have t2 : (T == 22) = false := by simp; omega
          have t3 : (T == 23) = false := by simp; omega
          by_cases hT2 : T = 33
          · have FIN : Hid (Rf1 H len gv w1 (.int .i64 ((k + 1 : Nat) : Int)) ((wr).setCell ⟨H, k + 1, none⟩ (.bool true))) := Lib.hid ⟨k + 1, by omega, rfl, by
              rw [HNX2.out, if_neg hT, if_pos hT2, if_neg h0]
              exact h1, hb1⟩
            clear hSz hBz h1 hb1 HNX HNX2 HA1 HCM HC1 hc1 t2 t3 hT h0 HS HB
            subst hT2
            go_wp2_with fail
            go_roundw
            case rel => obtain ⟨k2, h1, h2, h3⟩ := FIN.out; exact ⟨k2, h1, by rw [← h2]; go_num, h3⟩
            case measure => simp [intOf]; omega
          · have t4 : (T == 33) = false := by simpa using hT2
            have FIN : Hid (Rf1 H len gv w1 (.int .i64 ((k + 1 : Nat) : Int)) (wr)) := Lib.hid ⟨k + 1, by omega, rfl, by
              rw [HNX2.out, if_neg hT, if_neg hT2, if_neg h0]
              exact hSz, hBz⟩
            clear hSz hBz h1 hb1 HNX HNX2 HA1 HCM HC1 hc1 x1 z1 h0 HS HB
            go_wp2_with fail
            go_roundw
            case rel => obtain ⟨k2, h1, h2, h3⟩ := FIN.out; exact ⟨k2, h1, by rw [← h2]; go_num, h3⟩
            case measure => simp [intOf]; omega
    · obtain rfl : k = len := by omega
      have t1 : decide ((k : Int) < k) = false := by simp
      have t1' : decide (k < k) = false := by simp
      have hSf : 0 < k → ∀ j, j < k → wr.cell? ⟨H, j, none⟩ = some (.bool (f j)) := fun h0 j hj => by
        rw [hS.cell (by omega), HF.out k h0 (Nat.le_refl _) j hj, HFE.out]
      have HHD := Lib.hid hSf
      have HLT : Hid (H < wr.heap.size) := Lib.hid hS.lt
      have HB2 := Lib.hid hB
      have HB3 := Lib.hid hB3
      have tw : IntKind.i64.wrap ((k : Int) + 1) = (k : Int) + 1 := IntWalk.i64_in _ (by omega)
      clear hS hB hSf hB3 cm HF HA
      go_wp2_with (at_make; refine wpList_make_len _ rfl (.tmp 62) (.tmp 62) 26 rfl wr.heap.size 3 i0 (.int .i64 0) 8 Tryd.underlying26 HI.out HZ0.out HZ1.out HZ2.out rfl .i64 .i64 ((k : Int) + 1) ((k : Int) + 1) (k + 1) (k + 1) rfl rfl (by omega) (by omega) (Nat.le_refl _) HMB.out HM.out (Nat.le_refl _) ?_; intro w8 hown8 hg8; have hS8 := Lib.hid (zeros_made hown8); have hB8 := Lib.hid (Below.grown (Below.refl _ wr) hg8 (Nat.le_refl _) (by simp)); clear hown8 hg8)
      obtain ⟨nb, hnb⟩ : ∃ nb, wr.heap.size = nb := ⟨_, rfl⟩
      obtain ⟨N, hN⟩ : ∃ N, w8.heap.size = N := ⟨_, rfl⟩
      have hnn : nb < N := by rw [← hN, ← hnb]; exact (Array.getElem?_eq_some_iff.1 hS8.out).1
      have HNN : Hid (nb < N ∧ w8.heap.size = N) := Lib.hid ⟨hnn, hN⟩
      have R2 : Hid (Rf2 N nb k f w8 (.slice none 0 0) (.int .i64 0) w8) := Lib.hid ⟨0, Nat.zero_le _, rfl, World.ownsRow_nil _ _ _ _, by
        have := hS8.out
        rw [hnb] at this
        exact NumR.congr (aF := fun _ => 0) this fun q _ => by rw [if_neg (Nat.not_lt_zero _)], Below.refl _ _⟩
      have HHB : Hid (∀ wx, Below nb w8 wx → 0 < k → ∀ j, j < k → wx.cell? ⟨H, j, none⟩ = some (.bool (f j))) := Lib.hid fun wx hb h0 j hj => by
        rw [← hnb] at hb
        exact ((hB8.out.trans hb).cell (p := ⟨H, j, none⟩) HLT.out).trans (HHD.out h0 j hj)
      have HKB : Hid (∀ wx, Below nb w8 wx → Below w1.heap.size w1 wx) := Lib.hid fun wx hb => by
        rw [← hnb] at hb
        exact HB3.out.trans ((hB8.out.trans hb).mono HB3.out.size)
      have HNB1 : Hid (w1.heap.size ≤ nb) := Lib.hid (by rw [← hnb]; exact HB3.out.size)
      rw [hnb]
      clear hS8 hB8 hnb hN hnn tw
      obtain ⟨iB, hiB, hb0, hbz1, hbz2⟩ := info_parts rinfo
      have HIBk := Lib.hid hiB
      have HBk0 := Lib.hid hb0
      have HBk1 := Lib.hid hbz1
      have HBk2 := Lib.hid hbz2
      clear hiB hb0 hbz1 hbz2
      go_loopw [7, 9] (fun s7 s9 wr => Rf2 N nb k f w8 s7 s9 wr) (fun _ s9 _ => k - (intOf s9).toNat)
      case atStart => exact R2.out
      case round =>
        clear R2
        obtain ⟨pc, hpc, rfl, hown, hN, hB⟩ := hrel
        by_cases hlt2 : pc < k
        · have t2 : decide ((pc : Int) < k) = true := by simp; omega
          have t2' : decide (pc < k) = true := by simpa using hlt2
          have ch := HHB.out wr hB (by omega) pc hlt2
          have hnx := nB_next f pc
          have cn := hN.cell (j := pc) (by omega)
          have zn := hN.frozen pc
          obtain ⟨m, hm⟩ : ∃ m, nB f pc = m := ⟨_, rfl⟩
          have hmle : m ≤ pc := by rw [← hm]; unfold nB members; have := List.length_filter_le f (List.range pc); rw [List.length_range] at this; exact this
          rw [hm] at hown hnx
          obtain ⟨oa, oc, rfl⟩ := own_shapeM hown
          by_cases hf : f pc = true
          · rw [hf] at ch
            have hfr := frB_here f hlt2 hf
            rw [hm] at hfr
            have hat : atB f pc = m := by unfold atB; rw [hnx, hf]; simp
            rw [hf] at hnx
            simp only [if_true] at hnx
            have hol : m ≤ oc ∧ oc ≤ maxLen := by
              rcases hown.2 with ⟨e, h0⟩ | ⟨g2, cap2, cur, e, _, _, h2, h3, _⟩
              · cases e; exact ⟨by omega, Nat.zero_le _⟩
              · cases e; exact ⟨h2, h3⟩
            have hol1 := hol.1
            have hol2 := hol.2
            unfold maxLen at hol2
            have HOW := Lib.hid hown
            have HNW := Lib.hid (cells_newR wr (.int .i64 (pc : Int)) (.int .i64 (k : Int)) (.slice none 0 0) (.slice none 0 0) 79)
            have HM1 := Lib.hid (show m + 1 ≤ maxLen by unfold maxLen; omega)
            have HM2 := Lib.hid (show (m + 1) * 64 ≤ 140737488355328 by omega)
            have HB9 : Hid (N ≤ (wr.alloc (.cells #[.int .i64 (pc : Int), .int .i64 (k : Int), .slice none 0 0, .slice none 0 0] 79)).heap.size) := Lib.hid (by have := hB.size; have := HNN.out.2; rw [World.size_alloc]; omega)
            -- what the append leaves
            have AFT : Hid (∀ v5 w5, w5.ownsRow N 79 4 v5 (m + 1) (blRows (frB f k) m k ++ [.int .i64 (pc : Int), .int .i64 (k : Int), .slice none 0 0, .slice none 0 0]) → (wr.alloc (.cells #[.int .i64 (pc : Int), .int .i64 (k : Int), .slice none 0 0, .slice none 0 0] 79)).grownBy w5 (Value.slice oa m oc).ownBlock → NumR nb (k + 1) (fun q => if q < pc then atB f q else 0) w5 ∧ Below nb w8 w5) := Lib.hid fun v5 w5 ho hg => by
              have h9 := HNN.out
              have hlt := hN.lt
              refine ⟨?_, ((hB.alloc (by omega) _).grown hg (by rw [World.size_alloc]; omega) (fun z hz => by have := (HOW.out.lt z hz).1; omega))⟩
              unfold NumR
              rw [hg.block nb (by rw [World.size_alloc]; omega) (fun e => by have := (HOW.out.lt nb e.symm).1; omega), Below.heap_alloc _ _ _ hlt]
              exact hN
            have hfr0 := hfr
            rcases m with _ | m'
            · have FIN : Hid (∀ g5 c5 w5, w5.ownsRow N 79 4 (.slice (some ⟨g5, 0, none⟩) (0 + 1) c5) (0 + 1) (blRows (frB f k) 0 k ++ [.int .i64 (pc : Int), .int .i64 (k : Int), .slice none 0 0, .slice none 0 0]) → (wr.alloc (.cells #[.int .i64 (pc : Int), .int .i64 (k : Int), .slice none 0 0, .slice none 0 0] 79)).grownBy w5 (Value.slice oa 0 oc).ownBlock →
                  ((∃ x, w5.cell? ⟨nb, pc, none⟩ = some x) ∧ w5.frozen? ⟨nb, pc, none⟩ = false) ∧ Rf2 N nb k f w8 (.slice (some ⟨g5, 0, none⟩) (0 + 1) c5) (.int .i64 ((pc + 1 : Nat) : Int)) (w5.setCell ⟨nb, pc, none⟩ (.int .i64 0))) := Lib.hid fun g5 c5 w5 ho hg => by
                obtain ⟨a1, a2⟩ := AFT.out _ w5 ho hg
                refine ⟨⟨⟨_, a1.cell (by omega)⟩, a1.frozen pc⟩, pc + 1, by omega, rfl, ?_, (a1.set pc 0).congr fun q _ => num_next f pc 0 hat.symm q, a2.setCell (Nat.le_refl _) (p := ⟨nb, pc, none⟩) _⟩
                rw [hnx, ← blRows_one _ _ _ hfr0]
                refine owns_kept1 ho fun z hz => heap_setCell_other w5 ⟨nb, pc, none⟩ z _ fun e => ?_
                have h1 := (ho.lt z hz).1
                have h2 := HNN.out.1
                have h3 : z = nb := e
                omega
              clear hown hN hB hnx hm hat hf hol hfr hfr0 AFT
              go_wp2_with (at_builtin; refine wpList_append_own _ rfl (.tmp 73) (.tmp 77) 75 rfl N 79 iB (.agg #[.int .i64 0, .int .i64 0, .slice none 0 0, .slice none 0 0]) 4 64 Tryd.underlying75 HIBk.out HBk0.out HBk1.out HBk2.out rfl (by decide) (.slice oa 0 oc) 0 _ rfl (HOW.out.alloc _) ⟨wr.heap.size, 0, none⟩ 1 1 [.int .i64 (pc : Int), .int .i64 (k : Int), .slice none 0 0, .slice none 0 0] rfl rfl HNW.out (by simp [Value.oneCell']) HM1.out HM2.out HB9.out ?_; intro v5 w5 hown5 hgrow5 hnil5; obtain ⟨g5, c5, rfl, _, _, _⟩ := own_ptr hown5; replace hown5 := Lib.hid (FIN.out g5 c5 w5 hown5 hgrow5); have fz := hown5.out.1.2; obtain ⟨x9, cz⟩ := hown5.out.1.1; clear hgrow5 hnil5)
              go_roundw
              case rel => obtain ⟨k2, h1, h2, h3⟩ := hown5.out.2; exact ⟨k2, h1, by rw [← h2]; go_num, h3⟩
              case measure => simp [intOf]; omega
            · have t5 : decide (((m' + 1 + 1 : Nat) : Int) > 1) = true := by simp; omega
              have t5' : decide (((m' + 1 : Nat) : Int) + 1 > 1) = true := by simp; omega
              have t5'' : decide ((m' : Int) + 1 + 1 > 1) = true := by simp; omega
              have t5c : decide ((1 : Int) < (m' : Int) + 1 + 1) = true := by simp; omega
              have t6 : IntKind.i64.wrap (((m' + 1 + 1 : Nat) : Int) - 2) = (m' : Int) := (IntWalk.i64_in _ (by omega)).trans (by omega)
              have t6' : IntKind.i64.wrap ((m' : Int) + 1 + 1 - 2) = (m' : Int) := (IntWalk.i64_in _ (by omega)).trans (by omega)
              have t7 : IntKind.i64.wrap (((m' + 1 + 1 : Nat) : Int) - 1) = (m' : Int) + 1 := (IntWalk.i64_in _ (by omega)).trans (by omega)
              have t7' : IntKind.i64.wrap ((m' : Int) + 1 + 1 - 1) = (m' : Int) + 1 := (IntWalk.i64_in _ (by omega)).trans (by omega)
              have hml : m' < m' + 1 + 1 := by omega
              have FIN : Hid (∀ g5 c5 w5, w5.ownsRow N 79 4 (.slice (some ⟨g5, 0, none⟩) (m' + 1 + 1) c5) (m' + 1 + 1) (blRows (frB f k) (m' + 1) k ++ [.int .i64 (pc : Int), .int .i64 (k : Int), .slice none 0 0, .slice none 0 0]) → (wr.alloc (.cells #[.int .i64 (pc : Int), .int .i64 (k : Int), .slice none 0 0, .slice none 0 0] 79)).grownBy w5 (Value.slice oa (m' + 1) oc).ownBlock →
                  ((∃ x, w5.cell? ⟨g5, m' * 4 + 1, none⟩ = some x) ∧ w5.frozen? ⟨g5, m' * 4 + 1, none⟩ = false) ∧ ((∃ x, (w5.setCell ⟨g5, m' * 4 + 1, none⟩ (.int .i64 (pc : Int))).cell? ⟨nb, pc, none⟩ = some x) ∧ (w5.setCell ⟨g5, m' * 4 + 1, none⟩ (.int .i64 (pc : Int))).frozen? ⟨nb, pc, none⟩ = false ∧ w5.frozen? ⟨nb, pc, none⟩ = false) ∧
                  Rf2 N nb k f w8 (.slice (some ⟨g5, 0, none⟩) (m' + 1 + 1) c5) (.int .i64 ((pc + 1 : Nat) : Int)) ((w5.setCell ⟨g5, m' * 4 + 1, none⟩ (.int .i64 (pc : Int))).setCell ⟨nb, pc, none⟩ (.int .i64 ((m' : Int) + 1)))) := Lib.hid fun g5 c5 w5 ho hg => by
                obtain ⟨a1, a2⟩ := AFT.out _ w5 ho hg
                have hgN : N ≤ g5 := (ho.lt g5 rfl).1
                have hNB := HNN.out.1
                have ho2 := own_set ho (j := m' * 4 + 1) (by omega) (.int .i64 (pc : Int))
                rw [blRows_more _ _ _ _ hfr0] at ho2
                have a3 : NumR nb (k + 1) (fun q => if q < pc then atB f q else 0) (w5.setCell ⟨g5, m' * 4 + 1, none⟩ (.int .i64 (pc : Int))) := by
                  unfold NumR
                  rw [heap_setCell_other w5 ⟨g5, m' * 4 + 1, none⟩ nb _ (by show nb ≠ g5; omega)]
                  exact a1
                have a4 := a2.setCell (p := ⟨g5, m' * 4 + 1, none⟩) (by show nb ≤ g5; omega) (.int .i64 (pc : Int))
                have a5 := a3.set pc (m' + 1)
                refine ⟨own_cell ho _ (by omega), ⟨⟨_, a3.cell (by omega)⟩, a3.frozen pc, a1.frozen pc⟩, pc + 1, by omega, rfl, ?_, a5.congr fun q _ => num_next f pc (m' + 1) hat.symm q, a4.setCell (Nat.le_refl _) (p := ⟨nb, pc, none⟩) _⟩
                rw [hnx]
                refine owns_kept1 ho2 fun z hz => heap_setCell_other _ ⟨nb, pc, none⟩ z _ fun e => ?_
                have h1 := (ho2.lt z hz).1
                have h3 : z = nb := e
                omega
              clear hown hN hB hnx hm hat hf hol hfr hfr0 AFT
              go_wp2_with (at_builtin; refine wpList_append_own _ rfl (.tmp 73) (.tmp 77) 75 rfl N 79 iB (.agg #[.int .i64 0, .int .i64 0, .slice none 0 0, .slice none 0 0]) 4 64 Tryd.underlying75 HIBk.out HBk0.out HBk1.out HBk2.out rfl (by decide) (.slice oa (m' + 1) oc) (m' + 1) _ rfl (HOW.out.alloc _) ⟨wr.heap.size, 0, none⟩ 1 1 [.int .i64 (pc : Int), .int .i64 (k : Int), .slice none 0 0, .slice none 0 0] rfl rfl HNW.out (by simp [Value.oneCell']) HM1.out HM2.out HB9.out ?_; intro v5 w5 hown5 hgrow5 hnil5; obtain ⟨g5, c5, rfl, _, _, _⟩ := own_ptr hown5; replace hown5 := Lib.hid (FIN.out g5 c5 w5 hown5 hgrow5); have fz := hown5.out.1.2; obtain ⟨x9, cz⟩ := hown5.out.1.1; obtain ⟨x8, cz8⟩ := hown5.out.2.1.1; have fz8 := hown5.out.2.1.2.1; have fz9 := hown5.out.2.1.2.2; clear hgrow5 hnil5)
              go_roundw
              case rel => obtain ⟨k2, h1, h2, h3⟩ := hown5.out.2.2; exact ⟨k2, h1, by rw [← h2]; go_num, h3⟩
              case measure => simp [intOf]; omega
          · have hf : f pc = false := by simpa using hf
            rw [hf] at ch
            have hat : atB f pc + 1 = m ∧ 1 ≤ m := by
              have h1 := nB_mono f (show 0 + 1 ≤ pc + 1 by omega)
              have h2 := nB_next f 0
              rw [HZ.out (by omega)] at h2
              rw [hnx, hf] at h1
              unfold atB
              rw [hnx, hf]
              simp at h1 h2 ⊢
              omega
            obtain ⟨m', rfl⟩ : ∃ m', m = m' + 1 := ⟨m - 1, by omega⟩
            have t6 : IntKind.i64.wrap (((m' + 1 : Nat) : Int) - 1) = (m' : Int) := (IntWalk.i64_in _ (by omega)).trans (by omega)
            have t6' : IntKind.i64.wrap ((m' : Int) + 1 - 1) = (m' : Int) := (IntWalk.i64_in _ (by omega)).trans (by omega)
            have FIN : Hid (Rf2 N nb k f w8 (.slice oa (m' + 1) oc) (.int .i64 ((pc + 1 : Nat) : Int)) (wr.setCell ⟨nb, pc, none⟩ (.int .i64 (m' : Int)))) := Lib.hid ⟨pc + 1, by omega, rfl, by
              rw [hnx, hf]
              have ho : ∀ z, (Value.slice oa (m' + 1) oc).ownBlock = some z → (wr.setCell ⟨nb, pc, none⟩ (.int .i64 (m' : Int))).heap[z]? = wr.heap[z]? := fun z hz => heap_setCell_other wr ⟨nb, pc, none⟩ z _ fun e => by
                have h1 := (hown.lt z hz).1
                have h2 := HNN.out.1
                have h3 : z = nb := e
                omega
              exact owns_kept1 hown ho, (hN.set pc m').congr fun q _ => num_next f pc m' (by omega) q, hB.setCell (Nat.le_refl _) (p := ⟨nb, pc, none⟩) _⟩
            clear hown hN hB hnx hm hat hf
            go_wp2_with fail
            go_roundw
            case rel => obtain ⟨k2, h1, h2, h3⟩ := FIN.out; exact ⟨k2, h1, by rw [← h2]; go_num, h3⟩
            case measure => simp [intOf]; omega
        · obtain rfl : pc = k := by omega
          have t2 : decide ((pc : Int) < pc) = false := by simp
          have t2' : decide (pc < pc) = false := by simp
          obtain ⟨L, hL⟩ : ∃ L, nB f pc = L := ⟨_, rfl⟩
          rw [hL] at hown
          have HLL := Lib.hid hL
          have hLl : L ≤ pc := by rw [← hL]; unfold nB members; have := List.length_filter_le f (List.range pc); rw [List.length_range] at this; exact this
          obtain ⟨oa, oc, rfl⟩ := own_shapeM hown
          have hwN : N ≤ wr.heap.size := by have := hB.size; have := HNN.out.2; omega
          have hbl := HKB.out wr hB
          have BLK : Hid (∃ ob X, (0 < L → oa = some ⟨ob, 0, none⟩ ∧ L ≤ oc ∧ ob < wr.heap.size ∧ nb ≤ ob ∧ RfS wr ob nb (oc * 4) (pc + 1) (rfC (frB f pc) (fun _ => .slice none 0 0) L X) (fun q => if q < pc then atB f q else 0) wr)) := Lib.hid (by
            by_cases h0 : 0 < L
            · obtain ⟨L', rfl⟩ : ∃ L', L = L' + 1 := ⟨L - 1, by omega⟩
              obtain ⟨g, c, hv, hlc, _, hgN⟩ := own_ptr hown
              cases hv
              obtain ⟨X, hX, _, _, _⟩ := rf_made hown (frB_out f pc (L' + 1) (by rw [hL]; exact Nat.le_refl _))
              have hn9 := HNN.out.1
              exact ⟨g, X, fun _ => ⟨rfl, hlc, (Array.getElem?_eq_some_iff.1 hX).1, by omega, ⟨hX, hN, fun _ _ _ _ => rfl, Nat.le_refl _, rfl, rfl, rfl⟩⟩⟩
            · exact ⟨0, fun _ => .slice none 0 0, fun h => absurd h h0⟩)
          obtain ⟨ob, X, hblk⟩ := BLK.out
          have HBLK := Lib.hid hblk
          have hocm : oc ≤ maxLen ∧ L ≤ oc := by
            rcases hown.2 with ⟨e, h0⟩ | ⟨g2, cap2, cur, e, _, _, h2, h3, _⟩
            · cases e; exact ⟨Nat.zero_le _, by omega⟩
            · cases e; exact ⟨h3, h2⟩
          have hoc1 := hocm.1
          have hoc2 := hocm.2
          unfold maxLen at hoc1
          have hnbW := hN.lt
          have HWB : Hid (nb < wr.heap.size) := Lib.hid hN.lt
          have HBW := Lib.hid hbl
          have HFRL : Hid (∀ b, b < L → frB f pc (b + 1) ≤ pc) := Lib.hid fun b _ => frB_le f pc (b + 1)
          obtain ⟨fr, hfr⟩ : ∃ fr, frB f pc = fr := ⟨_, rfl⟩
          obtain ⟨aF, haF⟩ : ∃ aF : Nat → Nat, (fun q => if q < pc then atB f q else 0) = aF := ⟨_, rfl⟩
          have HFR := Lib.hid hfr
          have HAF := Lib.hid haF
          rw [hfr] at HBLK HFRL
          rw [haF] at HBLK
          have R3 : Hid (Rf3 wr ob nb (oc * 4) pc L fr aF X (sucF pc gv f) (.int .i64 0) wr) := Lib.hid ⟨0, Nat.zero_le _, rfl, _, fun h => (HBLK.out h).2.2.2.2, (Fam.nils _ _ _).congr fun j _ => (famS_nil _ j).symm, fun _ _ _ => rfl, Below.refl _ _⟩
          clear hown hN hB hL BLK hblk hocm hbl hfr haF hnbW HHB HKB HIBk HBk0 HBk1 HBk2
          go_wp2_with fail
          obtain ⟨W3, rfl⟩ : ∃ W3 : World, W3 = wr := ⟨_, rfl⟩
          go_loopw [10] (fun s10 wr => Rf3 W3 ob nb (oc * 4) pc L fr aF X (sucF pc gv f) s10 wr) (fun s10 _ => L - (intOf s10).toNat)
          case atStart => exact R3.out
          case round =>
            clear R3
            obtain ⟨b, hb, rfl, vs, hS, hF, hnil, hBn⟩ := hrel
            by_cases hbL : b < L
            · have t3 : decide ((b : Int) < L) = true := by simp; omega
              have t3' : decide (b < L) = true := by simpa using hbL
              obtain ⟨hoa, hloc, hobW, hnbo, _⟩ := HBLK.out (by omega)
              subst hoa
              have hS := hS (by omega)
              have hB3 : Below w1.heap.size w1 wr := HBW.out.trans (hBn.mono HNB1.out)
              have hm := (hB3.block w.heap.size (Array.getElem?_eq_some_iff.1 HNEW.out).1).trans HNEW.out
              have m0 := (cell_of_row wr w.heap.size 0 _ 46 (0, 0) hm).trans (show _ = some (Value.string ps) from rfl)
              have m1 := (cell_of_row wr w.heap.size 1 _ 46 (0, 0) hm).trans (show _ = some (Value.string ls) from rfl)
              have m2 := (cell_of_row wr w.heap.size 2 _ 46 (0, 0) hm).trans (show _ = some (Value.string rt) from rfl)
              have m3 := (cell_of_row wr w.heap.size 3 _ 46 (0, 0) hm).trans (show _ = some (Value.slice co pc cap) from rfl)
              have ct := hS.cellB (j := b * 4 + 1) (by omega)
              rw [rfC_in _ _ _ (by omega), blkC1 _ _ hbL] at ct
              have hle1 := HFRL.out b hbL
              have hnn2 : nxB pc gv f b = nextM pc gv ((fr (b + 1) : Int) - 1) := by unfold nxB; rw [HFR.out]
              obtain ⟨p1, hp1⟩ : ∃ p1, fr (b + 1) = p1 := ⟨_, rfl⟩
              rw [hp1] at ct hle1 hnn2
              obtain ⟨nx, hnx⟩ : ∃ nx, nextM pc gv ((p1 : Int) - 1) = nx := ⟨_, rfl⟩
              have HSUC : Hid (sucF pc gv f b = sucP f pc nx nx.length) := Lib.hid (by unfold sucF; rw [hnn2, hnx])
              have HRS : Hid ((sucP f pc nx nx.length).Pairwise (· < ·)) := Lib.hid (by rw [← hnx]; exact HSR.out _)
              have HPOS : Hid (∀ x ∈ nx, 0 ≤ x) := Lib.hid (by rw [← hnx]; exact HNP.out _)
              have hnx2 : nx.length ≤ 2 := by rw [← hnx]; exact nextM_len _ _ _
              have tw : IntKind.i64.wrap ((p1 : Int) - 1) = (p1 : Int) - 1 := IntWalk.i64_in _ (by omega)
              have KN : Hid (∀ w', Below wr.heap.size wr w' → Calls Tryd.prog 107 #[.agg #[.string ps, .string ls, .string rt, .slice co pc cap], .int .i64 ((p1 : Int) - 1)] w' (NextR nx wr)) := Lib.hid fun w' hb' => by
                refine (rnext_all ps ls rt co pc cap gv ((p1 : Int) - 1) w' (HP.out.trans (HB1.out.trans ((hB3.trans (hb'.mono hB3.size)).mono HB1.out.size))) (by omega) HWF.out).mono ?_
                rintro e w'' ⟨ad, q, c, rfl, h1, h2, h3⟩
                rw [hnx] at h1
                exact ⟨ad, q, c, rfl, h1, hb'.trans (h2.mono hb'.size), fun x hx => Nat.le_trans hb'.size (h3 x hx)⟩
              unfold NextR at KN
              have HM0 : Hid (Below wr.heap.size wr wr) := Lib.hid (Below.refl _ _)
              have HM1 : Hid (Below wr.heap.size wr wr.drew) := Lib.hid (below_drew (Below.refl _ _))
              have HSS := Lib.hid hS
              have HFF := Lib.hid hF
              have hWW : Hid (W3.heap.size ≤ wr.heap.size) := Lib.hid hS.size
              have KEEP : Hid (∀ w', Below wr.heap.size wr w' → (w'.cell? ⟨w.heap.size, 0, none⟩ = some (.string ps) ∧ w'.cell? ⟨w.heap.size, 1, none⟩ = some (.string ls) ∧ w'.cell? ⟨w.heap.size, 2, none⟩ = some (.string rt) ∧ w'.cell? ⟨w.heap.size, 3, none⟩ = some (.slice co pc cap)) ∧ w'.cell? ⟨ob, b * 4 + 1, none⟩ = some (.int .i64 (p1 : Int))) := Lib.hid fun w' hb' =>
                ⟨⟨(hb'.cell (World.block_lt_of_cell? wr _ m0)).trans m0, (hb'.cell (World.block_lt_of_cell? wr _ m1)).trans m1, (hb'.cell (World.block_lt_of_cell? wr _ m2)).trans m2, (hb'.cell (World.block_lt_of_cell? wr _ m3)).trans m3⟩, (hb'.cell (World.block_lt_of_cell? wr _ ct)).trans ct⟩
              clear hS hF hB3 hm hBn hp1 hnx hnn2
              go_wp2_with fail
              go_region_held3 (fun w' => (w'.cell? ⟨w.heap.size, 0, none⟩ = some (.string ps) ∧ w'.cell? ⟨w.heap.size, 1, none⟩ = some (.string ls) ∧ w'.cell? ⟨w.heap.size, 2, none⟩ = some (.string rt) ∧ w'.cell? ⟨w.heap.size, 3, none⟩ = some (.slice co pc cap)) ∧ w'.cell? ⟨ob, b * 4 + 1, none⟩ = some (.int .i64 (p1 : Int))) (first | exact KEEP.out _ HM1.out | (exact KEEP.out _ (by assumption)) | fail)
                ((first
                  | (go_at_call 107; (with_reducible refine (KN.out _ (by first | exact HM1.out | assumption)).mono ?_); rintro e wx ⟨ad, nq, nc, rfl, hrw, hbx, hfr⟩)
                  | fail))
              all_goals
                have hnq := hrw.len_eq
                have HNQ := Lib.hid hnq
                have R4 : Hid (Rf3a W3 wx ob nb (oc * 4) pc L fr aF X (sucF pc gv f) f nx b (.int .i64 0) wx) := Lib.hid ⟨0, Nat.zero_le _, rfl, vs, HSS.out.grown hbx, (HFF.out.all fun k hk => hbx.block k hk).congr (fun j _ => by rw [show sucP f pc nx 0 = [] from rfl]), fun j _ _ => by rw [hnil b (Nat.le_refl _) hbL]; simp [Value.ownBlock], fun _ _ _ => rfl, Nat.le_refl _, fun i hi hiL => hnil i (by omega) hiL⟩
                have HRW := Lib.hid hrw
                have HFRE : Hid (∀ x, ad = some x → W3.heap.size ≤ x.block) := Lib.hid fun x hx => Nat.le_trans hWW.out (hfr x hx)
                have hrc1 := hrw.le
                have hrc2 := hrw.max
                unfold maxLen at hrc2
                have hnqs : nq ≤ 2 := by omega
                clear hrw hbx hfr hnil m0 m1 m2 m3 ct KN KEEP HM0 HM1 HSS HFF hWW hnq tw
                go_wp2_with fail
                go_loopw [12] (fun s12 wr => Rf3a W3 wx ob nb (oc * 4) pc L fr aF X (sucF pc gv f) f nx b s12 wr) (fun s12 _ => nq - (intOf s12).toNat)
                case atStart => exact R4.out
                case round =>
                  clear R4
                  obtain ⟨k, hk, rfl, vs, hS, hF, hown, hkeep, hsz, hnil⟩ := hrel
                  rw [HNQ.out] at hk
                  by_cases hkl : k < nq
                  · have t4 : decide ((k : Int) < nq) = true := by simp; omega
                    have t4' : decide (k < nq) = true := by simpa using hkl
                    obtain ⟨rb, ro, rfl, hrc⟩ := Row_at HRW.out (by omega)
                    have ck0 := hrc k hkl
                    have hrl := World.block_lt_of_cell? wx _ ck0
                    have ck := (cell_blk2 ⟨rb, ro + k, none⟩ (hkeep rb hrl (HFRE.out _ rfl))).trans ck0
                    have hnx := sucP_next f pc nx k (by rw [HNQ.out]; exact hkl)
                    obtain ⟨x, hx⟩ : ∃ x, nx.getD k 0 = x := ⟨_, rfl⟩
                    have hx0 : 0 ≤ x := HPOS.out x (by
                      have : k < nx.length := by rw [HNQ.out]; exact hkl
                      rw [← hx]; simp [List.getD, this])
                    rw [hx] at ck hnx
                    clear hrc hx ck0
                    obtain ⟨p, rfl⟩ : ∃ p : Nat, x = p := ⟨x.toNat, by omega⟩
                    rw [Int.toNat_natCast] at hnx
                    by_cases hpl : p < pc
                    · have t5 : decide ((p : Int) < pc) = true := by simp; omega
                      have t5' : decide (p < pc) = true := by simpa using hpl
                      rw [if_pos (by omega)] at hnx
                      have hm2 : 2 * b < 2 * L := by omega
                      obtain ⟨a, c, hv, hqc, hcm⟩ := hF.shape hm2
                      have hsl := sucP_len f pc nx k
                      rw [HNQ.out] at hsl
                      rw [famS_s] at hv hqc
                      have cs := hS.cellB (j := b * 4 + 2) (by omega)
                      rw [rfC_in _ _ _ (by omega), blkC2, hv] at cs
                      have ca := hS.cellA (j := p) (by omega)
                      rw [show aF p = atB f p by rw [← HAF.out]; simp [hpl]] at ca
                      have how := hF.own (2 * b) hm2
                      rw [famS_s, hv] at how
                      obtain ⟨q, hq⟩ : ∃ q, (sucP f pc nx k).length = q := ⟨_, rfl⟩
                      rw [hq] at hv hqc hsl cs how
                      obtain ⟨y, hy⟩ : ∃ y, atB f p = y := ⟨_, rfl⟩
                      rw [hy] at hnx ca
                      have hidx : 2 * b / 2 * 4 + 2 + 2 * b % 2 = b * 4 + 2 := by omega
                      have FIN : Hid (∀ va vc w5, w5.ownsRow W3.heap.size 3 1 (.slice va (q + 1) vc) (q + 1) ((sucP f pc nx k).map (Value.int .i64) ++ [.int .i64 (y : Int)]) → (wr.drew.alloc (.cells #[.int .i64 (y : Int)] 3)).grownBy w5 (Value.slice a q c).ownBlock →
                          ((Value.slice va (q + 1) vc).ownBlock = (Value.slice a q c).ownBlock ∨ (Value.slice va (q + 1) vc).ownBlock = some (wr.drew.alloc (.cells #[.int .i64 (y : Int)] 3)).heap.size) →
                          (w5.frozen? ⟨ob, b * 4 + 2, none⟩ = false ∧ w5.cell? ⟨ob, b * 4 + 2, none⟩ = some (.slice a q c)) ∧ Rf3a W3 wx ob nb (oc * 4) pc L fr aF X (sucF pc gv f) f nx b (.int .i64 ((k + 1 : Nat) : Int)) (w5.setCell ⟨ob, b * 4 + 2, none⟩ (.slice va (q + 1) vc))) := Lib.hid fun va vc w5 ho hg hat => by
                        have hbl : Below wr.heap.size wr (wr.drew.alloc (.cells #[.int .i64 (y : Int)] 3)) := (below_drew (Below.refl _ _)).alloc (Nat.le_refl _) _
                        obtain ⟨⟨f1, f2⟩, f3, f4, f5⟩ := rf_app (w5 := w5) (v' := .slice va (q + 1) vc) (x := (y : Int)) (by omega) hS hF hobW HWB.out hm2 hbl (by rw [famS_s, hq]; exact ho) (by rw [hv]; exact hg) (by rw [hv]; exact hat)
                        rw [hidx] at f1 f2 f3 f4 f5
                        rw [hv] at f2 f5
                        have hs5 := hg.size
                        rw [World.size_alloc] at hs5
                        have hs5 : wr.heap.size + 1 ≤ w5.heap.size := hs5
                        refine ⟨⟨f1, f2⟩, k + 1, by rw [HNQ.out]; omega, rfl, _, f3, f4.congr fun j _ => ?_, fun j hj hj2 => ?_, fun j hj hj2 => ?_, ?_, fun i hi hiL => ?_⟩
                        · rw [famS_s, famS_put, hnx]
                        · rw [updV_same]
                          rcases hat with h1 | h1
                          · rw [h1, ← hv]; exact hown j hj hj2
                          · rw [h1, World.size_alloc]
                            intro e
                            have := Option.some.inj e
                            have h9 : wr.drew.heap.size = wr.heap.size := rfl
                            omega
                        · rw [f5 j (by omega) (by omega) (by rw [← hv]; exact hown j hj hj2)]
                          exact hkeep j hj hj2
                        · rw [World.size_setCell]; omega
                        · rw [updV_other _ _ (by omega)]
                          exact hnil i hi hiL
                      have HOW := Lib.hid ((how.drew).alloc (.cells #[.int .i64 (y : Int)] 3))
                      have HNW : Hid (∀ i u, ([.int .i64 (y : Int)] : List Value)[i]? = some u → (wr.drew.alloc (.cells #[.int .i64 (y : Int)] 3)).cell? ((⟨wr.heap.size, 0, none⟩ : Addr).add i) = some u) := Lib.hid (cell_one_new wr.drew (.int .i64 (y : Int)) 3)
                      have hoc : Hid (∀ u ∈ ([.int .i64 (y : Int)] : List Value), u.oneCell' = true) := Lib.hid (by simp [Value.oneCell'])
                      have hn1 : Hid (q + 1 ≤ maxLen) := Lib.hid (by unfold maxLen; omega)
                      have hn3 : Hid ((q + 1) * 8 ≤ 140737488355328) := Lib.hid (by omega)
                      have hsz9 : Hid (W3.heap.size ≤ (wr.drew.alloc (.cells #[.int .i64 (y : Int)] 3)).heap.size) := Lib.hid (by have := hS.size; rw [World.size_alloc]; show W3.heap.size ≤ wr.heap.size + 1; omega)
                      have cs2 : ((wr.alloc (.cells #[.int .i64 (y : Int)] 3)).drew).cell? ⟨ob, b * 4 + 2, none⟩ = some (.slice a q c) := ((World.grownBy_alloc wr (.cells #[.int .i64 (y : Int)] 3) none).cell cs (by simp))
                      have hpl2 : p < pc + 1 := by omega
                      have hpl3 : (p : Int) < ((pc + 1 : Nat) : Int) := by omega
                      have hpl4 : (p : Int) < (pc : Int) + 1 := by omega
                      have hpl5 : (0 : Int) ≤ (p : Int) := by omega
                      have hpl6 : p ≤ pc := by omega
                      clear hS hF hown hkeep hsz hnil hv how hq hnx hidx hsl hrl hqc hcm
                      go_upto_region 31 with (fail)
                      go_region_law (refine step_append_at rfl (.tmp 127) (.tmp 135) 26 rfl W3.heap.size 3 i0 (.int .i64 0) 1 8 Tryd.underlying26 HI.out HZ0.out HZ1.out HZ2.out rfl (by decide) (.slice a q c) q _ (by first | rfl | simp [Act.eval] | simp [Act.eval, Act.put]) HOW.out ⟨wr.heap.size, 0, none⟩ 1 1 [.int .i64 (y : Int)] (by first | rfl | simp [Act.eval] | simp [Act.eval, Act.put]) rfl HNW.out hoc.out hn1.out hn3.out hsz9.out ?_; intro v5 w5 hown5 hgrow5 hat5; obtain ⟨va, vc, rfl⟩ := own_shape1 hown5; have FF := Lib.hid (FIN.out va vc w5 hown5 hgrow5 hat5); have d0 := FF.out.1.1; have e0 := FF.out.1.2; clear hown5 hgrow5 hat5)
                      all_goals
                        go_wp2_with fail
                        go_roundw
                        case rel => obtain ⟨k2, h1, h2, h3⟩ := FF.out.2; exact ⟨k2, h1, by rw [← h2]; go_num, h3⟩
                        case measure => simp [intOf]; omega
                    · have t5 : decide ((p : Int) < pc) = false := by simp; omega
                      have t5' : decide (p < pc) = false := by simpa using hpl
                      rw [if_neg (by omega)] at hnx
                      have FIN : Hid (Rf3a W3 wx ob nb (oc * 4) pc L fr aF X (sucF pc gv f) f nx b (.int .i64 ((k + 1 : Nat) : Int)) wr) := Lib.hid ⟨k + 1, by rw [HNQ.out]; omega, rfl, vs, hS, by rw [hnx]; exact hF, hown, hkeep, hsz, hnil⟩
                      clear hS hF hown hkeep hsz hnil hnx
                      go_wp2_with fail
                      go_roundw
                      case rel => obtain ⟨k2, h1, h2, h3⟩ := FIN.out; exact ⟨k2, h1, by rw [← h2]; go_num, h3⟩
                      case measure => simp [intOf]; omega
                  · obtain rfl : nq = k := by omega
                    have t4 : decide ((nq : Int) < nq) = false := by simp
                    have t4' : decide (nq < nq) = false := by simp
                    have hsf : sucP f pc nx nq = sucF pc gv f b := by rw [HSUC.out, HNQ.out]
                    rw [hsf] at hF
                    have hm2 : 2 * b < 2 * L := by omega
                    obtain ⟨a, c, hv, hrow⟩ := hF.row hm2 (fun x hx => by
                      rw [famS_s] at hx
                      have := suc_in pc gv f HZ.out b x hx
                      have := nB_le f pc
                      exact wf64 (by omega) (by omega))
                    rw [famS_s] at hv hrow
                    have hql := sucF_len pc gv f b
                    have hqc := hrow.le
                    have hcm := hrow.max
                    unfold maxLen at hcm
                    have cs := hS.cellB (j := b * 4 + 2) (by omega)
                    rw [rfC_in _ _ _ (by omega), blkC2, hv] at cs
                    have hrs : sortU (sucF pc gv f b) = sucF pc gv f b := sortU_rising _ (by rw [HSUC.out]; exact HRS.out)
                    have KS := Lib.hid (sorted_any a _ c (sucF pc gv f b) wr hrow (by omega))
                    unfold SortPost at KS
                    rw [hrs] at KS
                    have hidx : 2 * b / 2 * 4 + 2 + 2 * b % 2 = b * 4 + 2 := by omega
                    have FIN : Hid (∀ v8 w8, w8.ownsRow wr.heap.size 3 1 v8 (sucF pc gv f b).length ((sucF pc gv f b).map (Value.int .i64)) → Below wr.heap.size wr w8 → (w8.frozen? ⟨ob, b * 4 + 2, none⟩ = false ∧ w8.cell? ⟨ob, b * 4 + 2, none⟩ = some (vs (2 * b))) ∧ Rf3 W3 ob nb (oc * 4) pc L fr aF X (sucF pc gv f) (.int .i64 ((b + 1 : Nat) : Int)) (w8.setCell ⟨ob, b * 4 + 2, none⟩ v8)) := Lib.hid fun v8 w8 ho hb8 => by
                      obtain ⟨f1, f3, f4⟩ := rf_put (v' := v8) (by omega) hS hF hobW HWB.out hm2 hb8 ho
                      rw [hidx] at f1 f3 f4
                      refine ⟨f1, b + 1, by omega, rfl, _, fun _ => f3, f4.congr fun j _ => by rw [famS_put, famS_row], fun i hi hiL => ?_, f3.below hnbo (Nat.le_of_lt HWB.out)⟩
                      rw [updV_other _ _ (by omega)]
                      exact hnil i (by omega) hiL
                    obtain ⟨q, hq⟩ : ∃ q, (sucF pc gv f b).length = q := ⟨_, rfl⟩
                    rw [hq] at cs KS hqc
                    clear hS hF hown hkeep hsz hnil hv hrow hsf hrs hidx hql hcm
                    go_wp2_with fail
                    refine KS.out.mono ?_
                    rintro e w8 ⟨v8, rfl, hown8, hb8⟩
                    obtain ⟨a8, c8, rfl⟩ := own_shapeM hown8
                    have FF := Lib.hid (FIN.out _ w8 (by rw [hq]; exact hown8) hb8)
                    have d0 := FF.out.1.1
                    have e0 := FF.out.1.2
                    have m8 := (hb8.cell (World.block_lt_of_cell? wr _ cs)).trans cs
                    clear hown8 hb8 KS FIN cs hq
                    go_wp2_with fail
                    go_roundw
                    case rel => obtain ⟨k2, h1, h2, h3⟩ := FF.out.2; exact ⟨k2, h1, by rw [← h2]; go_num, h3⟩
                    case measure => simp [intOf]; omega
            · obtain rfl : b = L := by omega
              have t3 : decide ((b : Int) < b) = false := by simp
              have t3' : decide (b < b) = false := by simp
              have R5 : Hid (Rf5 W3 ob nb (oc * 4) pc b fr aF X (sucF pc gv f) (.int .i64 0) wr) := Lib.hid ⟨0, Nat.zero_le _, rfl, vs, hS, hF.congr fun j hj => famP_start _ hj, hBn⟩
              clear hS hF hnil hBn
              go_wp2_with fail
              obtain ⟨W9, rfl⟩ : ∃ W9 : World, W9 = wr := ⟨_, rfl⟩
              go_loopw [13] (fun s13 wr => Rf5 W3 ob nb (oc * 4) pc b fr aF X (sucF pc gv f) s13 wr) (fun s13 _ => b - (intOf s13).toNat)
              case atStart => exact R5.out
              case round =>
                clear R5
                obtain ⟨i, hi, rfl, vs, hS, hF, hBn⟩ := hrel
                by_cases hib : i < b
                · have t4 : decide ((i : Int) < b) = true := by simp; omega
                  have t4' : decide (i < b) = true := by simpa using hib
                  obtain ⟨hoa, hloc, hobW, hnbo, _⟩ := HBLK.out (by omega)
                  subst hoa
                  have hS := hS (by omega)
                  have hql := sucF_len pc gv f i
                  have R6 : Hid (Rf5a W3 ob nb (oc * 4) pc b fr aF X (sucF pc gv f) i (.int .i64 0) wr) := Lib.hid ⟨0, Nat.zero_le _, rfl, vs, hS, hF⟩
                  clear hS hF hBn
                  go_wp2_with fail
                  go_loopw [14] (fun s14 wr => Rf5a W3 ob nb (oc * 4) pc b fr aF X (sucF pc gv f) i s14 wr) (fun s14 _ => (sucF pc gv f i).length - (intOf s14).toNat)
                  case atStart => exact R6.out
                  case round =>
                    clear R6
                    obtain ⟨k, hk, rfl, vs, hS, hF⟩ := hrel
                    have hm2 : 2 * i < 2 * b := by omega
                    obtain ⟨a, c, hv, hrow⟩ := hF.row hm2 (fun x hx => by
                      rw [famP_s] at hx
                      have := suc_in pc gv f HZ.out i x hx
                      have := nB_le f pc
                      exact wf64 (by omega) (by omega))
                    rw [famP_s] at hv hrow
                    have hqc := hrow.le
                    have hcm := hrow.max
                    unfold maxLen at hcm
                    have cs := hS.cellB (j := i * 4 + 2) (by omega)
                    rw [rfC_in _ _ _ (by omega), blkC2, hv] at cs
                    obtain ⟨q, hq⟩ : ∃ q, (sucF pc gv f i).length = q := ⟨_, rfl⟩
                    rw [hq] at cs hqc hk hql ⊢
                    by_cases hkq : k < q
                    · have t5 : decide ((k : Int) < q) = true := by simp; omega
                      have t5' : decide (k < q) = true := by simpa using hkq
                      rw [hq] at hrow
                      obtain ⟨rb, ro, rfl, hrc⟩ := Row_at hrow (by omega)
                      have ck := hrc k hkq
                      have hkS : k < (sucF pc gv f i).length := by rw [hq]; exact hkq
                      obtain ⟨x, hx⟩ : ∃ x, (sucF pc gv f i).getD k 0 = x := ⟨_, rfl⟩
                      have hxi := suc_in pc gv f HZ.out i x (by rw [← hx]; simp [List.getD, hkS])
                      rw [HLL.out] at hxi
                      rw [hx] at ck
                      obtain ⟨t, rfl⟩ : ∃ t : Nat, x = t := ⟨x.toNat, by omega⟩
                      have htb : t < b := by omega
                      have hm3 : 2 * t + 1 < 2 * b := by omega
                      obtain ⟨a2, c2, hv2, hqc2, hcm2⟩ := hF.shape hm3
                      rw [famP_p] at hv2 hqc2
                      unfold maxLen at hcm2
                      have hpl := prdF_len (sucF pc gv f) (fun i => sucF_len pc gv f i) i k t
                      have cp := hS.cellB (j := t * 4 + 3) (by omega)
                      rw [rfC_in _ _ _ (by omega), blkC3, hv2] at cp
                      have how := hF.own (2 * t + 1) hm3
                      rw [famP_p, hv2] at how
                      obtain ⟨r, hr⟩ : ∃ r, (prdF (sucF pc gv f) i k t).length = r := ⟨_, rfl⟩
                      rw [hr] at cp how hv2 hqc2 hpl
                      have hidx : (2 * t + 1) / 2 * 4 + 2 + (2 * t + 1) % 2 = t * 4 + 3 := by omega
                      have FIN : Hid (∀ va vc w5, w5.ownsRow W3.heap.size 3 1 (.slice va (r + 1) vc) (r + 1) ((prdF (sucF pc gv f) i k t).map (Value.int .i64) ++ [.int .i64 (i : Int)]) → (wr.alloc (.cells #[.int .i64 (i : Int)] 3)).grownBy w5 (Value.slice a2 r c2).ownBlock →
                          ((Value.slice va (r + 1) vc).ownBlock = (Value.slice a2 r c2).ownBlock ∨ (Value.slice va (r + 1) vc).ownBlock = some (wr.alloc (.cells #[.int .i64 (i : Int)] 3)).heap.size) →
                          (w5.frozen? ⟨ob, t * 4 + 3, none⟩ = false ∧ w5.cell? ⟨ob, t * 4 + 3, none⟩ = some (.slice a2 r c2)) ∧ Rf5a W3 ob nb (oc * 4) pc b fr aF X (sucF pc gv f) i (.int .i64 ((k + 1 : Nat) : Int)) (w5.setCell ⟨ob, t * 4 + 3, none⟩ (.slice va (r + 1) vc))) := Lib.hid fun va vc w5 ho hg hat => by
                        obtain ⟨⟨f1, f2⟩, f3, f4, _⟩ := rf_app (w1 := wr.alloc (.cells #[.int .i64 (i : Int)] 3)) (w5 := w5) (v' := .slice va (r + 1) vc) (x := (i : Int)) (by omega) hS hF hobW HWB.out hm3 ((Below.refl _ _).alloc (Nat.le_refl _) _) (by rw [famP_p, hr]; exact ho) (by rw [hv2]; exact hg) (by rw [hv2]; exact hat)
                        rw [hidx] at f1 f2 f3 f4
                        rw [hv2] at f2
                        exact ⟨⟨f1, f2⟩, k + 1, by omega, rfl, _, f3, f4.congr fun j _ => by rw [famP_p, famP_pred _ _ _ _ hkS hx]⟩
                      have HOW := Lib.hid how
                      have HNW := Lib.hid (cell_one_new wr (.int .i64 (i : Int)) 3)
                      have HM1 := Lib.hid (show r + 1 ≤ maxLen by unfold maxLen; omega)
                      have HM2 := Lib.hid (show (r + 1) * 8 ≤ 140737488355328 by omega)
                      have HB9 : Hid (W3.heap.size ≤ (wr.alloc (.cells #[.int .i64 (i : Int)] 3)).heap.size) := Lib.hid (by have := hS.size; rw [World.size_alloc]; omega)
                      clear hS hF hv hrow hrc hx hkS hv2 how hr hidx hpl hxi hcm hcm2 hqc2 hq
                      go_wp2_with (at_builtin; refine wpList_append_own_at _ rfl (.tmp 179) (.tmp 181) 26 rfl W3.heap.size 3 i0 (.int .i64 0) 1 8 Tryd.underlying26 HI.out HZ0.out HZ1.out HZ2.out rfl (by decide) (.slice a2 r c2) r _ rfl (HOW.out.alloc _) ⟨wr.heap.size, 0, none⟩ 1 1 [.int .i64 (i : Int)] rfl rfl HNW.out (by simp [Value.oneCell']) HM1.out HM2.out HB9.out ?_; intro v5 w5 hown5 hgrow5 hnil5 hat5; obtain ⟨va5, vc5, rfl⟩ := own_shapeM hown5; replace hown5 := Lib.hid (FIN.out va5 vc5 w5 hown5 hgrow5 hat5); have fz := hown5.out.1.1; have cz := hown5.out.1.2; clear hgrow5 hnil5 hat5)
                      go_roundw
                      case rel => obtain ⟨k2, h1, h2, h3⟩ := hown5.out.2; exact ⟨k2, h1, by rw [← h2]; go_num, h3⟩
                      case measure => simp [intOf]; omega
                    · obtain rfl : k = q := by omega
                      have t5 : decide ((k : Int) < k) = false := by simp
                      have t5' : decide (k < k) = false := by simp
                      have FIN : Hid (Rf5 W3 ob nb (oc * 4) pc b fr aF X (sucF pc gv f) (.int .i64 ((i + 1 : Nat) : Int)) wr) := Lib.hid ⟨i + 1, by omega, rfl, vs, fun _ => hS, hF.congr fun j _ => by rw [← hq, famP_row], hS.below hnbo (Nat.le_of_lt HWB.out)⟩
                      clear hS hF hv hrow hcm hq
                      go_wp2_with fail
                      go_roundw
                      case rel => obtain ⟨k2, h1, h2, h3⟩ := FIN.out; exact ⟨k2, h1, by rw [← h2]; go_num, h3⟩
                      case measure => simp [intOf]; omega
                · obtain rfl : i = b := by omega
                  have t4 : decide ((i : Int) < i) = false := by simp
                  have t4' : decide (i < i) = false := by simp
                  have FIN : Hid (RofPost pc gv w (.returned (.slice oa i oc)) wr) := Lib.hid (by
                    unfold RofPost
                    rw [HFE.out, HLL.out, HFR.out]
                    refine ⟨oa, oc, vs, W3.heap.size, rfl, fun h0 => ?_, hF.congr fun j hj => famP_end _ hj, ?_, ?_⟩
                    · obtain ⟨e1, e2, _, _, _⟩ := HBLK.out h0
                      exact ⟨ob, X, e1, e2, (hS h0).cb⟩
                    · exact Nat.le_trans HB1.out.size HBW.out.size
                    · exact HB1.out.trans ((HBW.out.trans (hBn.mono HNB1.out)).mono HB1.out.size))
                  unfold RofPost at FIN
                  rw [HFE.out] at FIN
                  clear hS hF hBn
                  go_wp2_with fail
                  go_ret
                  exact FIN.out

end Go.Proofs.YtchechdcebmoeaaDoor

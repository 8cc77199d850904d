/-
  HeapRing: the law's walk.
-/
import Derived.Test.YtjffbojgdemooaaDoorRngP
import Derived.Test.YtjffbojgdemooaaDoorFil0
import Derived.Test.YtjffbojgdemooaaDoorFilK
import Derived.Test.YtjffbojgdemooaaDoorRng4
import Derived.Test.YtjffbojgdemooaaDoorHpE
import Derived.Test.YtjffbojgdemooaaDoorSameL
import Derived.Test.YtjffbojgdemooaaDoorSameI
import Derived.Deep.RegionHeld3
import Derived.Deep.DrawnRows
namespace Go.Proofs.YtjffbojgdemooaaDoor
open Go.RowKit

def irS : ByteArray := ⟨#[73, 82]⟩
def rgR (i : Nat) : List Int := (List.range i).map fun (j : Nat) => ((rgP j : Nat) : Int) + 1
theorem rgR_next (i : Nat) : rgR (i + 1) = rgR i ++ [((rgP i : Nat) : Int) + 1] := by simp [rgR, List.range_succ]
theorem rgR_len (i : Nat) : (rgR i).length = i := by simp [rgR]

def RgMake (N hb ab gb bg : Nat) (cp : Option Addr) (cx n : Nat) (w : World) (si sv : Value) (wr : World) : Prop :=
  ∃ i : Nat, i ≤ n ∧ si = .int .i64 i ∧ wr.ownsRow N 3 1 sv i ((rgR i).map (Value.int .i64)) ∧ Hp w.heap.size hb ab gb bg cp 1 cx irF 2000 100 ((4 * ((i + 2) / 3) : Nat) : Int) ((100 + 4 * i : Nat) : Int) 1050 1050 2000 1050 (mkW i) (mkB i) (.slice none 0 0) wr ∧ Below w.heap.size w wr ∧ N ≤ wr.heap.size

theorem new_ring (w1 : World) : Calls Tryd.prog 69 #[.agg #[.slice (some ⟨w1.heap.size, 0, none⟩) 1 1, .slice (some ⟨w1.heap.size + 1 + 1, 0, none⟩) 1 1], .int .i64 2000, .int .i64 100] (progC irS w1) fun e w' => ∃ hb ab gb bg cp cx, e = .returned (.tuple #[.pointer (some ⟨hb, 0, none⟩), .nilIface]) ∧
    Hp (progC irS w1).heap.size hb ab gb bg cp 1 cx irF 2000 100 ((4 * ((0 + 2) / 3) : Nat) : Int) ((100 + 4 * 0 : Nat) : Int) 1050 1050 2000 1050 (mkW 0) (mkB 0) (.slice none 0 0) w' ∧ Below (progC irS w1).heap.size (progC irS w1) w' :=
  new_heap (some ⟨w1.heap.size, 0, none⟩) 1 1 (some ⟨w1.heap.size + 1 + 1, 0, none⟩) 1 1 irF 2000 100 (progC irS w1) (progC_cls irS w1 _ (Below.refl _ _)) (by decide) (by decide) (by decide)

theorem rgR_wf {n : Nat} (hn : n ≤ 40) : ∀ x ∈ rgR n, (Lit.int .i64 x).wf = true := by
  intro x hx
  simp [rgR] at hx
  obtain ⟨j, hj, rfl⟩ := hx
  have := rgP_le (show j < 41 by omega)
  exact wf64 (by omega) (by omega)
theorem rgR_at {n j : Nat} (h : j < n) : ((rgR n).map (Value.int .i64))[j]? = some (.int .i64 (((rgP j : Nat) : Int) + 1)) := by simp [rgR, h]

def RgPut (W3 : World) (hb ab gb bg : Nat) (cp : Option Addr) (cx n : Nat) (v : Int) (w : World) (si : Value) (wr : World) : Prop :=
  ∃ k : Nat, k ≤ n ∧ si = .int .i64 k ∧ ∃ mk ns, ns.length ≤ k ∧ Hp w.heap.size hb ab gb bg cp 1 cx irF 2000 100 ((4 * ((n + 2) / 3) : Nat) : Int) ((100 + 4 * n : Nat) : Int) 1050 1050 2000 1050 (ptW v n k) (mkB n) mk wr ∧ Mkr W3.heap.size hb ab gb bg cp mk ns wr ∧ Mks hb gb bg (.slice none 0 0) mk W3 wr

/-- One more object is told. -/
theorem rg_next {N hb ab gb bg cx n i : Nat} {cp : Option Addr} {w w4 w5 : World} {v v5 : Value} {y : Int} {T : TypeId} (hnx : rgR (i + 1) = rgR i ++ [y])
    (h4 : Hp w.heap.size hb ab gb bg cp 1 cx irF 2000 100 ((4 * ((i + 1 + 2) / 3) : Nat) : Int) ((100 + 4 * (i + 1) : Nat) : Int) 1050 1050 2000 1050 (mkW (i + 1)) (mkB (i + 1)) (.slice none 0 0) w4) (hB : Below w.heap.size w w4)
    (ho4 : w4.ownsRow N 3 1 v i ((rgR i).map (Value.int .i64))) (ho5 : w5.ownsRow N 3 1 v5 (i + 1) ((rgR i).map (Value.int .i64) ++ [.int .i64 y])) (hg : (w4.alloc (.cells #[.int .i64 y] T)).grownBy w5 v.ownBlock)
    (lo : (w.heap.size ≤ hb ∧ w.heap.size ≤ gb ∧ w.heap.size ≤ bg) ∧ hb < N ∧ gb < N ∧ bg < N) (hab : ab < N) (hcp : ∀ ad, cp = some ad → ad.block < N) (hz : N ≤ w4.heap.size) (hlt : i < n) : RgMake N hb ab gb bg cp cx n w (.int .i64 (i + 1)) v5 w5 := by
  have hk : ∀ k, k < N → w5.heap[k]? = w4.heap[k]? := fun k hk => (hg.block k (by rw [World.size_alloc]; omega) (fun e => by have := (ho4.lt k e.symm).1; omega)).trans (Below.heap_alloc _ _ _ (by omega))
  have hs := hg.size
  rw [World.size_alloc] at hs
  have hw := hB.size
  have hwN : w.heap.size ≤ N := by omega
  refine ⟨i + 1, hlt, rfl, by rw [hnx, List.map_append]; exact ho5, ⟨(hk hb lo.2.1).trans h4.row, h4.ar.kept (hk gb lo.2.2.1) (hk ab hab), (hk bg lo.2.2.2).trans h4.beg, h4.cls.apart (fun ad had _ => hk _ (hcp ad had)), h4.cne, h4.d1, h4.d2, h4.d3, h4.d4, h4.d5, h4.lo, h4.y0, h4.y1, h4.y2, h4.y3, h4.y4, h4.sm, h4.f0⟩, ⟨hg.os.trans hB.os, hg.tape.trans hB.tape, hg.output.trans hB.output, by omega, fun k hkw => (hk k (by omega)).trans (hB.block k hkw)⟩, by omega⟩

set_option maxHeartbeats 8000000 in
set_option maxRecDepth 100000 in
theorem ring_walk (x0 x1 v : Int) (w : World) (n s : Nat) (hn0 : 0 < n) (hn : n ≤ 40) (hs : s < n) (e1 : ((x0.tmod 40) + 40).tmod 40 + 1 = n) (hb0 : -40 < x0.tmod 40 ∧ x0.tmod 40 < 40) (e2 : ((x1.tmod n) + n).tmod n = s) (hb1 : -(n : Int) < x1.tmod n ∧ x1.tmod n < n) :
    Calls Tryd.prog 11 #[.int .i64 x0, .int .i64 x1, .int .i64 v] w (TruePost w) := by
  have s1 : IntKind.i64.wrap (x0.tmod 40 + 40) = x0.tmod 40 + 40 := IntWalk.i64_in _ (by omega)
  obtain ⟨r0, hr0⟩ : ∃ r, x0.tmod 40 = r := ⟨_, rfl⟩
  rw [hr0] at s1 e1 hb0
  obtain ⟨q, hq⟩ : ∃ q, (r0 + 40).tmod 40 = q := ⟨_, rfl⟩
  rw [hq] at e1
  have s2 : IntKind.i64.wrap (q + 1) = n := by rw [IntWalk.i64_in _ (by omega)]; exact e1
  have s3 : IntKind.i64.wrap (x1.tmod n + n) = x1.tmod n + n := IntWalk.i64_in _ (by omega)
  obtain ⟨r1, hr1⟩ : ∃ r, x1.tmod n = r := ⟨_, rfl⟩
  rw [hr1] at s3 e2 hb1
  have t0 : ((n : Int) == 0) = false := by simp; omega
  have t00 : ((n : Int) == -1) = false := by simp
  obtain ⟨i0, hi0, hz0', hz1, hz2⟩ := info_parts intinfoR
  have HI := Lib.hid hi0
  have HZ0 := Lib.hid hz0'
  have HZ1 := Lib.hid hz1
  have HZ2 := Lib.hid hz2
  clear hb0 hb1 e1 hi0 hz0' hz1 hz2
  go_enter Tryd.func11, Tryd.ntmps11
  go_wp2_with fail
  refine (hfirst _).mono ?_
  rintro e w1 ⟨rfl, hB1⟩
  have B2 : Hid (Below w.heap.size w (progC irS w1)) := Lib.hid (hB1.trans ((progC_below irS w1).mono hB1.size))
  have KN := Lib.hid (new_ring w1)
  clear hB1
  obtain ⟨W, hW⟩ : ∃ W, progC irS w1 = W := ⟨_, rfl⟩
  rw [hW] at KN B2
  unfold progC irS at hW
  have HW := Lib.hid hW
  clear hW
  go_wp2_with fail
  rw [HW.out]
  refine KN.out.mono ?_
  rintro e w2 ⟨hb, ab, gb, bg, cp, cx, rfl, h2, hb2⟩
  have H3 := Lib.hid (h2.base B2.out.size)
  have B4 : Hid (Below w.heap.size w w2) := Lib.hid (B2.out.trans (hb2.mono B2.out.size))
  have LO : Hid ((w.heap.size ≤ hb ∧ w.heap.size ≤ gb ∧ w.heap.size ≤ bg) ∧ hb < w2.heap.size ∧ gb < w2.heap.size ∧ bg < w2.heap.size) := Lib.hid (by have := H3.out.lo; have := H3.out.glo; have := H3.out.lt; omega)
  have HAB : Hid (ab < w2.heap.size) := Lib.hid H3.out.lt.2.1
  have HCP : Hid (∀ ad, cp = some ad → ad.block < w2.heap.size) := Lib.hid (fun ad had => by have := World.block_lt_of_cell? w2 _ (H3.out.cls.cells ad had 0 (by omega)); rw [show (ad.add 0).block = ad.block by unfold Addr.add; split <;> rfl] at this; exact this)
  have F0 : Hid (RgMake w2.heap.size hb ab gb bg cp cx n w (.int .i64 0) (.slice none 0 0) w2) := Lib.hid ⟨0, Nat.zero_le _, rfl, World.ownsRow_nil _ _ _ _, H3.out, B4.out, Nat.le_refl _⟩
  clear h2 hb2 HW KN B2 H3 B4
  go_wp2_with fail
  clear s1 s2 s3 hr0 hr1 hq t0 t00
  go_loopw [12, 11] (fun si sv wr => RgMake w2.heap.size hb ab gb bg cp cx n w si sv wr) (fun si _ _ => n - (intOf si).toNat)
  case atStart => exact F0.out
  case round =>
    clear F0
    obtain ⟨i, hi, rfl, hown, hH, hB, hN⟩ := hrel
    by_cases hlt : i < n
    · have ti : decide (i < n) = true := by simpa using hlt
      have KO := Lib.hid (old_yes 0 0 2 (100 + 4 * i) wr hH kind1 (by decide) (by decide) (by omega))
      have HO := Lib.hid hown
      have HB := Lib.hid hB
      have HN := Lib.hid hN
      clear hH hown hB hN
      go_wp2_with fail
      refine KO.out.mono ?_
      rintro e w3 ⟨rfl, h3, t3⟩
      have hcast : ((100 + 4 * i : Nat) : Int) + (((2 : Nat) : Int) + 2) = ((100 + 4 * (i + 1) : Nat) : Int) := by omega
      rw [hcast] at h3
      have B3 := Lib.hid (t3.below HB.out LO.out.1.1 LO.out.1.2.1 LO.out.1.2.2 HB.out.size)
      have hO3 := ownsRow_stays HO.out (fun kk hk1 hk2 => t3.block kk hk2 (by have := LO.out; omega) (by have := LO.out; omega) (by have := LO.out; omega))
      have Z3 := Lib.hid (Nat.le_trans HN.out t3.size)
      obtain ⟨va, vc, hsv⟩ := own_shape hO3
      subst hsv
      have hdrop : ∃ r : Int, r = ((100 + 4 * i : Nat) : Int) + 1 := ⟨_, rfl⟩
      obtain ⟨r, hr⟩ := hdrop
      rw [← hr]
      have HR := Lib.hid hr
      have HM1 := Lib.hid (show i + 1 ≤ maxLen by unfold maxLen; omega)
      have HM2 := Lib.hid (show (i + 1) * 8 ≤ 140737488355328 by omega)
      clear KO HO HB HN t3 hcast hr
      by_cases h30 : i % 3 = 0
      · have t3 : ((i % 3 : Nat) == 0) = true := by simpa using h30
        have hyp : ((4 * ((i + 2) / 3) : Nat) : Int) = ((4 * (i / 3) : Nat) : Int) := by omega
        rw [hyp] at h3
        have KY := Lib.hid (young_yes 0 0 2 (4 * (i / 3)) w3 h3 kind1 (by decide) (by decide) (by omega))
        have HO3 := Lib.hid hO3
        clear h3 hO3 hyp
        go_wp2_with fail
        refine KY.out.mono ?_
        rintro e w4 ⟨rfl, h4, t4⟩
        have hcast : ((4 * (i / 3) : Nat) : Int) + (((2 : Nat) : Int) + 2) = ((4 * ((i + 1 + 2) / 3) : Nat) : Int) := by omega
        rw [hcast] at h4
        have hWB : mkW (i + 1) = laidW (laidW (mkW i) 0 (100 + 4 * i) 2) 0 (4 * (i / 3)) 2 ∧ mkB (i + 1) = laidB (laidB (mkB i) (100 + 4 * i)) (4 * (i / 3)) ∧ rgP i = 4 * (i / 3) := ⟨by rw [mkW, if_pos h30], by rw [mkB, if_pos h30], by unfold rgP; rw [if_pos h30]⟩
        rw [← hWB.1, ← hWB.2.1] at h4
        obtain ⟨y, hy⟩ : ∃ y : Int, y = ((4 * (i / 3) : Nat) : Int) + 1 := ⟨_, rfl⟩
        rw [← hy]
        have HNX : Hid (rgR (i + 1) = rgR i ++ [y]) := Lib.hid (by rw [rgR_next, hWB.2.2, hy])
        have H4 := Lib.hid h4
        have B4 := Lib.hid (t4.below B3.out LO.out.1.1 LO.out.1.2.1 LO.out.1.2.2 B3.out.size)
        have HO4 := Lib.hid (ownsRow_stays HO3.out (fun kk hk1 hk2 => t4.block kk hk2 (by have := LO.out; omega) (by have := LO.out; omega) (by have := LO.out; omega)))
        have Z4 := Lib.hid (Nat.le_trans Z3.out t4.size)
        have HB4 : Hid (w2.heap.size ≤ (w4.alloc (.cells #[.int .i64 y] 3)).heap.size) := Lib.hid (by rw [World.size_alloc]; have := Z4.out; omega)
        clear h4 t4 hcast hWB hy HO3 KY B3 Z3
        go_wp2_with (at_builtin; refine wpList_append_own _ rfl (.tmp 74) (.tmp 76) 26 rfl w2.heap.size 3 i0 (.int .i64 0) 1 8 Tryd.underlying26 HI.out HZ0.out HZ1.out HZ2.out rfl (by decide) (.slice va i vc) i ((rgR i).map (Value.int .i64)) rfl (HO4.out.alloc _) ⟨w4.heap.size, 0, none⟩ 1 1 [.int .i64 y] rfl rfl (cell_one_new _ _ _) (by simp [Value.oneCell']) HM1.out HM2.out HB4.out ?_; intro v5 w5 hown5 hgrow5 hnil5; obtain ⟨va5, vc5, rfl⟩ := own_shape hown5; replace hown5 := Lib.hid hown5; replace hgrow5 := Lib.hid hgrow5; clear hnil5)
        go_roundw
        case rel => exact rg_next HNX.out H4.out B4.out HO4.out hown5.out hgrow5.out LO.out HAB.out HCP.out Z4.out hlt
        case measure => simp [intOf]; omega
      · have t3 : ((i % 3 : Nat) == 0) = false := by simpa using h30
        have hyp : ((4 * ((i + 2) / 3) : Nat) : Int) = ((4 * ((i + 1 + 2) / 3) : Nat) : Int) := by omega
        rw [hyp] at h3
        have hWB : mkW (i + 1) = laidW (mkW i) 0 (100 + 4 * i) 2 ∧ mkB (i + 1) = laidB (mkB i) (100 + 4 * i) ∧ rgP i = 100 + 4 * i := ⟨by rw [mkW, if_neg h30], by rw [mkB, if_neg h30], by unfold rgP; rw [if_neg h30]⟩
        rw [← hWB.1, ← hWB.2.1] at h3
        have HNX : Hid (rgR (i + 1) = rgR i ++ [r]) := Lib.hid (by rw [rgR_next, hWB.2.2, HR.out])
        have H3 := Lib.hid h3
        have HO3 := Lib.hid hO3
        have HB3 : Hid (w2.heap.size ≤ (w3.alloc (.cells #[.int .i64 r] 3)).heap.size) := Lib.hid (by rw [World.size_alloc]; have := Z3.out; omega)
        clear h3 hO3 hyp hWB
        go_wp2_with (at_builtin; refine wpList_append_own _ rfl (.tmp 74) (.tmp 76) 26 rfl w2.heap.size 3 i0 (.int .i64 0) 1 8 Tryd.underlying26 HI.out HZ0.out HZ1.out HZ2.out rfl (by decide) (.slice va i vc) i ((rgR i).map (Value.int .i64)) rfl (HO3.out.alloc _) ⟨w3.heap.size, 0, none⟩ 1 1 [.int .i64 r] rfl rfl (cell_one_new _ _ _) (by simp [Value.oneCell']) HM1.out HM2.out HB3.out ?_; intro v5 w5 hown5 hgrow5 hnil5; obtain ⟨va5, vc5, rfl⟩ := own_shape hown5; replace hown5 := Lib.hid hown5; replace hgrow5 := Lib.hid hgrow5; clear hnil5)
        go_roundw
        case rel => exact rg_next HNX.out H3.out B3.out HO3.out hown5.out hgrow5.out LO.out HAB.out HCP.out Z3.out hlt
        case measure => simp [intOf]; omega
    · obtain rfl : i = n := by omega
      obtain ⟨W3, rfl⟩ : ∃ W3 : World, W3 = wr := ⟨_, rfl⟩
      have ti : decide (i < i) = false := by simp
      obtain ⟨g, c, rfl⟩ := own_form hown hn0
      have hgN := (hown.lt g rfl)
      have HG : Hid (g ≠ hb ∧ g ≠ gb ∧ g ≠ bg ∧ g < W3.heap.size) := Lib.hid (by have := LO.out; omega)
      have HCELL : Hid (∀ j, j < i → W3.cell? ⟨g, j, none⟩ = some (.int .i64 (((rgP j : Nat) : Int) + 1))) := Lib.hid fun j hj => by
        rw [hown.cellAt j (by omega)]
        exact rgR_at hj
      obtain ⟨ga, gc, he, hrow⟩ := row_of_owns hown (rgR_wf hn)
      cases he
      have hic := hrow.le
      have hcm := hrow.max
      unfold maxLen at hcm
      have MK0 : Mkr W3.heap.size hb ab gb bg cp (.slice none 0 0) [] W3 := ⟨World.ownsRow_nil _ _ _ _, ⟨by have := LO.out; omega, by have := HAB.out; omega, by have := LO.out; omega, by have := LO.out; omega, Nat.le_refl _⟩, fun ad had => by have := HCP.out ad had; omega⟩
      have P0 : Hid (RgPut W3 hb ab gb bg cp cx i v w (.int .i64 0) W3) := Lib.hid ⟨0, Nat.zero_le _, rfl, _, _, Nat.le_refl _, hH, MK0, ⟨rfl, rfl, rfl, Nat.le_refl _, fun _ _ _ _ _ _ => rfl, .inl rfl⟩⟩
      have HBW := Lib.hid hB
      clear hown hH hB hN hgN hrow MK0
      go_wp2_with fail
      go_loopw [17] (fun si wr => RgPut W3 hb ab gb bg cp cx i v w si wr) (fun si _ => i - (intOf si).toNat)
      case atStart => exact P0.out
      case round =>
        clear P0
        obtain ⟨k, hk, rfl, mk, ns, hns, hH, hM, hQ⟩ := hrel
        by_cases hlt : k < i
        · have tk : decide (k < i) = true := by simpa using hlt
          obtain ⟨k', hk'⟩ : ∃ k', (k + 1) % i = k' := ⟨_, rfl⟩
          have hk'i : k' < i := by rw [← hk']; exact Nat.mod_lt _ hn0
          have hcell : ∀ w' : World, (∀ z, z < W3.heap.size → z ≠ hb → z ≠ gb → z ≠ bg → w'.heap[z]? = W3.heap[z]?) → ∀ j, j < i → w'.cell? ⟨g, j, none⟩ = some (.int .i64 (((rgP j : Nat) : Int) + 1)) := fun w' hw' j hj =>
            (World.cell?_of_block (w := W3) (a := ⟨g, j, none⟩) (hw' g HG.out.2.2.2 HG.out.1 HG.out.2.1 HG.out.2.2.1)).trans (HCELL.out j hj)
          have hQb : ∀ z, z < W3.heap.size → z ≠ hb → z ≠ gb → z ≠ bg → wr.heap[z]? = W3.heap[z]? := fun z a b c d => hQ.block z a b c d (fun e => by cases e)
          have gx := hcell wr hQb k hlt
          have gy := hcell wr hQb k' hk'i
          have op := ring_obj v (k := k) hn (mkB_at i k hlt)
          have hrem : ((k : Int) + 1).tmod i = k' := by rw [← hk']; rfl
          have hrem2 : ((k : Int) + 1) % i = k' := by rw [← hk']; rfl
          obtain ⟨wd2, hwd2⟩ : ∃ wd2, wd2 = wr.drew := ⟨_, rfl⟩
          have hbd : Below wr.heap.size wr wd2 := by rw [hwd2]; exact below_drew (Below.refl _ _)
          have hT0 : Tri hb gb bg wr wd2 := Tri.of_below hbd
          obtain ⟨FA, FB, a1, a2, a3, a4, a5⟩ : ∃ FA FB : World → Prop,
              Calls Tryd.prog 75 #[.pointer (some ⟨hb, 0, none⟩), .int .i64 (((rgP k : Nat) : Int) + 1), .int .i64 0, .int .i64 (IntKind.i64.wrap (v + k))] wd2 (fun e wA => e = .returned (.bool true) ∧ FA wA) ∧
              (∀ wA, FA wA → wA.cell? ⟨g, k, none⟩ = some (.int .i64 (((rgP k : Nat) : Int) + 1)) ∧ wA.cell? ⟨g, k', none⟩ = some (.int .i64 (((rgP k' : Nat) : Int) + 1))) ∧
              (∀ wA, FA wA → Calls Tryd.prog 75 #[.pointer (some ⟨hb, 0, none⟩), .int .i64 (((rgP k : Nat) : Int) + 1), .int .i64 1, .int .i64 (((rgP k' : Nat) : Int) + 1)] wA (fun e w9 => e = .returned (.bool true) ∧ FB w9)) ∧
              (∀ w9, FB w9 → RgPut W3 hb ab gb bg cp cx i v w (.int .i64 ((k + 1 : Nat) : Int)) w9) ∧
              (∀ w9, FB w9 → w9.cell? ⟨g, k, none⟩ = some (.int .i64 (((rgP k : Nat) : Int) + 1)) ∧ w9.cell? ⟨g, k', none⟩ = some (.int .i64 (((rgP k' : Nat) : Int) + 1))) := by
            refine ⟨fun wA => Hp w.heap.size hb ab gb bg cp 1 cx irF 2000 100 ((4 * ((i + 2) / 3) : Nat) : Int) ((100 + 4 * i : Nat) : Int) 1050 1050 2000 1050 (putW (ptW v i k) (rgP k + 2 + 0) (IntKind.i64.wrap (v + k))) (mkB i) mk wA ∧ Tri hb gb bg wr wA, fun w9 => RgPut W3 hb ab gb bg cp cx i v w (.int .i64 ((k + 1 : Nat) : Int)) w9, ?_, ?_, ?_, fun _ h => h, ?_⟩
            · refine (put_plain (rgP k) 0 2 0 (IntKind.i64.wrap (v + k)) wd2 (hH.below hbd) op (by decide) (.inl (by decide))).mono ?_
              rintro e wA ⟨rfl, hA, tA⟩
              exact ⟨rfl, hA, hT0.trans tA⟩
            · rintro wA ⟨_, tA⟩
              have hz : ∀ z, z < W3.heap.size → z ≠ hb → z ≠ gb → z ≠ bg → wA.heap[z]? = W3.heap[z]? := fun z a b c d => (tA.block z (Nat.lt_of_lt_of_le a hQ.size) b c d).trans (hQb z a b c d)
              exact ⟨hcell wA hz k hlt, hcell wA hz k' hk'i⟩
            · rintro wA ⟨hA, tA⟩
              have := put_ring2 (N := W3.heap.size) v wA hlt hn (by omega) hA (hM.tri tA)
              rw [hk'] at this
              refine this.mono ?_
              rintro e w9 ⟨mk9, ns9, rfl, h9, m9, l9, q9⟩
              exact ⟨rfl, k + 1, hlt, rfl, mk9, ns9, by omega, h9, m9, (hQ.trans (Mks.of_tri tA)).trans q9⟩
            · rintro w9 ⟨_, _, _, _, _, _, _, _, hQ9⟩
              have hz : ∀ z, z < W3.heap.size → z ≠ hb → z ≠ gb → z ≠ bg → w9.heap[z]? = W3.heap[z]? := fun z a b c d => hQ9.block z a b c d (fun e => by cases e)
              exact ⟨hcell w9 hz k hlt, hcell w9 hz k' hk'i⟩
          have t0 : ((i : Int) == 0) = false := by simp; omega
          have t00 : ((i : Int) == -1) = false := by simp
          have t000 : ¬ (i : Int) = 0 := by omega
          have t001 : ¬ i = 0 := by omega
          have A1 := Lib.hid a1
          have A2 := Lib.hid a2
          have A3 := Lib.hid a3
          have A4 := Lib.hid a4
          have A5 := Lib.hid a5
          have HWD := Lib.hid hwd2
          generalize ((rgP k : Nat) : Int) + 1 = ρ at *
          generalize ((rgP k' : Nat) : Int) + 1 = σ at *
          have q1 : (0 : Int) ≤ (k : Int) := by omega
          have q2 : (k : Int) < (i : Int) := by omega
          have q3 : (0 : Int) ≤ (k' : Int) := by omega
          have q4 : (k' : Int) < (i : Int) := by omega
          have q5 : IntKind.i64.wrap ((k : Int) + 1) = (k : Int) + 1 := IntWalk.i64_in _ (by omega)
          clear hH hM hQ hQb hcell op hk' a1 a2 a3 a4 a5 hbd hT0 hns hwd2
          go_wp2_with fail
          rw [HWD.out] at A1
          have GX : Hid (wr.drew.cell? ⟨g, k, none⟩ = some (.int .i64 ρ) ∧ wr.drew.cell? ⟨g, k', none⟩ = some (.int .i64 σ)) := Lib.hid ⟨gx, gy⟩
          go_region_held3 (fun w' => w'.cell? ⟨g, k, none⟩ = some (.int .i64 ρ) ∧ w'.cell? ⟨g, k', none⟩ = some (.int .i64 σ)) (first | exact GX.out | exact A2.out _ HFA.out | exact A5.out _ HFB.out | fail) ((first | (go_at_call 75; (with_reducible refine A1.out.mono ?_); rintro e wA ⟨rfl, hA⟩; have HFA := Lib.hid hA; clear hA) | (go_at_call 75; (with_reducible refine (A3.out _ HFA.out).mono ?_); rintro e w9 ⟨rfl, hB⟩; have HFB := Lib.hid hB; clear hB)))
          all_goals go_wp2_with fail
          all_goals
            go_roundw
            case rel => exact A4.out _ HFB.out
            case measure => simp [intOf]; omega
        · obtain rfl : k = i := by omega
          obtain ⟨W4, rfl⟩ : ∃ W4 : World, W4 = wr := ⟨_, rfl⟩
          have tk : decide (k < k) = false := by simp
          have gs0 : W4.cell? ⟨g, s, none⟩ = some (.int .i64 (((rgP s : Nat) : Int) + 1)) := (World.cell?_of_block (w := W3) (a := ⟨g, s, none⟩) (hQ.block g HG.out.2.2.2 HG.out.1 HG.out.2.1 HG.out.2.2.1 (fun e => by cases e))).trans (HCELL.out s hs)
          have hB4 : Below w.heap.size w W4 := ⟨hQ.os.trans HBW.out.os, hQ.tape.trans HBW.out.tape, hQ.output.trans HBW.out.output, Nat.le_trans HBW.out.size hQ.size, fun z hz => (hQ.block z (Nat.lt_of_lt_of_le hz HBW.out.size) (by have := LO.out; omega) (by have := LO.out; omega) (by have := LO.out; omega) (fun e => by cases e)).trans (HBW.out.block z hz)⟩
          have hsp := rgP_le (show s < 41 by omega)
          obtain ⟨ρ, hρ⟩ : ∃ ρ : Int, ((rgP s : Nat) : Int) + 1 = ρ := ⟨_, rfl⟩
          have hwf : (Lit.int .i64 ρ).wf = true := wf64 (by omega) (by omega)
          have SH : Hid (∀ W5, Below W4.heap.size W4 W5 → ∀ q, Row .i64 W5 (some ⟨q, 0, none⟩) 3 3 [ρ, 0, ρ] → Calls Tryd.prog 76 #[.pointer (some ⟨hb, 0, none⟩), .slice (some ⟨q, 0, none⟩) 3 3] W5 (RgShape v k s W5)) := Lib.hid fun W5 hb5 q hr => by
            rw [← hρ] at hr
            exact ring_shape v W5 hn0 hn hs (hH.below hb5) hr
          rw [hρ] at gs0
          have hbA : Below W4.heap.size W4 (W4.alloc (.cells #[.int .i64 ρ, .int .i64 0, .int .i64 ρ] 3)).drew := below_drew ((Below.refl _ _).alloc (Nat.le_refl _) _)
          have HBA := Lib.hid hbA
          have HRA : Hid (Row .i64 (W4.alloc (.cells #[.int .i64 ρ, .int .i64 0, .int .i64 ρ] 3)).drew (some ⟨W4.heap.size, 0, none⟩) 3 3 [ρ, 0, ρ]) := Lib.hid (Row_drewN (row_new3 _ _ _ _ _ hwf (by decide) hwf) 1)
          have GS0 : Hid (W4.drew.cell? ⟨g, s, none⟩ = some (.int .i64 ρ)) := Lib.hid gs0
          have GS1 : Hid ((W4.alloc (.cells #[.int .i64 ρ, .int .i64 0, .int .i64 ρ] 3)).drew.cell? ⟨g, s, none⟩ = some (.int .i64 ρ)) := Lib.hid ((hbA.cell (World.block_lt_of_cell? W4 _ gs0)).trans gs0)
          have GS2 : Hid (∀ w6, Below (W4.alloc (.cells #[.int .i64 ρ, .int .i64 0, .int .i64 ρ] 3)).drew.heap.size (W4.alloc (.cells #[.int .i64 ρ, .int .i64 0, .int .i64 ρ] 3)).drew w6 → w6.cell? ⟨g, s, none⟩ = some (.int .i64 ρ)) := Lib.hid fun w6 h6 => (h6.cell (World.block_lt_of_cell? _ _ GS1.out)).trans GS1.out
          have HB4 := Lib.hid hB4
          have q1 : (0 : Int) ≤ (s : Int) := by omega
          have q2 : (s : Int) < (k : Int) := by omega
          clear hH hM hQ hns hB4 hρ hwf hbA HCELL HBW hsp gs0
          go_wp2_with fail
          go_region_held3 (fun w' => w'.cell? ⟨g, s, none⟩ = some (.int .i64 ρ)) (first | exact GS0.out | exact GS1.out | exact GS2.out _ HB6.out | fail) ((first | (go_at_call 76; (with_reducible refine (SH.out _ HBA.out _ HRA.out).mono ?_); rintro e w6 ⟨go, co, r, rc, rfl, hObj, hRr, hco, hgo, hb6⟩; have HB6 := Lib.hid hb6; have HOB := Lib.hid hObj; have HRR := Lib.hid hRr; have HCO := Lib.hid hco; have HGO := Lib.hid hgo; clear hb6 hObj hRr hco hgo)))
          have HB7 : Hid (Below w.heap.size w w6) := Lib.hid (HB4.out.trans ((HBA.out.trans (HB6.out.mono HBA.out.size)).mono HB4.out.size))
          have K26 : Hid (Calls Tryd.prog 28 #[.slice r 3 rc, .slice (some ⟨w6.heap.size, 0, none⟩) 3 3] (w6.alloc (.cells #[.int .i64 0, .int .i64 (-1), .int .i64 0] 3)) (fun e w' => e = .returned (.bool true) ∧ ∃ nq, w' = (w6.alloc (.cells #[.int .i64 0, .int .i64 (-1), .int .i64 0] 3)).drewN nq)) := Lib.hid ((same_ints _ _ 3 rc 3 3 [0, -1, 0] [0, -1, 0] _ (Row_alloc HRR.out _) (row_new3 _ _ _ _ _ (by decide) (by decide) (by decide)) (by decide)).mono (by rintro e w' ⟨he, nq, h⟩; exact ⟨by rw [he]; simp, nq, h⟩))
          clear HB4 HBA HRA GS0 GS1 GS2 SH HB6 HRR tk
          go_wp2_with (go_at_call 28; refine K26.out.mono ?_; rintro e w' ⟨rfl, nq, rfl⟩)
          have R6 : Hid (RgSame k w w6 (.int .i64 ((0 : Nat) : Int)) ((w6.alloc (.cells #[.int .i64 0, .int .i64 (-1), .int .i64 0] 3)).drewN nq)) := Lib.hid ⟨0, Nat.zero_le _, rfl, below_drewN (HB7.out.alloc HB7.out.size _) nq, below_drewN ((Below.refl _ _).alloc (Nat.le_refl _) _) nq⟩
          clear K26 HB7
          go_loopw [20] (fun si wr => RgSame k w w6 si wr) (fun si _ => k - (intOf si).toNat)
          case atStart => exact R6.out
          case round =>
            clear R6
            obtain ⟨t, htk, rfl, hb7, hb8⟩ := hrel
            by_cases hlt : t < k
            · have ti : decide (t < k) = true := by simpa using hlt
              obtain ⟨gx, b, gy, hrow⟩ := (HOB.out t hlt).below hb8
              have hk0 : 0 < k := by omega
              have hz1 := Nat.mod_lt (s + t) hk0
              have hz2 := Nat.mod_lt (t + 1) hk0
              have hrem1 : ((s : Int) + (t : Int)).tmod k = (((s + t) % k : Nat) : Int) := rfl
              have hrem2 : ((t : Int) + 1).tmod k = (((t + 1) % k : Nat) : Int) := rfl
              have hrem3 : ((s : Int) + (t : Int)) % k = (((s + t) % k : Nat) : Int) := rfl
              have hrem4 : ((t : Int) + 1) % k = (((t + 1) % k : Nat) : Int) := rfl
              have hwf := rg_wf (s := s) (t := t) v hn hk0
              generalize (s + t) % k = z at *
              generalize (t + 1) % k = z2 at *
              obtain ⟨μ, hμ⟩ : ∃ μ : Int, IntKind.i64.wrap (v + (z : Int)) = μ := ⟨_, rfl⟩
              rw [hμ] at hrow hwf
              have HW1 := hwf μ (by simp)
              have HW2 := hwf z2 (by simp)
              have K31 : Hid (Calls Tryd.prog 77 #[.slice (some ⟨b, 0, none⟩) 2 2, .slice (some ⟨wr.heap.size, 0, none⟩) 2 2] (wr.alloc (.cells #[.int .i64 μ, .int .i64 z2] 2)).drew (fun e w' => e = .returned (.bool true) ∧ ∃ nq, w' = (wr.alloc (.cells #[.int .i64 μ, .int .i64 z2] 2)).drew.drewN nq)) := Lib.hid ((same_longs _ _ 2 2 2 2 [μ, (z2 : Int)] [μ, (z2 : Int)] _ (Row_drewN (Row_alloc hrow _) 1) (Row_drewN (row_new2 _ _ _ _ HW1 HW2) 1) (by decide)).mono (by rintro e w' ⟨he, nq, h⟩; exact ⟨by rw [he]; simp, nq, h⟩))
              have q1 : (0 : Int) ≤ (t : Int) := by omega
              have q2 : (t : Int) < (k : Int) := by omega
              have q3 : IntKind.i64.wrap ((s : Int) + (t : Int)) = (s : Int) + t := IntWalk.i64_in _ (by omega)
              have q4 : IntKind.i64.wrap ((t : Int) + 1) = (t : Int) + 1 := IntWalk.i64_in _ (by omega)
              have t0 : ((k : Int) == 0) = false := by simp; omega
              have t00 : ((k : Int) == -1) = false := by simp
              have t000 : ¬ (k : Int) = 0 := by omega
              have t001 : ¬ k = 0 := by omega
              have HB7 := Lib.hid hb7
              have HB8 := Lib.hid hb8
              have hbl : Below wr.heap.size wr (wr.alloc (.cells #[.int .i64 μ, .int .i64 (z2 : Int)] 2)) := (Below.refl _ _).alloc (Nat.le_refl _) _
              have G0 : Hid (wr.drew.cell? ⟨go, t * 2, none⟩ = some (.int .i64 0) ∧ wr.drew.cell? ⟨go, t * 2 + 1, none⟩ = some (.slice (some ⟨b, 0, none⟩) 2 2)) := Lib.hid ⟨gx, gy⟩
              have G1 : Hid ((wr.alloc (.cells #[.int .i64 μ, .int .i64 (z2 : Int)] 2)).drew.cell? ⟨go, t * 2, none⟩ = some (.int .i64 0) ∧ (wr.alloc (.cells #[.int .i64 μ, .int .i64 (z2 : Int)] 2)).drew.cell? ⟨go, t * 2 + 1, none⟩ = some (.slice (some ⟨b, 0, none⟩) 2 2)) := Lib.hid ⟨(hbl.cell (World.block_lt_of_cell? _ _ gx)).trans gx, (hbl.cell (World.block_lt_of_cell? _ _ gy)).trans gy⟩
              clear hrow hwf HW1 HW2 hb7 hb8 hbl
              go_wp2_with fail
              go_region_held3 (fun w' => w'.cell? ⟨go, t * 2, none⟩ = some (.int .i64 0) ∧ w'.cell? ⟨go, t * 2 + 1, none⟩ = some (.slice (some ⟨b, 0, none⟩) 2 2)) (first | exact G0.out | exact G1.out | exact ⟨G1.out.1, G1.out.2⟩ | fail) ((first | (go_at_call 77; (with_reducible refine K31.out.mono ?_); rintro e w' ⟨rfl, nq, rfl⟩)))
              all_goals go_wp2_with fail
              all_goals
                go_roundw
                case rel => exact ⟨t + 1, by omega, by go_num, by first | exact below_drewN (below_drew (HB7.out.alloc HB7.out.size _)) _ | exact below_drewN (HB7.out.alloc HB7.out.size _) _, by first | exact below_drewN (below_drew (HB8.out.alloc HB8.out.size _)) _ | exact below_drewN (HB8.out.alloc HB8.out.size _) _⟩
                case measure => simp [intOf]; omega
            · obtain rfl : t = k := by omega
              have ti : decide (t < t) = false := by simp
              have HB7 := Lib.hid hb7
              clear hb7 hb8
              go_wp2_with fail
              go_ret
              exact ⟨rfl, HB7.out⟩

end Go.Proofs.YtjffbojgdemooaaDoor

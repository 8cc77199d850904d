/-
  A heap's Shape.
-/
import Derived.Test.YtjffbojgdemooaaDoorShpA
namespace Go.Proofs.YtjffbojgdemooaaDoor
open Go.RowKit

def NumRel (mn q : Nat) (out : List Int) (W2 : World) (si : Value) (wr : World) : Prop :=
  ∃ k : Nat, k ≤ q ∧ si = .int .i64 k ∧ IntMap Tryd.prog 3 3 mn k (numS out k) wr ∧ Tri mn mn mn W2 wr

def ObjRel (wd : Nat → Int) (cf : Nat → ByteArray) (ob : Nat → Option (Int × Nat)) (out : List Int) (q : Nat) (W3 : World) (si sv : Value) (wr : World) : Prop :=
  ∃ k : Nat, k ≤ q ∧ si = .int .i64 k ∧ Told wd cf ob out W3.heap.size k sv wr ∧ Below W3.heap.size W3 wr

def InRel (bv m : Nat) (f : Nat → Int) (W4 : World) (si : Value) (wr : World) : Prop :=
  ∃ i : Nat, i ≤ m ∧ si = .int .i64 i ∧ wr.heap[bv]? = some (.cells (intRow m fun j => if j < i then f j else 0) 2 (0, 0)) ∧ Tri bv bv bv W4 wr

def AtRel (out zs : List Int) (len : Nat) (W5 : World) (si sv : Value) (wr : World) : Prop :=
  ∃ i : Nat, i ≤ len ∧ si = .int .i64 i ∧ wr.ownsRow W5.heap.size 3 1 sv i (((zs.take i).map (toldF out)).map (Value.int .i64)) ∧ Below W5.heap.size W5 wr

def ShapePost (wd : Nat → Int) (cf : Nat → ByteArray) (ob : Nat → Option (Int × Nat)) (n : Nat) (zs : List Int) (w : World) (e : Ending) (w' : World) : Prop :=
  ∃ vo vr k, e = .returned (.tuple #[vo, vr]) ∧ (outN (isB ob n) (refsB wd cf ob) zs k).length = k ∧ Told wd cf ob (outN (isB ob n) (refsB wd cf ob) zs k) w.heap.size k vo w' ∧
    w'.ownsRow w.heap.size 3 1 vr zs.length ((zs.map (toldF (outN (isB ob n) (refsB wd cf ob) zs k))).map (Value.int .i64)) ∧ Below w.heap.size w w'

/-- Two cells of a new block. -/
theorem cells_new2 (w : World) (x y : Value) (T : TypeId) : ∀ j u, [x, y][j]? = some u → (w.alloc (.cells #[x, y] T)).cell? ((⟨w.heap.size, 0, none⟩ : Addr).add j) = some u := by
  intro j u hu
  have e : (⟨w.heap.size, 0, none⟩ : Addr).add j = ⟨w.heap.size, j, none⟩ := by
    unfold Addr.add
    split
    · rename_i h0; rw [h0]
    · simp
  rw [e, cell_of_row _ w.heap.size j _ T (0, 0) (heap_alloc_new w _)]
  simpa using hu

theorem in_set {bv m i : Nat} {g : Nat → Int} {W4 wi : World} (x : Int) (hr : wi.heap[bv]? = some (.cells (intRow m g) 2 (0, 0))) (hT : Tri bv bv bv W4 wi) :
    (wi.drew.setCell ⟨bv, i, none⟩ (.int .i64 x)).heap[bv]? = some (.cells (intRow m fun j => if j = i then x else g j) 2 (0, 0)) ∧ Tri bv bv bv W4 (wi.drew.setCell ⟨bv, i, none⟩ (.int .i64 x)) := by
  refine ⟨?_, ?_⟩
  · rw [heap_setCell_same wi.drew bv i _ 2 _ hr, intRow_set]
  · have h1 : Tri bv bv bv W4 wi.drew := ⟨hT.os, hT.tape, hT.output, hT.size, hT.block⟩
    exact h1.trans (Tri.of_grown (grown_store _ bv i _) (.inl rfl))

theorem in_next {f : Nat → Int} {i : Nat} {x : Int} (h : f i = x) (j : Nat) : (if j = i then x else if j < i then f j else 0) = if j < i + 1 then f j else 0 := by
  by_cases h1 : j = i
  · subst h1; rw [if_pos rfl, if_pos (by omega), h]
  · rw [if_neg h1]
    by_cases h2 : j < i
    · rw [if_pos h2, if_pos (by omega)]
    · rw [if_neg h2, if_neg (by omega)]
theorem in_next2 {f : Nat → Int} {i : Nat} {x y : Int} (h : f i = y) (j : Nat) : (if j = i then y else if j = i then x else if j < i then f j else 0) = if j < i + 1 then f j else 0 := by
  rw [← in_next h j]
  by_cases h1 : j = i
  · rw [if_pos h1, if_pos h1]
  · rw [if_neg h1, if_neg h1, if_neg h1]

theorem told_base {wd : Nat → Int} {cf : Nat → ByteArray} {ob : Nat → Option (Int × Nat)} {out : List Int} {B C k : Nat} {v : Value} {w : World} (h : Told wd cf ob out B k v w) (hC : C ≤ B) : Told wd cf ob out C k v w := by
  obtain ⟨xs, h1, h2⟩ := h
  refine ⟨xs, own_base h1 hC, fun j hj => ?_⟩
  obtain ⟨p, kl, m, e1, e2, ⟨b, hb, x⟩⟩ := h2 j hj
  exact ⟨p, kl, m, e1, e2, ⟨b, Nat.le_trans hC hb, x⟩⟩

theorem told_shape {wd : Nat → Int} {cf : Nat → ByteArray} {ob : Nat → Option (Int × Nat)} {out : List Int} {B k : Nat} {v : Value} {w : World} (h : Told wd cf ob out B k v w) : ∃ a c, v = .slice a k c := by
  obtain ⟨xs, h1, _⟩ := h
  exact own_shape h1

section
variable {B hb ab gb bg : Nat} {cp : Option Addr} {cl cc : Nat} {cf : Nat → ByteArray} {n : Nat} {yt yp hp ht f1 t1 p1 : Int} {wd : Nat → Int} {bd : Nat → Bool} {mk : Value} {ob : Nat → Option (Int × Nat)}

set_option maxHeartbeats 4000000 in
set_option maxRecDepth 100000 in
theorem shape_any (a : Option Addr) (len cap : Nat) (zs : List Int) (w : World) (H0 : Hp B hb ab gb bg cp cl cc cf n yt yp hp ht f1 t1 p1 wd bd mk w) (hO : Objs n wd bd cl cf ob) (hr : Row .i64 w a len cap zs) (hlen : len ≤ 1000000) :
    Calls Tryd.prog 76 #[.pointer (some ⟨hb, 0, none⟩), .slice a len cap] w (ShapePost wd cf ob n zs w) := by
  have sm := H0.sm
  have hln := hr.len_eq
  have hmax := hr.max
  have hle := hr.le
  unfold maxLen at hmax
  have HH := Lib.hid H0
  have HO := Lib.hid hO
  have HR := Lib.hid hr
  have HL := Lib.hid hln
  have KR := Lib.hid (reach_any a len cap zs w H0 hO hr)
  clear H0 hO hr hln
  have hmm := @run_makeMap Tryd.prog
  go_enter Tryd.func76, Tryd.ntmps76
  go_wp2_with fail
  refine KR.out.mono ?_
  rintro e w1 ⟨v, q, rfl, hq, hown, hb1⟩
  have hneat := neat_outN (isB ob n) (refsB wd cf ob) zs q
  have hqn := neat_len hneat (fun r hr => isB_le hr)
  generalize hout : outN (isB ob n) (refsB wd cf ob) zs q = out at *
  have HOUT := Lib.hid hout
  clear hout KR
  rw [hq] at hqn
  have HQ := Lib.hid hq
  have HNE := Lib.hid hneat
  obtain ⟨va, vc, rfl, hrow⟩ := row_of_owns hown (fun x hx => by
    have := isB_le (hneat.2 x hx)
    exact wf64 (by omega) (by omega))
  have hvm := hrow.max
  have hvl := hrow.le
  unfold maxLen at hvm
  have RW := Lib.hid hrow
  have B1 := Lib.hid hb1
  have W1 := Lib.hid (wf64 (x := 0) (by omega) (by omega))
  have hb2 : Below w1.heap.size w1 ((w1.alloc (.map #[] 0)).alloc (.cells #[.map (some w1.heap.size)] 194)) := ((Below.refl _ _).alloc (Nat.le_refl _) _).alloc (by simp) _
  have hM2 : IntMap Tryd.prog 3 3 w1.heap.size 0 (numS out 0) ((w1.alloc (.map #[] 0)).alloc (.cells #[.map (some w1.heap.size)] 194)) :=
    ((IntMap.made w1 Tryd.prog 3 3).kept (Below.heap_alloc _ _ _ (by simp))).congr (fun x => (numS_zero out x).symm)
  have hc2 : ((w1.alloc (.map #[] 0)).alloc (.cells #[.map (some w1.heap.size)] 194)).heap[w1.heap.size + 1]? = some (.cells #[.map (some w1.heap.size)] 194 (0, 0)) := by
    have := heap_alloc_new (w1.alloc (.map #[] 0)) (.cells #[.map (some w1.heap.size)] 194)
    rw [World.size_alloc] at this
    exact this
  have N0 : Hid (NumRel w1.heap.size q out ((w1.alloc (.map #[] 0)).alloc (.cells #[.map (some w1.heap.size)] 194)) (.int .i64 0) ((w1.alloc (.map #[] 0)).alloc (.cells #[.map (some w1.heap.size)] 194))) := Lib.hid ⟨0, Nat.zero_le _, rfl, hM2, Tri.refl _ _ _ _⟩
  have HB2 := Lib.hid hb2
  have HC2 := Lib.hid hc2
  clear hq hneat hown hrow hb1 hb2 hM2 hc2
  go_wp2_with fail
  go_loopw [28] (fun si wr => NumRel w1.heap.size q out ((w1.alloc (.map #[] 0)).alloc (.cells #[.map (some w1.heap.size)] 194)) si wr) (fun si _ => q - (intOf si).toNat)
  case atStart => exact N0.out
  case round =>
    clear N0
    obtain ⟨k, hk, rfl, hM, hT⟩ := hrel
    have hz2 : w1.heap.size + 2 ≤ wr.heap.size := by have := hT.size; simp at this; omega
    have kb : ∀ x, x < w1.heap.size → wr.heap[x]? = w1.heap[x]? := fun x hx => (hT.block x (by simp; omega) (by omega) (by omega) (by omega)).trans (HB2.out.block x hx)
    have hc : wr.heap[w1.heap.size + 1]? = some (.cells #[.map (some w1.heap.size)] 194 (0, 0)) := (hT.block _ (by simp) (by omega) (by omega) (by omega)).trans HC2.out
    have cb : wr.cell? ⟨w1.heap.size + 1, 0, none⟩ = some (.map (some w1.heap.size)) := by rw [cell_of_row wr _ 0 _ _ (0, 0) hc]; rfl
    by_cases hlt : k < q
    · obtain ⟨lb, lo, rfl, hcell⟩ := Row_at RW.out (by omega)
      have hblk : lb < w1.heap.size := Row_lt RW.out (by omega) ⟨lb, lo, none⟩ rfl
      have cx : wr.cell? ⟨lb, lo + k, none⟩ = some (.int .i64 (out.getD k 0)) := by rw [World.cell?_of_block (w := w1) (a := ⟨lb, lo + k, none⟩) (kb lb hblk)]; exact hcell k hlt
      have hkl : k < out.length := by rw [HQ.out]; exact hlt
      have hwf : (Lit.int .i64 (out.getD k 0)).wf = true := RW.out.wf _ (by simp [List.getD, hkl])
      have hnx := numS_next out k HNE.out.1 hkl
      generalize out.getD k 0 = x at *
      have t1 : decide (k < q) = true := by simpa using hlt
      have HM := Lib.hid hM
      have HT := Lib.hid hT
      have HWF := Lib.hid hwf
      have HNX := Lib.hid hnx
      have HKW : Hid ((Lit.int .i64 (k : Int)).wf = true) := Lib.hid (wf64 (by omega) (by omega))
      have HKM : Hid (k < maxLen) := Lib.hid (by unfold maxLen; omega)
      clear hM hT kb hc hwf hnx hcell hz2 hmm
      go_wp2_with (at_mapUpdate; refine wpList_imap_put _ rfl _ _ _ 194 rfl 3 3 Tryd.underlying3 Tryd.underlying194 Tryd.underlying3 w1.heap.size k _ rfl HM.out HKM.out x rfl HWF.out k rfl HKW.out ?_; intro w5 hM5 hT5)
      go_roundw
      case rel => exact ⟨k + 1, by omega, by go_num, hM5.congr (fun y => by rw [← HNX.out y]; unfold upd; rfl), HT.out.trans (Tri.of_grown hT5.grown (.inl rfl))⟩
      case measure => simp [intOf]; omega
    · obtain rfl : k = q := by omega
      obtain ⟨W3, rfl⟩ : ∃ W3 : World, W3 = wr := ⟨_, rfl⟩
      have t1 : decide (k < k) = false := by simp
      rw [← HQ.out] at hM
      have HM := Lib.hid hM
      have HBW : Hid (Below w.heap.size w W3) := Lib.hid (hT.below (B1.out.trans (HB2.out.mono B1.out.size)) B1.out.size B1.out.size B1.out.size (by have := B1.out.size; simp; omega))
      have HR3 : Hid (Row .i64 W3 va k vc out) := Lib.hid (Row_kept RW.out (fun p v hc => (World.cell?_of_block (w := w1) (a := p) (kb p.block (World.block_lt_of_cell? w1 p hc))).trans hc))
      have HC := Lib.hid hc
      have HZ2 := Lib.hid hz2
      obtain ⟨bn, hbn⟩ : ∃ bn, w1.heap.size + 1 = bn := ⟨_, rfl⟩
      have hmn : w1.heap.size < W3.heap.size := by omega
      have hbw : bn < W3.heap.size := by omega
      have O0 : Hid (ObjRel wd cf ob out k W3 (.int .i64 0) (.slice none 0 0) W3) := Lib.hid ⟨0, Nat.zero_le _, rfl, ⟨[], World.ownsRow_nil _ _ _ _, fun j hj => absurd hj (Nat.not_lt_zero _)⟩, Below.refl _ _⟩
      clear hM hT kb hc hz2 cb hmm
      go_wp2_with fail
      rw [hbn] at HC
      rw [hbn]
      clear hbn
      generalize w1.heap.size = mn at *
      go_loopw [40, 11] (fun si sv w3 => ObjRel wd cf ob out k W3 si sv w3) (fun si _ _ => k - (intOf si).toNat)
      case atStart => exact O0.out
      case round =>
        clear O0
        obtain ⟨j, hj, rfl, hT, hB⟩ := hrel
        have hBW : Below w.heap.size w wr := HBW.out.trans (hB.mono HBW.out.size)
        have hzr := hB.size
        by_cases hlt : j < k
        · obtain ⟨lb, lo, rfl, hcell⟩ := Row_at HR3.out (by omega)
          have hblk : lb < W3.heap.size := Row_lt HR3.out (by omega) ⟨lb, lo, none⟩ rfl
          have cx : wr.cell? ⟨lb, lo + j, none⟩ = some (.int .i64 (out.getD j 0)) := (hB.cell (p := ⟨lb, lo + j, none⟩) hblk).trans (hcell j hlt)
          have hjl : j < out.length := by rw [HQ.out]; exact hlt
          obtain ⟨p, kl, m, hx, hob, hpn⟩ := isB_at (HNE.out.2 (out.getD j 0) (by simp [List.getD, hjl]))
          have hobj := HO.out.has p kl m hob
          have hfit := hobj.fit
          obtain ⟨xs, hown, hobs⟩ := hT
          obtain ⟨sa, sc, rfl⟩ := own_shape hown
          rw [hx] at cx
          have t1 : decide (j < k) = true := by simpa using hlt
          have KI := Lib.hid (is_yes p kl m wr (HH.out.below hBW) hobj)
          have MK := Lib.hid (mk_ints m (by omega))
          have HX := Lib.hid hx
          have HOB := Lib.hid hob
          have HJ := Lib.hid hobj
          have HOWN := Lib.hid hown
          have HOBS := Lib.hid hobs
          have HBR := Lib.hid hB
          have HBWR := Lib.hid hBW
          clear hcell hx hob hobj hown hobs hB hBW hjl hpn
          obtain ⟨W4, hW4⟩ : ∃ W4, (wr.alloc (.cells (intRow m fun _ => 0) 2)).alloc (.cells #[.int .i64 kl, .slice (some ⟨wr.heap.size, 0, none⟩) m m] 107) = W4 := ⟨_, rfl⟩
          have g1 : W4.heap[wr.heap.size]? = some (.cells (intRow m fun _ => 0) 2 (0, 0)) := by rw [← hW4, Below.heap_alloc _ _ _ (by simp)]; exact heap_alloc_new _ _
          have g2 : W4.heap[wr.heap.size + 1]? = some (.cells #[.int .i64 kl, .slice (some ⟨wr.heap.size, 0, none⟩) m m] 107 (0, 0)) := by
            rw [← hW4]
            have := heap_alloc_new (wr.alloc (.cells (intRow m fun _ => 0) 2)) (.cells #[.int .i64 kl, .slice (some ⟨wr.heap.size, 0, none⟩) m m] 107)
            rw [World.size_alloc] at this
            exact this
          have g3 : Below wr.heap.size wr W4 := by rw [← hW4]; exact ((Below.refl _ _).alloc (Nat.le_refl _) _).alloc (by simp) _
          have g4 : W4.heap.size = wr.heap.size + 2 := by rw [← hW4]; simp
          have I0 : Hid (InRel wr.heap.size m (valF wd cf out kl p) W4 (.int .i64 0) W4) := Lib.hid ⟨0, Nat.zero_le _, rfl, by rw [g1, intRow_congr (g := fun j => if j < 0 then valF wd cf out kl p j else 0) (fun j _ => by rw [if_neg (Nat.not_lt_zero _)])], Tri.refl _ _ _ _⟩
          have G2 := Lib.hid g2
          have G3 := Lib.hid g3
          have G4 := Lib.hid g4
          have HW4 := Lib.hid hW4
          clear g1 g2 g3 g4 hW4
          go_wp2_with (first | (go_at_call 71; refine KI.out.mono ?_; rintro e w' ⟨rfl, rfl⟩) | rw [MK.out])
          rw [HW4.out]
          clear HW4 MK KI cx
          obtain ⟨Wj, rfl⟩ : ∃ Wj : World, Wj = wr := ⟨_, rfl⟩
          go_loopw [56] (fun si wi => InRel Wj.heap.size m (valF wd cf out kl p) W4 si wi) (fun si _ => m - (intOf si).toNat)
          case atStart => exact I0.out
          case round =>
            clear I0
            obtain ⟨i, hi, rfl, hri, hTi⟩ := hrel
            have hBi : Below w.heap.size w wr := (hTi.below (B := Wj.heap.size) G3.out (Nat.le_refl _) (Nat.le_refl _) (Nat.le_refl _) (by have := G4.out; omega) |> fun h => HBWR.out.trans (h.mono HBWR.out.size))
            have hbo : wr.heap[Wj.heap.size + 1]? = some (.cells #[.int .i64 kl, .slice (some ⟨Wj.heap.size, 0, none⟩) m m] 107 (0, 0)) := (hTi.block _ (by have := G4.out; omega) (by omega) (by omega) (by omega)).trans G2.out
            have c0 : wr.cell? ⟨Wj.heap.size + 1, 0, none⟩ = some (.int .i64 kl) := by rw [cell_of_row wr _ 0 _ _ (0, 0) hbo]; rfl
            have c1 : wr.cell? ⟨Wj.heap.size + 1, 1, none⟩ = some (.slice (some ⟨Wj.heap.size, 0, none⟩) m m) := by rw [cell_of_row wr _ 1 _ _ (0, 0) hbo]; rfl
            by_cases hlt2 : i < m
            · have t2 : decide (i < m) = true := by simpa using hlt2
              have KG := Lib.hid (get_yes p kl m i wr.drew ((HH.out.below hBi).drewN 1) HJ.out hlt2)
              have ci : wr.cell? ⟨Wj.heap.size, i, none⟩ = some (.int .i64 (if i < i then valF wd cf out kl p i else 0)) := by rw [cell_of_row wr _ i _ _ (0, 0) hri, intRow_get m _ i hlt2]
              have fi := frozen_of_row wr Wj.heap.size i _ _ hri
              have hwf := HO.out.wf (p + 2 + i) (by omega)
              obtain ⟨x, hx⟩ : ∃ x, wd (p + 2 + i) = x := ⟨_, rfl⟩
              rw [hx] at KG hwf
              obtain ⟨hrj, hTj⟩ := in_set (i := i) x hri hTi
              have hval : valF wd cf out kl p i = if refK cf kl i then toldF out x else x := by unfold valF; rw [hx]
              have HBO := Lib.hid hbo
              have HRJ := Lib.hid hrj
              have HTJ := Lib.hid hTj
              have HWF := Lib.hid hwf
              have HVAL := Lib.hid hval
              have HBI := Lib.hid hBi
              have HX2 := Lib.hid hx
              have HRI := Lib.hid hri
              have HTI := Lib.hid hTi
              clear hri hTi hBi hbo hwf hx hrj hTj hval
              go_upto_region 18 with (fail)
              go_cut [56] from 56 to 85 (fun s wx => s = .int .i64 i ∧ wx = wr.drew.setCell ⟨Wj.heap.size, i, none⟩ (.int .i64 x))
              case first =>
                go_region_with (go_at_call 72; refine KG.out.mono ?_; rintro e w' ⟨rfl, rfl⟩)
                all_goals
                  go_wp2_with fail
                  go_meet
                  exact ⟨rfl, rfl⟩
              case rest =>
                obtain ⟨rfl, hwc⟩ := hcut
                have HWC := Lib.hid hwc
                have hrc : wc.heap[Wj.heap.size]? = some (.cells (intRow m fun j => if j = i then x else if j < i then valF wd cf out kl p j else 0) 2 (0, 0)) := by rw [hwc]; exact HRJ.out
                have hTc : Tri Wj.heap.size Wj.heap.size Wj.heap.size W4 wc := by rw [hwc]; exact HTJ.out
                clear hwc HWC KG ci fi c0 c1 HRJ HTJ HRI HTI HBI HBO
                have hBc : Below w.heap.size w wc := (hTc.below (B := Wj.heap.size) G3.out (Nat.le_refl _) (Nat.le_refl _) (Nat.le_refl _) (by have := G4.out; omega) |> fun h => HBWR.out.trans (h.mono HBWR.out.size))
                have hbo : wc.heap[Wj.heap.size + 1]? = some (.cells #[.int .i64 kl, .slice (some ⟨Wj.heap.size, 0, none⟩) m m] 107 (0, 0)) := (hTc.block _ (by have := G4.out; omega) (by omega) (by omega) (by omega)).trans G2.out
                have c1 : wc.cell? ⟨Wj.heap.size + 1, 1, none⟩ = some (.slice (some ⟨Wj.heap.size, 0, none⟩) m m) := by rw [cell_of_row wc _ 1 _ _ (0, 0) hbo]; rfl
                have ci : wc.cell? ⟨Wj.heap.size, i, none⟩ = some (.int .i64 x) := by rw [cell_of_row wc _ i _ _ (0, 0) hrc, intRow_get m _ i hlt2, if_pos rfl]
                have fi := frozen_of_row wc Wj.heap.size i _ _ hrc
                have KF := Lib.hid (ref_yes p kl m i wc (HH.out.below hBc) HJ.out hlt2)
                have hl3 : Wj.heap.size ≤ W4.heap.size := by have := G4.out; omega
                have hz3 := HZ2.out
                have hbc : wc.heap[bn]? = some (.cells #[.map (some mn)] 194 (0, 0)) := (hTc.block bn (by omega) (by omega) (by omega) (by omega)).trans ((G3.out.block bn (by omega)).trans ((HBR.out.block bn hbw).trans HC.out))
                have hMc : IntMap Tryd.prog 3 3 mn out.length (numS out out.length) wc := HM.out.kept ((hTc.block mn (by omega) (by omega) (by omega) (by omega)).trans ((G3.out.block mn (by omega)).trans (HBR.out.block mn hmn)))
                have KT := Lib.hid (told_any out x wc.drew (hbc : wc.drew.heap[bn]? = _) (hMc.kept rfl) HWF.out)
                have HRC := Lib.hid hrc
                have HTC := Lib.hid hTc
                clear hrc hTc hBc hbo hbc hMc hl3 hz3
                cases hk : refK cf kl i with
                | false =>
                  rw [hk] at KF
                  have hv : valF wd cf out kl p i = x := by rw [HVAL.out, hk]; rfl
                  have HV := Lib.hid hv
                  clear hv hk
                  go_wp2_with (go_at_call 73; refine KF.out.mono ?_; rintro e w' ⟨rfl, rfl⟩)
                  go_roundw
                  case rel => exact ⟨i + 1, by omega, by go_num, by rw [HRC.out]; congr 2; exact intRow_congr (fun j _ => in_next HV.out j), HTC.out⟩
                  case measure => simp [intOf]; omega
                | true =>
                  rw [hk] at KF
                  have hv : valF wd cf out kl p i = toldF out x := by rw [HVAL.out, hk]; rfl
                  have HV := Lib.hid hv
                  clear hv hk
                  generalize toldF out x = y at *
                  go_wp2_with (go_at_call 73; refine KF.out.mono ?_; rintro e w' ⟨rfl, rfl⟩)
                  go_region_with (go_at_call 140; refine KT.out.mono ?_; rintro e w' ⟨rfl, rfl⟩)
                  all_goals
                    go_wp2_with fail
                    go_roundw
                    case rel =>
                      obtain ⟨hr9, hT9⟩ := in_set (i := i) y HRC.out HTC.out
                      exact ⟨i + 1, by omega, by go_num, hr9.trans (congrArg (fun r => some (Obj.cells r 2 (0, 0))) (intRow_congr (fun j _ => in_next2 HV.out j))), ⟨hT9.os, hT9.tape, hT9.output, hT9.size, hT9.block⟩⟩
                    case measure => simp [intOf]; omega
            · obtain rfl : i = m := by omega
              have t2 : decide (i < i) = false := by simp
              have hz4 := G4.out
              have hzT := hTi.size
              have hzr3 := HBR.out.size
              have kW : ∀ z, z < Wj.heap.size → wr.heap[z]? = Wj.heap[z]? := fun z hz => (hTi.block z (by omega) (by omega) (by omega) (by omega)).trans (G3.out.block z hz)
              have hOW : wr.ownsRow W3.heap.size 107 2 (.slice sa j sc) j xs := by
                refine ⟨HOWN.out.1, ?_⟩
                rcases HOWN.out.2 with h3 | ⟨g, cap', cur, hv, hb', hg, h4⟩
                · exact .inl h3
                · exact .inr ⟨g, cap', cur, hv, hb', (kW g (Array.getElem?_eq_some_iff.1 hg).1).trans hg, h4⟩
              have OW := Lib.hid hOW
              have HRI := Lib.hid hri
              have KW := Lib.hid kW
              have HTI := Lib.hid hTi
              have HM1 := Lib.hid (show j + 1 ≤ maxLen by unfold maxLen; omega)
              have HM2 := Lib.hid (show (j + 1) * 32 ≤ 140737488355328 by omega)
              have HB3 : Hid (W3.heap.size ≤ (wr.alloc (.cells #[.int .i64 kl, .slice (some ⟨Wj.heap.size, 0, none⟩) i i] 107)).heap.size) := Lib.hid (by rw [World.size_alloc]; omega)
              obtain ⟨i0, hi0, hz0, hz1, hz2⟩ := info_parts objinfo
              have HI0 := Lib.hid hi0
              have HZ0 := Lib.hid hz0
              have HZ1 := Lib.hid hz1
              have HZ22 := Lib.hid hz2
              have HZW := Lib.hid (show Wj.heap.size < wr.heap.size ∧ W3.heap.size ≤ Wj.heap.size by omega)
              clear hri hTi hBi hbo hOW kW hi0 hz0 hz1 hz2 hz4 hzT hzr3
              go_wp2_with (at_builtin; refine wpList_append_own _ rfl (.tmp 86) (.tmp 88) 103 rfl W3.heap.size 107 i0 (.agg #[.int .i64 0, .slice none 0 0]) 2 32 Tryd.underlying103 HI0.out HZ0.out HZ1.out HZ22.out rfl (by decide) _ j xs rfl (OW.out.alloc _) ⟨wr.heap.size, 0, none⟩ 1 1 [.int .i64 kl, .slice (some ⟨Wj.heap.size, 0, none⟩) i i] rfl rfl (cells_new2 _ _ _ _) (by simp [Value.oneCell']) HM1.out HM2.out HB3.out ?_; intro v5 w5 hown5 hgrow5 hnil5)
              go_roundw
              case rel =>
                have hzw := HZW.out
                have kA : ∀ z, z < Wj.heap.size → (wr.alloc (.cells #[.int .i64 kl, .slice (some ⟨Wj.heap.size, 0, none⟩) i i] 107)).heap[z]? = Wj.heap[z]? := fun z hz => (Below.heap_alloc _ _ _ (by omega)).trans (KW.out z hz)
                refine ⟨j + 1, by omega, by go_num, ?_, ?_⟩
                · exact told_next (b := Wj.heap.size) (f := fun z => if z < i then valF wd cf out kl p z else 0) HOBS.out (by rw [HOWN.out.1]) kA HOWN.out hown5 hgrow5 hzw.2 (by rw [Below.heap_alloc _ _ _ hzw.1]; exact HRI.out) (Nat.le_refl _) HX.out HOB.out (fun z hz => by rw [if_pos hz])
                · have hbA : Below W3.heap.size W3 wr := HBR.out.trans ((HTI.out.below (B := Wj.heap.size) G3.out (Nat.le_refl _) (Nat.le_refl _) (Nat.le_refl _) (by have := G4.out; omega)).mono hzw.2)
                  exact (hbA.alloc (by omega) _).grown hgrow5 (by rw [World.size_alloc]; omega) (fun z hz => (HOWN.out.lt z hz).1)
              case measure => simp [intOf]; omega
        · obtain rfl : j = k := by omega
          obtain ⟨W5, rfl⟩ : ∃ W5 : World, W5 = wr := ⟨_, rfl⟩
          have t1 : decide (j < j) = false := by simp
          have hsh := told_shape hT
          have hbc : W5.heap[bn]? = some (.cells #[.map (some mn)] 194 (0, 0)) := (hB.block bn hbw).trans HC.out
          have hMc : IntMap Tryd.prog 3 3 mn out.length (numS out out.length) W5 := HM.out.kept (hB.block mn hmn)
          have HT := Lib.hid hT
          have HB5 := Lib.hid hBW
          have HB35 := Lib.hid hB
          have HBC := Lib.hid hbc
          have HMC := Lib.hid hMc
          have HZ5 := Lib.hid hzr
          obtain ⟨i0, hi0, hz0, hz1, hz2⟩ := info_parts intinfoR
          have HI0 := Lib.hid hi0
          have HZ0 := Lib.hid hz0
          have HZ1 := Lib.hid hz1
          have HZ22 := Lib.hid hz2
          have A0 : Hid (AtRel out zs len W5 (.int .i64 0) (.slice none 0 0) W5) := Lib.hid ⟨0, Nat.zero_le _, rfl, World.ownsRow_nil _ _ _ _, Below.refl _ _⟩
          have hbn5 : bn < W5.heap.size := by omega
          have hmn5 : mn < W5.heap.size := by omega
          clear hT hB hBW hbc hMc hzr hi0 hz0 hz1 hz2
          go_wp2_with fail
          go_loopw [93, 19] (fun si sv w9 => AtRel out zs len W5 si sv w9) (fun si _ _ => len - (intOf si).toNat)
          case atStart => exact A0.out
          case round =>
            clear A0
            obtain ⟨i, hi, rfl, hown, hB⟩ := hrel
            have hsz := hB.size
            have hBW : Below w.heap.size w wr := HB5.out.trans (hB.mono HB5.out.size)
            by_cases hlt : i < len
            · obtain ⟨lb, lo, rfl, hcell⟩ := Row_at HR.out (by omega)
              have hblk : lb < w.heap.size := Row_lt HR.out (by omega) ⟨lb, lo, none⟩ rfl
              have cx : wr.cell? ⟨lb, lo + i, none⟩ = some (.int .i64 (zs.getD i 0)) := (hBW.cell (p := ⟨lb, lo + i, none⟩) hblk).trans (hcell i hlt)
              have hil : i < zs.length := by rw [HL.out]; exact hlt
              have hwf : (Lit.int .i64 (zs.getD i 0)).wf = true := HR.out.wf _ (by simp [List.getD, hil])
              have hsn := take_snocR zs i hil
              generalize zs.getD i 0 = x at *
              have t2 : decide (i < len) = true := by simpa using hlt
              have KT := Lib.hid (told_any out x wr ((hB.block bn hbn5).trans HBC.out) (HMC.out.kept (hB.block mn hmn5)) hwf)
              have HSN := Lib.hid hsn
              have HOWN := Lib.hid hown
              have HBR := Lib.hid hB
              have HLEN : Hid ((((zs.take i).map (toldF out)).map (Value.int .i64)).length = i) := Lib.hid (by simp; omega)
              have HM1 := Lib.hid (show i + 1 ≤ maxLen by unfold maxLen; omega)
              have HM2 := Lib.hid (show (i + 1) * 8 ≤ 140737488355328 by omega)
              have HB3 : Hid (W5.heap.size ≤ (wr.alloc (.cells #[.int .i64 (toldF out x)] 3)).heap.size) := Lib.hid (by rw [World.size_alloc]; omega)
              clear hcell hwf hsn hown hB hBW hsz hil
              go_wp2_with (first | (go_at_call 140; refine KT.out.mono ?_; rintro e w' ⟨rfl, rfl⟩) | (at_builtin; refine wpList_append_own _ rfl (.tmp 97) (.tmp 101) 26 rfl W5.heap.size 3 i0 (.int .i64 0) 1 8 Tryd.underlying26 HI0.out HZ0.out HZ1.out HZ22.out rfl (by decide) _ i (((zs.take i).map (toldF out)).map (Value.int .i64)) rfl (HOWN.out.alloc _) ⟨wr.heap.size, 0, none⟩ 1 1 [.int .i64 (toldF out x)] rfl rfl (cell_one_new _ _ _) (by simp [Value.oneCell']) HM1.out HM2.out HB3.out ?_; intro v5 w5 hown5 hgrow5 hnil5))
              go_roundw
              case rel =>
                refine ⟨i + 1, by omega, by go_num, ?_, ?_⟩
                · rw [HSN.out, List.map_append, List.map_append]; exact hown5
                · exact (HBR.out.alloc HBR.out.size _).grown hgrow5 HB3.out (fun z hz => (HOWN.out.lt z hz).1)
              case measure => simp [intOf]; omega
            · obtain rfl : i = len := by omega
              have t2 : decide (i < i) = false := by simp
              rw [List.take_of_length_le (by rw [HL.out]; exact Nat.le_refl _)] at hown
              obtain ⟨ra, rc, rfl⟩ := own_shape hown
              obtain ⟨sa, sc, rfl⟩ := hsh
              have hT9 := told_stays HT.out (fun z _ hz => hB.block z hz)
              have HT9 := Lib.hid hT9
              have HOWN := Lib.hid hown
              have HBF := Lib.hid hBW
              clear hT9 hown hB hBW
              go_wp2_with fail
              go_ret2
              refine ⟨_, _, j, rfl, ?_, ?_, ?_, HBF.out⟩
              · rw [HOUT.out]; exact HQ.out
              · rw [HOUT.out]; exact told_base HT9.out HBW.out.size
              · rw [HOUT.out, HL.out]; exact own_base HOWN.out HB5.out.size
end

end Go.Proofs.YtjffbojgdemooaaDoor

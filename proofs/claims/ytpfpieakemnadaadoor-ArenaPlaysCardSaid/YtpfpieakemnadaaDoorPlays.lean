/-
  The law on plays: true, whatever comes.
-/
import Derived.Test.YtpfpieakemnadaaDoorPlays1
import Derived.Deep.CutBlock
namespace Go.Proofs.YtpfpieakemnadaaDoor
open Go.RowKit

/-- What is told: five numbers each. -/
structure Dos (w : World) (a : Option Addr) (len cap : Nat) (gv : Nat → Nat → Int) : Prop where
  le : len ≤ cap
  max : cap ≤ maxLen
  nil : a = none → cap = 0
  cells : ∀ ad, a = some ad → ∀ i j, i < len → j < 5 → w.cell? (ad.add (i * 5 + j)) = some (.int .i64 (gv i j))
  wf : ∀ i j, i < len → j < 5 → (Lit.int .i64 (gv i j)).wf = true

theorem Dos_at {w : World} {a : Option Addr} {len cap : Nat} {gv : Nat → Nat → Int} (h : Dos w a len cap gv) (hp : 0 < len) :
    ∃ b off, a = some ⟨b, off, none⟩ ∧ b < w.heap.size ∧ ∀ i j, i < len → j < 5 → w.cell? ⟨b, off + (i * 5 + j), none⟩ = some (.int .i64 (gv i j)) := by
  cases a with
  | none => have h1 := h.nil rfl; have h2 := h.le; omega
  | some ad =>
    obtain ⟨b, off, s⟩ := ad
    have h0 := h.cells _ rfl 0 0 hp (by omega)
    have hs : s = none := by simpa [Addr.add] using World.cell?_spot h0
    subst hs
    have e : ∀ k, (⟨b, off, none⟩ : Addr).add k = ⟨b, off + k, none⟩ := by
      intro k
      unfold Addr.add
      split
      · rename_i h; subst h; rfl
      · rfl
    rw [e] at h0
    refine ⟨b, off, rfl, World.block_lt_of_cell? w _ h0, fun i j hi hj => ?_⟩
    have hc := h.cells _ rfl i j hi hj
    rw [e] at hc
    exact hc

def PlayRel (w : World) (b g h n len : Nat) (si : Value) (wr : World) : Prop :=
  ∃ (i : Nat) (f : Nat → Int), i ≤ len ∧ si = .int .i64 i ∧ AnF w.heap.size b g n f wr ∧ RowF h n f wr ∧ Below w.heap.size w wr ∧ h < wr.heap.size

def PlayCut (w : World) (b g h n : Nat) (wx : World) : Prop :=
  ∃ f : Nat → Int, AnF w.heap.size b g n f wx ∧ RowF h n f wx ∧ Below w.heap.size w wx ∧ h < wx.heap.size

/-- The box of what is told. -/
def DBox (nd : Nat) (K A B M V : Int) (w : World) : Prop := w.heap[nd]? = some (.cells #[.int .i64 K, .int .i64 A, .int .i64 B, .int .i64 M, .int .i64 V] 85 (0, 0))

theorem DBox.cells {nd : Nat} {K A B M V : Int} {w : World} (h : DBox nd K A B M V w) : w.cell? ⟨nd, 0, none⟩ = some (.int .i64 K) ∧ w.cell? ⟨nd, 1, none⟩ = some (.int .i64 A) ∧ w.cell? ⟨nd, 2, none⟩ = some (.int .i64 B) ∧ w.cell? ⟨nd, 3, none⟩ = some (.int .i64 M) ∧ w.cell? ⟨nd, 4, none⟩ = some (.int .i64 V) := by
  refine ⟨?_, ?_, ?_, ?_, ?_⟩ <;> (rw [cell_of_row w nd _ _ 85 (0, 0) h]; rfl)

/-- The third way's loop. -/
def Way3 (w4 : World) (h nd n X : Nat) (f : Nat → Int) (K A B M V : Int) (sk : Value) (wx : World) : Prop :=
  ∃ k : Nat, X ≤ k ∧ (k ≤ X ∨ (k : Int) ≤ B) ∧ sk = .int .i64 k ∧ RowF h n (fun j => if X ≤ j ∧ j < k then 0 else f j) wx ∧ DBox nd K A B M V wx ∧ w4.grownBy wx (some h)

theorem way3_step {w4 wx : World} {h nd n X k : Nat} {f : Nat → Int} {K A B M V : Int} (hr : RowF h n (fun j => if X ≤ j ∧ j < k then 0 else f j) wx) (hb : DBox nd K A B M V wx) (hg : w4.grownBy wx (some h)) (hX : X ≤ k) (hB : (k : Int) < B) (_ : k < n) (hne : nd ≠ h) :
    Way3 w4 h nd n X f K A B M V (.int .i64 ((k : Int) + 1)) (wx.setCell ⟨h, k, none⟩ (.int .i64 0)) := by
  refine ⟨k + 1, by omega, .inr (by omega), rfl, (hr.stored k 0).congr fun j hj => ?_, (Below.heap_setCell wx ⟨h, k, none⟩ _ nd hne).trans hb, ?_⟩
  · show (if j = k then 0 else if X ≤ j ∧ j < k then 0 else f j) = if X ≤ j ∧ j < k + 1 then 0 else f j
    by_cases e : j = k
    · rw [if_pos e, if_pos (by omega)]
    · rw [if_neg e]
      by_cases h2 : X ≤ j ∧ j < k
      · rw [if_pos h2, if_pos (by omega)]
      · rw [if_neg h2, if_neg (by omega)]
  · have k1 := grown_store wx h k (.int .i64 0)
    exact ⟨k1.os.trans hg.os, k1.tape.trans hg.tape, k1.output.trans hg.output, Nat.le_trans hg.size k1.size, fun i hi hne => (k1.block i (by have := hg.size; omega) hne).trans (hg.block i hi hne)⟩

/-- The second way: does it fit? -/
def in2B (n : Nat) (A B M : Int) : Bool := decide (0 ≤ M ∧ M ≤ n ∧ 0 ≤ A ∧ 0 ≤ B ∧ A ≤ n - M ∧ B ≤ n - M)
theorem in2_of {n : Nat} {A B M : Int} (h : in2B n A B M = true) : 0 ≤ M ∧ M ≤ n ∧ 0 ≤ A ∧ 0 ≤ B ∧ A ≤ n - M ∧ B ≤ n - M := by simpa [in2B] using h
theorem out2_of {n : Nat} {A B M : Int} (h : in2B n A B M = false) : ¬ (0 ≤ M ∧ M ≤ n ∧ 0 ≤ A ∧ A ≤ n - M ∧ 0 ≤ B ∧ B ≤ n - M) := by
  intro k
  have : in2B n A B M = true := by simp [in2B]; omega
  rw [this] at h
  cases h

def Way2 (w5 : World) (h h2 nd n x y m : Nat) (f : Nat → Int) (V : Int) (sk : Value) (wx : World) : Prop :=
  ∃ k : Nat, k ≤ m ∧ sk = .int .i64 k ∧ RowF h n (fun j => if x ≤ j ∧ j < x + k then f (y + (j - x)) else f j) wx ∧ DBox nd 2 x y m V wx ∧ RowF h2 n f wx ∧ w5.grownBy wx (some h)

theorem way2_step {w5 wx : World} {h h2 nd n x y m k : Nat} {f : Nat → Int} {V z : Int} (hr : RowF h n (fun j => if x ≤ j ∧ j < x + k then f (y + (j - x)) else f j) wx) (hb : DBox nd 2 x y m V wx) (hw : RowF h2 n f wx) (hg : w5.grownBy wx (some h))
    (hk : k < m) (hz : f (y + k) = z) (hne : nd ≠ h) (hne2 : h2 ≠ h) : Way2 w5 h h2 nd n x y m f V (.int .i64 ((k : Int) + 1)) (wx.setCell ⟨h, x + k, none⟩ (.int .i64 z)).drew := by
  refine ⟨k + 1, by omega, rfl, RowF.kept (w := wx.setCell ⟨h, x + k, none⟩ (.int .i64 z)) ((hr.stored (x + k) z).congr fun j hj => ?_) rfl, (Below.heap_setCell wx ⟨h, x + k, none⟩ _ nd hne).trans hb, hw.kept (Below.heap_setCell wx ⟨h, x + k, none⟩ _ h2 hne2), ?_⟩
  · show (if j = x + k then z else if x ≤ j ∧ j < x + k then f (y + (j - x)) else f j) = if x ≤ j ∧ j < x + (k + 1) then f (y + (j - x)) else f j
    by_cases e : j = x + k
    · rw [if_pos e, if_pos (by omega), ← hz, e, show y + (x + k - x) = y + k by omega]
    · rw [if_neg e]
      by_cases h2 : x ≤ j ∧ j < x + k
      · rw [if_pos h2, if_pos (by omega)]
      · rw [if_neg h2, if_neg (by omega)]
  · have k1 := grown_store wx h (x + k) (.int .i64 z)
    exact ⟨k1.os.trans hg.os, k1.tape.trans hg.tape, k1.output.trans hg.output, Nat.le_trans hg.size k1.size, fun i hi hne => (k1.block i (by have := hg.size; omega) hne).trans (hg.block i hi hne)⟩

theorem loadNo {B b g n : Nat} {f : Nat → Int} (I : Int) (w : World) (h : AnF B b g n f w) (h1 : ¬ (0 ≤ I ∧ I < n)) :
    Calls Tryd.prog 54 #[.pointer (some ⟨b, 0, none⟩), .int .i64 I] w fun e w' => e = .returned (.tuple #[.int .i64 0, .bool false]) ∧ w = w' := by
  obtain ⟨zs, hA, _⟩ := h
  exact load_no I w hA h1

theorem storeNo {B b g n : Nat} {f : Nat → Int} (I V : Int) (w : World) (h : AnF B b g n f w) (h1 : ¬ (0 ≤ I ∧ I < n)) :
    Calls Tryd.prog 50 #[.pointer (some ⟨b, 0, none⟩), .int .i64 I, .int .i64 V] w fun e w' => e = .returned (.bool false) ∧ w = w' := by
  obtain ⟨zs, hA, _⟩ := h
  exact store_no I V w hA h1

set_option maxHeartbeats 80000000 in
set_option maxRecDepth 100000 in
theorem plays_main (n : Nat) (a : Option Addr) (len cap : Nat) (gv : Nat → Nat → Int) (ask : Int) (w : World) (hd : Dos w a len cap gv) (hask : (Lit.int .i64 ask).wf = true) (h60 : len ≤ 60) (hn : n ≤ 200) :
    Calls Tryd.prog 12 #[.int .i64 n, .slice a len cap, .int .i64 ask] w (TruePost w) := by
  have hmax := hd.max
  have hle := hd.le
  unfold maxLen at hmax
  have hm : n ≤ maxLen := by unfold maxLen; omega
  have hbytes : 8 * n ≤ 281474976710656 := by omega
  have HM := Lib.hid hm
  have HBY := Lib.hid hbytes
  have HD := Lib.hid hd
  obtain ⟨i0, hi, hz0, hz1, hz2⟩ := info_parts i64info
  have HI := Lib.hid hi
  have HZ0 := Lib.hid hz0
  have HZ1 := Lib.hid hz1
  have HZ2 := Lib.hid hz2
  clear hi hz0 hz1 hz2 hm hbytes hd
  have d1 : decide ((60 : Int) < (len : Int)) = false := by simp; omega
  have d2 : decide ((n : Int) < 0) = false := by simp
  have d3 : decide ((65536 : Int) < (n : Int)) = false := by simp; omega
  have d4 : decide ((200 : Int) < (n : Int)) = false := by simp; omega
  go_enter Tryd.func12, Tryd.ntmps12
  go_wp2_with fail
  refine (afirst _).mono ?_
  rintro e w1 ⟨rfl, hB⟩
  go_wp2_with fail
  refine (new_yes n _ (by omega)).mono ?_
  rintro e w2 ⟨b, g, rfl, hb0, hb1, hA, hB2⟩
  have hA1 : An w.heap.size b g n (List.replicate n 0) w2 := ⟨hA.len, hA.small, hA.box, hA.row, hA.ne, Nat.le_trans hB.size hA.lo⟩
  have hA2 : AnF w.heap.size b g n (fun _ => 0) w2 := ⟨_, hA1, fun j hj => rep_get n j⟩
  have HA := Lib.hid hA1
  have HA2 := Lib.hid hA2
  have HB : Hid (Below w.heap.size w w2) := Lib.hid (hB.trans (hB2.mono hB.size))
  clear hA hB hB2 hA1 hA2
  go_wp2_with fail
  refine (len_any _ HA.out).mono ?_
  rintro e w' ⟨rfl, rfl⟩
  obtain ⟨h, hh⟩ : ∃ h, w2.heap.size = h := ⟨_, rfl⟩
  go_wp2_with (at_make; refine wpList_make_len _ rfl (.tmp 71) (.tmp 71) 83 rfl w2.heap.size 2 i0 (.int .i64 0) 8 Tryd.underlying83 HI.out HZ0.out HZ1.out HZ2.out rfl .i64 .i64 _ _ n n rfl rfl (by simp) (by simp) (Nat.le_refl _) HBY.out HM.out (Nat.le_refl _) ?_; intro w3 hown hg)
  have hrow := row_full hown
  rw [hh] at hrow
  have hbl := HA2.out.blocks
  rw [hh] at hbl
  have hlth : h < w3.heap.size := (Array.getElem?_eq_some_iff.1 hrow).1
  have hwh : w.heap.size ≤ h := by rw [← hh]; exact HB.out.size
  have hb23 : Below h w2 w3 := by rw [← hh]; exact (Below.refl _ _).grown hg (Nat.le_refl _) (fun k h => by cases h)
  have HR0 : Hid (PlayRel w b g h n len (.int .i64 ((0 : Nat) : Int)) w3) := Lib.hid ⟨0, fun _ => 0, Nat.zero_le _, rfl, HA2.out.below hb23 hbl.1 hbl.2, ⟨List.replicate n 0, by simp, by simpa using hrow, fun j hj => rep_get n j⟩, HB.out.trans (hb23.mono hwh), hlth⟩
  obtain ⟨hbh, hgh⟩ := hbl
  clear hown hg hh hrow hb23 HA HA2 HB hb0 hb1 hlth HI HZ0 HZ1 HZ2 HBY
  go_loopw [13] (fun si wr => PlayRel w b g h n len si wr) (fun si _ => len - (intOf si).toNat)
  case atStart => exact HR0.out
  case round =>
    obtain ⟨i, f, hil, rfl, hA, hR, hB, hlth⟩ := hrel
    clear HR0
    have HA := Lib.hid hA
    have HRW := Lib.hid hR
    have HB := Lib.hid hB
    clear hA hR hB
    by_cases hlt : i < len
    · have t1 : decide ((i : Int) < (len : Int)) = true := by simp; omega
      obtain ⟨lb, lo, rfl, hlb, hc⟩ := Dos_at HD.out (by omega)
      have hcell : ∀ j, j < 5 → wr.cell? ⟨lb, lo + (i * 5 + j), none⟩ = some (.int .i64 (gv i j)) := fun j hj =>
        (HB.out.cell (p := ⟨lb, lo + (i * 5 + j), none⟩) hlb).trans (hc i j hlt hj)
      have wf0 := wf_i64 (HD.out.wf i 0 hlt (by omega))
      have wf1 := wf_i64 (HD.out.wf i 1 hlt (by omega))
      have wf2 := wf_i64 (HD.out.wf i 2 hlt (by omega))
      have wf3 := wf_i64 (HD.out.wf i 3 hlt (by omega))
      have wf4 := wf_i64 (HD.out.wf i 4 hlt (by omega))
      have k0 := hcell 0 (by omega)
      have k1 := hcell 1 (by omega)
      have k2 := hcell 2 (by omega)
      have k3 := hcell 3 (by omega)
      have k4 := hcell 4 (by omega)
      clear hcell hc
      generalize gv i 0 = K at *
      generalize gv i 1 = A at *
      generalize gv i 2 = B at *
      generalize gv i 3 = M at *
      generalize gv i 4 = V at *
      rw [Nat.add_zero] at k0
      rw [← Nat.add_assoc] at k1 k2 k3 k4
      obtain ⟨wa0, wa1⟩ := wf1
      obtain ⟨wb0, wb1⟩ := wf2
      obtain ⟨wm0, wm1⟩ := wf3
      clear wf0 wf4
      go_upto_block 2 with (fail)
      have hbox : DBox wr.heap.size K A B M V (wr.alloc (Obj.cells #[.int .i64 K, .int .i64 A, .int .i64 B, .int .i64 M, .int .i64 V] 85)) := heap_alloc_new wr _
      have hbd : Below wr.heap.size wr (wr.alloc (Obj.cells #[.int .i64 K, .int .i64 A, .int .i64 B, .int .i64 M, .int .i64 V] 85)) := (Below.refl _ _).alloc (Nat.le_refl _) _
      have hsd : wr.heap.size < (wr.alloc (Obj.cells #[.int .i64 K, .int .i64 A, .int .i64 B, .int .i64 M, .int .i64 V] 85)).heap.size := by simp
      have hAd := HA.out.below hbd (by omega) (by omega)
      have hRd := HRW.out.kept (hbd.block h hlth)
      have hBd := HB.out.trans (hbd.mono HB.out.size)
      have hwn := HB.out.size
      clear hbd HA HRW HB k0 k1 k2 k3 k4
      generalize (wr.alloc (Obj.cells #[.int .i64 K, .int .i64 A, .int .i64 B, .int .i64 M, .int .i64 V] 85)) = wd at *
      generalize wr.heap.size = nd at *
      have HA := Lib.hid hAd
      have HRW := Lib.hid hRd
      have HB := Lib.hid hBd
      have HBX := Lib.hid hbox
      clear hAd hRd hBd hbox
      go_cut [15] (fun _ wx => PlayCut w b g h n wx)
      case first =>
        have hng : nd ≠ g := by omega
        have hnb : nd ≠ b := by omega
        have hnh : nd ≠ h := by omega
        have hgh' : h ≠ g := by omega
        obtain ⟨b0, b1, b2, b3, b4⟩ := HBX.out.cells
        by_cases hK1 : K = 1
        · subst hK1
          by_cases hin : 0 ≤ A ∧ A < n
          ·
            as_aux_lemma =>
              obtain ⟨x, rfl⟩ : ∃ x : Nat, A = (x : Int) := ⟨A.toNat, by omega⟩
              have hx : x < n := by omega
              have q1 : decide ((0 : Int) ≤ (x : Int)) = true := by simp
              have q2 : decide (x < n) = true := by simpa using hx
              clear hin
              go_wp2_with fail
              refine (storeI (x : Int) x V _ HA.out rfl hx).mono ?_
              rintro e w4 ⟨rfl, hA4, hg4⟩
              have hszh : h < wd.heap.size := by omega
              have hbox4 : DBox nd 1 x B M V w4 := (hg4.block nd hsd (by simpa using hng)).trans HBX.out
              have hrow4 := HRW.out.kept (hg4.block h hszh (by simpa using hgh'))
              have cz := hrow4.cell x hx
              have fz := hrow4.frozen x
              obtain ⟨y0, y1, y2, y3, y4⟩ := hbox4.cells
              have HA4 := Lib.hid hA4
              have HR4 := Lib.hid hrow4
              have HB4 : Hid (Below w.heap.size w w4) := Lib.hid (below_grown HB.out hg4 HB.out.size HA.out.lo)
              have hsz4 : h < w4.heap.size := Nat.lt_of_lt_of_le hszh hg4.size
              clear hA4 hg4 hbox4 hrow4 b0 b1 b2 b3 b4
              go_wp2_with fail
              go_meet
              exact ⟨_, HA4.out.kept (Below.heap_setCell _ ⟨h, x, none⟩ _ g (Ne.symm hgh')) (Below.heap_setCell _ ⟨h, x, none⟩ _ b (by show b ≠ h; omega)), HR4.out.stored x V, HB4.out.setCell hwh _, by simpa using hsz4⟩
          ·
            as_aux_lemma =>
              have hno : Hid (¬ (0 ≤ A ∧ A < n)) := Lib.hid hin
              by_cases q0 : 0 ≤ A
              · have q1 : decide (0 ≤ A) = true := by simp; omega
                have q2 : decide (A < (n : Int)) = false := by simp; omega
                clear hin
                go_wp2_with fail
                refine (storeNo _ _ _ HA.out hno.out).mono ?_
                rintro e w' ⟨rfl, rfl⟩
                go_wp2_with fail
                go_meet
                exact ⟨f, HA.out, HRW.out, HB.out, by omega⟩
              · have q1 : decide (0 ≤ A) = false := by simp; omega
                clear hin
                go_wp2_with fail
                refine (storeNo _ _ _ HA.out hno.out).mono ?_
                rintro e w' ⟨rfl, rfl⟩
                go_wp2_with fail
                go_meet
                exact ⟨f, HA.out, HRW.out, HB.out, by omega⟩
        · have hk1 : (K == 1) = false := by simpa using hK1
          clear hK1
          by_cases hK2 : K = 2
          ·
            subst hK2
            have hmB0 := wm0
            have hmB1 := wm1
            go_upto_region 30 with (fail)
            go_cut [16] (fun s wx => s = .bool (in2B n A B M) ∧ wd = wx)
            case first =>
              go_wp2_with fail
              all_goals
                go_meet
                refine ⟨congrArg Value.bool ?_, rfl⟩
                rw [Bool.eq_iff_iff]
                simp [in2B]
                omega
            case rest =>
              obtain ⟨rfl, rfl⟩ := hcut
              cases hin : in2B n A B M with
              | false =>
                have hno := out2_of hin
                have HNO := Lib.hid hno
                clear hno hin
                go_wp2_with fail
                refine (copy_no A B M _ HA.out wm0 wm1 HNO.out).mono ?_
                rintro e w' ⟨rfl, rfl⟩
                go_wp2_with fail
                go_meet
                exact ⟨f, HA.out, HRW.out, HB.out, by omega⟩
              | true =>
                obtain ⟨i1, i2, i3, i4, i5, i6⟩ := in2_of hin
                obtain ⟨x, rfl⟩ : ∃ x : Nat, A = (x : Int) := ⟨A.toNat, by omega⟩
                obtain ⟨y, rfl⟩ : ∃ y : Nat, B = (y : Int) := ⟨B.toNat, by omega⟩
                obtain ⟨m, rfl⟩ : ∃ m : Nat, M = (m : Int) := ⟨M.toNat, by omega⟩
                have j1 : x + m ≤ n := by omega
                have j2 : y + m ≤ n := by omega
                clear hin i1 i2 i3 i4 i5 i6
                go_wp2_with fail
                refine (copyI (x : Int) (y : Int) (m : Int) x y m _ HA.out rfl rfl rfl j1 j2).mono ?_
                rintro e w4 ⟨rfl, hA4, hg4⟩
                have hszh : h < wd.heap.size := by omega
                have hbox4 : DBox nd 2 x y m V w4 := (hg4.block nd hsd (by simpa using hng)).trans HBX.out
                have hrow4 := HRW.out.kept (hg4.block h hszh (by simpa using hgh'))
                have HBX4 := Lib.hid hbox4
                have HA4 := Lib.hid hA4
                have HR4 := Lib.hid hrow4
                have HB4 : Hid (Below w.heap.size w w4) := Lib.hid (below_grown HB.out hg4 HB.out.size HA.out.lo)
                have hsz4 : h < w4.heap.size := Nat.lt_of_lt_of_le hszh hg4.size
                have hnd4 : nd < w4.heap.size := Nat.lt_of_lt_of_le hsd hg4.size
                have hblk4 := hA4.blocks
                clear hA4 hg4 hbox4 hrow4 b0 b1 b2 b3 b4
                go_wp2_with fail
                refine (longs_any _ HR4.out (by omega) hsz4).mono ?_
                rintro e w5 ⟨h2, rfl, hlo, hwas, hb5⟩
                have HA5 := Lib.hid (HA4.out.below hb5 hblk4.1 hblk4.2)
                have hR5 := HR4.out.kept (hb5.block h hsz4)
                have HBX5 : Hid (DBox nd 2 x y m V w5) := Lib.hid ((hb5.block nd hnd4).trans HBX4.out)
                have HB5 : Hid (Below w.heap.size w w5) := Lib.hid (HB4.out.trans (hb5.mono HB4.out.size))
                have hsz5 : h < w5.heap.size := Nat.lt_of_lt_of_le hsz4 hb5.size
                have hblk5 := HA5.out.blocks
                have hne2 : h2 ≠ h := by omega
                have HR5 : Hid (Way2 w5 h h2 nd n x y m f V (.int .i64 ((0 : Nat) : Int)) w5) := Lib.hid ⟨0, Nat.zero_le _, rfl, hR5.congr fun j hj => by rw [if_neg (by omega)], HBX5.out, hwas, World.grownBy.refl _ _⟩
                clear hb5 hwas hR5 HA4 HR4 HBX4 HB4
                go_wp2_with fail
                go_loopw [18] (fun sk wx => Way2 w5 h h2 nd n x y m f V sk wx) (fun sk _ => m - (intOf sk).toNat)
                case atStart => exact HR5.out
                case round =>
                  obtain ⟨k, hkm, rfl, hr, hbx, hws, hg⟩ := hrel
                  have HRk := Lib.hid hr
                  have HBk := Lib.hid hbx
                  have HWk := Lib.hid hws
                  have HGk := Lib.hid hg
                  obtain ⟨y0, y1, y2, y3, y4⟩ := hbx.cells
                  clear hr hbx hws hg HR5
                  by_cases hlt : k < m
                  ·
                    have t3 : decide (k < m) = true := by simpa using hlt
                    have cz := HRk.out.cell (x + k) (by omega)
                    have fz := HRk.out.frozen (x + k)
                    have cw := HWk.out.cell (y + k) (by omega)
                    obtain ⟨z, hz⟩ : ∃ z, f (y + k) = z := ⟨_, rfl⟩
                    rw [hz] at cw
                    have HZ := Lib.hid hz
                    obtain ⟨z', hz'⟩ : ∃ z', (if x ≤ x + k ∧ x + k < x + k then f (y + (x + k - x)) else f (x + k)) = z' := ⟨_, rfl⟩
                    rw [hz'] at cz
                    clear hz hz'
                    have a3 : IntKind.i64.wrap ((x : Int) + (k : Int)) = (x : Int) + (k : Int) := IntWalk.i64_in _ (by omega)
                    have a4 : IntKind.i64.wrap ((y : Int) + (k : Int)) = (y : Int) + (k : Int) := IntWalk.i64_in _ (by omega)
                    have a5 : 0 ≤ (x : Int) + (k : Int) := by omega
                    have a6 : 0 ≤ (y : Int) + (k : Int) := by omega
                    have a9 : (x : Int) + (k : Int) < (n : Int) := by omega
                    have a10 : (y : Int) + (k : Int) < (n : Int) := by omega
                    have a7 : ((x : Int) + (k : Int)).toNat = x + k := by omega
                    have a8 : ((y : Int) + (k : Int)).toNat = y + k := by omega
                    go_wp2_with fail
                    have HSTEP : Hid (Way2 w5 h h2 nd n x y m f V (.int .i64 ((k : Int) + 1)) (wr.setCell ⟨h, x + k, none⟩ (.int .i64 z)).drew) := Lib.hid (way2_step HRk.out HBk.out HWk.out HGk.out hlt HZ.out hnh hne2)
                    go_region_law (fail)
                    all_goals
                      go_wp2_with fail
                      go_roundw
                      case rel => exact HSTEP.out
                      case measure => simp [intOf]; omega
                  ·
                    obtain rfl : k = m := by omega
                    have t3 : decide (k < k) = false := by simp
                    have hfin : PlayCut w b g h n wr := by
                      refine ⟨_, HA5.out.kept (HGk.out.block g hblk5.2 (by simpa using Ne.symm hgh')) (HGk.out.block b hblk5.1 (by simp; omega)), HRk.out, below_grown HB5.out HGk.out HB5.out.size hwh, Nat.lt_of_lt_of_le hsz5 HGk.out.size⟩
                    have HFIN := Lib.hid hfin
                    clear hfin
                    go_wp2_with fail
                    go_meet
                    exact HFIN.out
          ·
            as_aux_lemma =>
              have hk2 : (K == 2) = false := by simpa using hK2
              clear hK2
              obtain ⟨X, hXs, hXA⟩ : ∃ X : Nat, (A ≤ 0 ∧ X = 0 ∨ 0 < A ∧ A = (X : Int)) ∧ (∀ j : Nat, (X ≤ j ↔ A ≤ (j : Int))) := by
                by_cases hA0 : A ≤ 0
                · exact ⟨0, .inl ⟨hA0, rfl⟩, fun j => by omega⟩
                · exact ⟨A.toNat, .inr ⟨by omega, by omega⟩, fun j => by omega⟩
              have HXA := Lib.hid hXA
              clear hXA
              go_wp2_with fail
              refine (clear_any A B _ HA.out).mono ?_
              rintro e w4 ⟨rfl, hA4, hg4⟩
              have hszh : h < wd.heap.size := by omega
              have hbox4 : DBox nd K A B M V w4 := (hg4.block nd hsd (by simpa using hng)).trans HBX.out
              have hrow4 := HRW.out.kept (hg4.block h hszh (by simpa using hgh'))
              have HBX4 := Lib.hid hbox4
              have HA4 := Lib.hid hA4
              have HR4 := Lib.hid hrow4
              have HB4 : Hid (Below w.heap.size w w4) := Lib.hid (below_grown HB.out hg4 HB.out.size HA.out.lo)
              have hsz4 : h < w4.heap.size := Nat.lt_of_lt_of_le hszh hg4.size
              have hblk4 := hA4.blocks
              obtain ⟨y0, y1, y2, y3, y4⟩ := hbox4.cells
              clear hA4 hg4 hbox4 hrow4 b0 b1 b2 b3 b4
              go_upto_region 19 with (fail)
              go_cut [19] (fun s wx => s = .int .i64 (X : Int) ∧ w4 = wx)
              case first =>
                rcases hXs with ⟨hA0, rfl⟩ | ⟨hA0, rfl⟩
                · have z1 : ¬ 0 < A := by omega
                  go_wp2_with fail
                  all_goals
                    go_meet
                    exact ⟨by first | rfl | (rw [if_neg z1]; rfl) | (rw [if_pos hA0]; rfl), rfl⟩
                · go_wp2_with fail
                  all_goals
                    go_meet
                    exact ⟨by first | rfl | (rw [if_pos hA0]), rfl⟩
              case rest =>
                obtain ⟨rfl, rfl⟩ := hcut
                clear y0 y1 y2 y3 y4
                go_wp2_with fail
                go_loopw [19] (fun sk wx => Way3 w4 h nd n X f K A B M V sk wx) (fun sk _ => n - (intOf sk).toNat)
                case atStart => exact ⟨X, Nat.le_refl _, .inl (Nat.le_refl _), rfl, HR4.out.congr fun j hj => by rw [if_neg (by omega)], HBX4.out, World.grownBy.refl _ _⟩
                case round =>
                  obtain ⟨k, hXk, hkB, rfl, hr, hbx, hg⟩ := hrel
                  have HRk := Lib.hid hr
                  have HBk := Lib.hid hbx
                  have HGk := Lib.hid hg
                  obtain ⟨y0, y1, y2, y3, y4⟩ := hbx.cells
                  clear hr hbx hg
                  by_cases hlt : k < n ∧ (k : Int) < B
                  · obtain ⟨l1, l2⟩ := hlt
                    have cz := HRk.out.cell k l1
                    have fz := HRk.out.frozen k
                    have l3 : (k : Int) < (n : Int) := by omega
                    by_cases hBn : B < (n : Int)
                    · have t3 : decide ((k : Int) < B) = true := by simp; omega
                      go_wp2_with fail
                      go_roundw
                      case rel => exact way3_step HRk.out HBk.out HGk.out hXk l2 l1 hnh
                      case measure => simp [intOf]; omega
                    · have t3 : decide (k < n) = true := by simpa using l1
                      go_wp2_with fail
                      go_roundw
                      case rel => exact way3_step HRk.out HBk.out HGk.out hXk l2 l1 hnh
                      case measure => simp [intOf]; omega
                  · have hfin : PlayCut w b g h n wr := by
                      refine ⟨fun j => if A ≤ (j : Int) ∧ (j : Int) < B then 0 else f j, HA4.out.kept (HGk.out.block g hblk4.2 (by simpa using Ne.symm hgh')) (HGk.out.block b hblk4.1 (by simp; omega)), HRk.out.congr fun j hj => ?_, below_grown HB4.out HGk.out HB4.out.size hwh, Nat.lt_of_lt_of_le hsz4 HGk.out.size⟩
                      have q := HXA.out j
                      show _ = if A ≤ (j : Int) ∧ (j : Int) < B then 0 else f j
                      by_cases hj2 : X ≤ j ∧ j < k
                      · rw [if_pos hj2, if_pos (by omega)]
                      · rw [if_neg hj2, if_neg (by omega)]
                    have HFIN := Lib.hid hfin
                    clear hfin
                    by_cases hBn : B < (n : Int)
                    · have t3 : decide ((k : Int) < B) = false := by simp; omega
                      go_wp2_with fail
                      go_meet
                      exact HFIN.out
                    · have t3 : decide (k < n) = false := by simp; omega
                      go_wp2_with fail
                      go_meet
                      exact HFIN.out
      case rest =>
        clear HA HRW HB HBX
        obtain ⟨f', hA, hR, hB, hlt'⟩ := hcut
        have HA := Lib.hid hA
        have HRW := Lib.hid hR
        have HB := Lib.hid hB
        clear hA hR hB
        by_cases hin : 0 ≤ ask ∧ ask < n
        ·
          as_aux_lemma =>
            obtain ⟨z, rfl⟩ : ∃ z : Nat, ask = (z : Int) := ⟨ask.toNat, by omega⟩
            have hz : z < n := by omega
            have q1 : decide ((0 : Int) ≤ (z : Int)) = true := by simp
            have q2 : decide (z < n) = true := by simpa using hz
            obtain ⟨y, hy⟩ : ∃ y, f' z = y := ⟨_, rfl⟩
            have cz := HRW.out.cell z hz
            rw [hy] at cz
            have HY := Lib.hid hy
            clear hy hin
            go_wp2_with fail
            refine (loadI (z : Int) z y _ HA.out rfl hz HY.out).mono ?_
            rintro e w' ⟨rfl, rfl⟩
            go_wp2_with fail
            go_roundw
            case rel => exact ⟨i + 1, f', by omega, by go_num, HA.out, HRW.out, HB.out, hlt'⟩
            case measure => simp [intOf]; omega
        ·
          as_aux_lemma =>
            have hno : Hid (¬ (0 ≤ ask ∧ ask < n)) := Lib.hid hin
            by_cases q0 : 0 ≤ ask
            · have q1 : decide (0 ≤ ask) = true := by simp; omega
              have q2 : decide (ask < (n : Int)) = false := by simp; omega
              clear hin
              go_wp2_with fail
              refine (loadNo _ _ HA.out hno.out).mono ?_
              rintro e w' ⟨rfl, rfl⟩
              go_wp2_with fail
              go_roundw
              case rel => exact ⟨i + 1, f', by omega, by go_num, HA.out, HRW.out, HB.out, hlt'⟩
              case measure => simp [intOf]; omega
            · have q1 : decide (0 ≤ ask) = false := by simp; omega
              clear hin
              go_wp2_with fail
              refine (loadNo _ _ HA.out hno.out).mono ?_
              rintro e w' ⟨rfl, rfl⟩
              go_wp2_with fail
              go_roundw
              case rel => exact ⟨i + 1, f', by omega, by go_num, HA.out, HRW.out, HB.out, hlt'⟩
              case measure => simp [intOf]; omega
    ·
      as_aux_lemma =>
        obtain rfl : i = len := by omega
        have t1 : decide ((i : Int) < (i : Int)) = false := by simp
        clear hlt hil
        go_wp2_with fail
        go_loop [23] (fun si => ∃ k : Nat, k ≤ n ∧ si = .int .i64 k) (fun si => n - (intOf si).toNat)
        case atStart => exact ⟨0, Nat.zero_le _, rfl⟩
        case round =>
          obtain ⟨k, hk, rfl⟩ := hrel
          by_cases hlt : k < n
          · have t2 : decide ((k : Int) < (n : Int)) = true := by simp; omega
            obtain ⟨y, hy⟩ : ∃ y, f k = y := ⟨_, rfl⟩
            have cz := HRW.out.cell k hlt
            rw [hy] at cz
            have HY := Lib.hid hy
            clear hy
            go_wp2_with fail
            refine (loadI (k : Int) k y _ HA.out rfl hlt HY.out).mono ?_
            rintro e w' ⟨rfl, rfl⟩
            go_wp2_with fail
            go_round
            case rel => exact ⟨k + 1, by omega, by go_num⟩
            case measure => simp [intOf]; omega
          · obtain rfl : k = n := by omega
            have t2 : decide ((k : Int) < (k : Int)) = false := by simp
            clear hlt hk
            go_wp2_with fail
            go_ret
            exact ⟨rfl, HB.out⟩

end Go.Proofs.YtpfpieakemnadaaDoor

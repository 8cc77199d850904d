/-
  HeapKinds: the law's walk. (Written by genknd.py.)
-/
import Derived.Test.YtjffbojgdemooaaDoorRfC
import Derived.Test.YtjffbojgdemooaaDoorHFst2
import Derived.Test.YtjffbojgdemooaaDoorHpG
import Derived.Test.YtjffbojgdemooaaDoorFilK
import Derived.Test.YtjffbojgdemooaaDoorAppK
namespace Go.Proofs.YtjffbojgdemooaaDoor
open Go.RowKit

/-- The program without its classes, in its box. -/
def progK (w : World) : World :=
  ((w.alloc (.cells #[.int .i64 33, .int .i64 0, .int .i64 0, .int .i64 0] 67)).alloc (.cells #[.string ⟨#[]⟩, .string ⟨#[]⟩, .string ⟨#[]⟩, .slice (some ⟨w.heap.size, 0, none⟩) 1 1] 62)).alloc (.cells #[.slice none 0 0, .slice (some ⟨w.heap.size + 1, 0, none⟩) 1 1] 46)
theorem progK_below (w : World) : Below w.heap.size w (progK w) := (((Below.refl _ _).alloc (Nat.le_refl _) _).alloc (by simp) _).alloc (by simp; omega) _
theorem progK_size (w : World) : (progK w).heap.size = w.heap.size + 1 + 1 + 1 := by simp [progK]
theorem progK_heap (w : World) : (progK w).heap[w.heap.size]? = some (.cells #[.int .i64 33, .int .i64 0, .int .i64 0, .int .i64 0] 67 (0, 0)) ∧ (progK w).heap[w.heap.size + 1]? = some (.cells #[.string ⟨#[]⟩, .string ⟨#[]⟩, .string ⟨#[]⟩, .slice (some ⟨w.heap.size, 0, none⟩) 1 1] 62 (0, 0)) ∧ (progK w).heap[w.heap.size + 1 + 1]? = some (.cells #[.slice none 0 0, .slice (some ⟨w.heap.size + 1, 0, none⟩) 1 1] 46 (0, 0)) := by
  unfold progK
  refine ⟨?_, ?_, ?_⟩
  · rw [Below.heap_alloc _ _ _ (by simp; omega), Below.heap_alloc _ _ _ (by simp)]
    exact heap_alloc_new w _
  · rw [Below.heap_alloc _ _ _ (by simp)]
    have := heap_alloc_new (w.alloc (.cells #[.int .i64 33, .int .i64 0, .int .i64 0, .int .i64 0] 67)) (.cells #[.string ⟨#[]⟩, .string ⟨#[]⟩, .string ⟨#[]⟩, .slice (some ⟨w.heap.size, 0, none⟩) 1 1] 62)
    simpa using this
  · have := heap_alloc_new ((w.alloc (.cells #[.int .i64 33, .int .i64 0, .int .i64 0, .int .i64 0] 67)).alloc (.cells #[.string ⟨#[]⟩, .string ⟨#[]⟩, .string ⟨#[]⟩, .slice (some ⟨w.heap.size, 0, none⟩) 1 1] 62)) (.cells #[.slice none 0 0, .slice (some ⟨w.heap.size + 1, 0, none⟩) 1 1] 46)
    simpa using this

def KdRel (x0 : World) (pb mb : Nat) (f : Nat → ByteArray) (N : Nat) (si : Value) (wr : World) : Prop :=
  ∃ (j : Nat) (a : Option Addr) (cp : Nat), j ≤ N ∧ si = .int .i64 j ∧ wr.heap[pb]? = some (.cells #[.slice a j cp, .slice (some ⟨mb, 0, none⟩) 1 1] 46 (0, 0)) ∧
    wr.ownsRow x0.heap.size 90 1 (.slice a j cp) j (flatC f j) ∧ x0.grownBy wr (some pb)

theorem flatC_next (f : Nat → ByteArray) (j : Nat) : flatC f (j + 1) = flatC f j ++ [.string (f j)] := by simp [flatC, List.range_succ]

def retM (ib : Nat) : Meth := ⟨⟨#[]⟩, ⟨#[]⟩, ⟨#[]⟩, some ⟨ib, 0, none⟩, 1, 1, fun _ j => if j = 0 then 33 else 0⟩

theorem kd_prg {x0 wr : World} {pb mb ib len cp : Nat} {a : Option Addr} {f : Nat → ByteArray} (hi : x0.heap[ib]? = some (.cells #[.int .i64 33, .int .i64 0, .int .i64 0, .int .i64 0] 67 (0, 0))) (hm : x0.heap[mb]? = some (.cells #[.string ⟨#[]⟩, .string ⟨#[]⟩, .string ⟨#[]⟩, .slice (some ⟨ib, 0, none⟩) 1 1] 62 (0, 0)))
    (hne1 : ib ≠ pb) (hne2 : mb ≠ pb) (hown : wr.ownsRow x0.heap.size 90 1 (.slice a len cp) len (flatC f len)) (hg : x0.grownBy wr (some pb)) : Prg wr a len cp f (some ⟨mb, 0, none⟩) 1 1 (fun _ => retM ib) := by
  obtain ⟨cp', cc', e, hc, _⟩ := ownC_of hown
  cases e
  have hi2 := (hg.block ib (Array.getElem?_eq_some_iff.1 hi).1 (by simp; exact hne1)).trans hi
  have hm2 := (hg.block mb (Array.getElem?_eq_some_iff.1 hm).1 (by simp; exact hne2)).trans hm
  refine ⟨hc, Nat.le_refl _, by unfold maxLen; omega, fun h => (by cases h), fun ad had i hi => ?_, fun i hi => ?_⟩
  · cases had
    obtain rfl : i = 0 := by omega
    rw [add_zeroC, add_zeroC, add_zeroC, add_zeroC]
    exact ⟨(cell_of_row wr mb 0 _ _ (0, 0) hm2).trans rfl, (cell_of_row wr mb 1 _ _ (0, 0) hm2).trans rfl, (cell_of_row wr mb 2 _ _ (0, 0) hm2).trans rfl, (cell_of_row wr mb 3 _ _ (0, 0) hm2).trans rfl⟩
  · refine ⟨Nat.le_refl _, by show 1 ≤ maxLen; unfold maxLen; omega, fun h => (by cases h), fun ad had i j hi hj => ?_⟩
    cases had
    obtain rfl : i = 0 := by
      have : i < 1 := hi
      omega
    rw [add_zeroC, cell_of_row wr ib _ _ _ (0, 0) hi2]
    match j, hj with
    | 0, _ => rfl
    | 1, _ => rfl
    | 2, _ => rfl
    | 3, _ => rfl

theorem kd_good {nc nm : Nat} {f : Nat → ByteArray} {ms : Nat → Meth} (h : verdict nc nm f ms = none) : ∀ i, i < nc → fairB (f i) = true ∧ (f i).size ≤ 10 := by
  intro i hi
  have hg : goodC nc f = nc := by
    have h1 := goodC_le (nc := nc) (f := f)
    rcases Nat.lt_or_ge (goodC nc f) nc with h2 | h2
    · unfold verdict progW at h
      rw [if_pos h2] at h
      cases h
    · omega
  have h0 := goodC_ok (nc := nc) (f := f) (i := i) (by omega)
  unfold clsC at h0
  split at h0
  · cases h0
  · split at h0
    · exact ⟨by assumption, by omega⟩
    · cases h0

theorem obj_kind {n p m cl : Nat} {kl : Int} {wd : Nat → Int} {bd : Nat → Bool} {cf : Nat → ByteArray} (hfit : p + 2 + m ≤ n) (h0 : -2 ≤ kl) (h1 : kl < 12) (hc : ∀ c : Nat, kl = c → c < cl ∧ m = (cf c).size) : Obj1 n (laidW wd kl p m) (laidB bd p) cl cf p kl m where
  lt := by omega
  beg := by unfold laidB; rw [if_pos rfl]
  head := by unfold laidW; rw [if_pos rfl]
  fit := hfit
  lo := h0
  hi := h1
  cls := hc

theorem laid_zero {wd : Nat → Int} {kl : Int} {p m i : Nat} (hi : i < m) : laidW wd kl p m (p + 2 + i) = 0 := by
  unfold laidW
  rw [if_neg (by omega), if_pos (by omega)]

theorem new_kinds (ca : Option Addr) (nc cc : Nat) (ma : Option Addr) (nm mc : Nat) (cf : Nat → ByteArray) (w : World) (hc : Cls w ca nc cc cf) (hnc : nc ≤ 1000) :
    Calls Tryd.prog 69 #[.agg #[.slice ca nc cc, .slice ma nm mc], .int .i64 2000, .int .i64 1000] w fun e w' => ∃ hb ab gb bg cp cx, e = .returned (.tuple #[.pointer (some ⟨hb, 0, none⟩), .nilIface]) ∧
      Hp w.heap.size hb ab gb bg cp nc cx cf 2000 1000 ((0 : Nat) : Int) 1000 1500 1500 2000 1500 (fun _ => 0) (fun _ => false) (.slice none 0 0) w' ∧ Below w.heap.size w w' :=
  new_heap ca nc cc ma nm mc cf 2000 1000 w hc hnc (by decide) (by decide)

def KnRel (B hb ab gb bg : Nat) (cp : Option Addr) (cx len : Nat) (f : Nat → ByteArray) (w : World) (si : Value) (wr : World) : Prop :=
  ∃ q p : Nat, q ≤ len + 2 ∧ si = .int .i64 ((q : Int) - 2) ∧ p ≤ 33 * q ∧ (∃ wd bd, Hp B hb ab gb bg cp len cx f 2000 1000 (p : Int) 1000 1500 1500 2000 1500 wd bd (.slice none 0 0) wr) ∧ Below w.heap.size w wr

theorem kn_next {B hb ab gb bg len cx q p m : Nat} {cp : Option Addr} {f : Nat → ByteArray} {w wr w5 : World} {wd : Nat → Int} {bd : Nat → Bool} (hq : q < len + 2) (hp : p ≤ 33 * q) (hm : m ≤ 31)
    (h : Hp B hb ab gb bg cp len cx f 2000 1000 ((p : Int) + (m + 2)) 1000 1500 1500 2000 1500 wd bd (.slice none 0 0) w5) (hB : Below w.heap.size w wr) (ht : Tri hb gb bg wr w5) (lo : w.heap.size ≤ hb ∧ w.heap.size ≤ gb ∧ w.heap.size ≤ bg) : KnRel B hb ab gb bg cp cx len f w (.int .i64 ((q : Int) - 2 + 1)) w5 := by
  refine ⟨q + 1, p + (m + 2), by omega, by rw [show ((q + 1 : Nat) : Int) - 2 = (q : Int) - 2 + 1 by omega], by omega, ⟨wd, bd, ?_⟩, ht.below hB lo.1 lo.2.1 lo.2.2 hB.size⟩
  rw [show ((p + (m + 2) : Nat) : Int) = (p : Int) + (m + 2) by omega]
  exact h

set_option maxHeartbeats 16000000 in
set_option maxRecDepth 100000 in
theorem kinds_walk (ca : Option Addr) (len cc : Nat) (f : Nat → ByteArray) (x1 x2 : Int) (n : Nat) (w : World) (hC : Cls w ca len cc f) (hl : len ≤ 10) (hsz : ∀ i, i < len → (f i).size ≤ maxLen) (en : bits BinOp.and IntKind.i64 x1 31 = (n : Int)) (hn : n < 32) :
    Calls Tryd.prog 10 #[.slice ca len cc, .int .i64 x1, .int .i64 x2] w (TruePost w) := by
  have HC := Lib.hid hC
  have HSZ := Lib.hid hsz
  have HEN := Lib.hid en
  have tl : decide (10 < (len : Int)) = false := by simp; omega
  have tl' : decide (10 < len) = false := by simp; omega
  clear hC hsz en
  go_enter Tryd.func10, Tryd.ntmps10
  go_wp2_with fail
  refine (hfirst _).mono ?_
  rintro e w1 ⟨rfl, hB1⟩
  have B1 := Lib.hid hB1
  clear hB1
  go_wp2_with fail
  obtain ⟨hp1, hp2, hp3⟩ := progK_heap w1
  have hps := progK_size w1
  have hB0 := B1.out.trans ((progK_below w1).mono B1.out.size)
  have F0 : Hid (KdRel (progK w1) (w1.heap.size + 1 + 1) (w1.heap.size + 1) f len (.int .i64 ((0 : Nat) : Int)) (progK w1)) := Lib.hid ⟨0, none, 0, Nat.zero_le _, rfl, hp3, World.ownsRow_nil _ _ _ _, World.grownBy.refl _ _⟩
  have HP1 := Lib.hid hp1
  have HP2 := Lib.hid hp2
  have HPS := Lib.hid hps
  have HB0 : Hid (Below w.heap.size w (progK w1)) := Lib.hid hB0
  have HLW : Hid (w.heap.size ≤ w1.heap.size) := Lib.hid B1.out.size
  clear hp1 hp2 hp3 hps hB0 B1
  obtain ⟨x0, hx0⟩ : ∃ x0, progK w1 = x0 := ⟨_, rfl⟩
  rw [hx0] at F0 HP1 HP2 HPS HB0
  unfold progK at hx0
  rw [hx0]
  clear hx0
  obtain ⟨ib, hib⟩ : ∃ ib, w1.heap.size = ib := ⟨_, rfl⟩
  rw [hib] at F0 HP1 HP2 HPS HLW
  rw [hib]
  clear hib
  obtain ⟨i0, hi0, hz0, hz1, hz2⟩ := info_parts clsinfo
  have HI := Lib.hid hi0
  have HZ0 := Lib.hid hz0
  have HZ1 := Lib.hid hz1
  have HZ2 := Lib.hid hz2
  clear hi0 hz0 hz1 hz2
  go_loopw [9] (fun si wr => KdRel x0 (ib + 1 + 1) (ib + 1) f len si wr) (fun si _ => len - (intOf si).toNat)
  case atStart => exact F0.out
  case round =>
    clear F0
    obtain ⟨j, a, cp, hj, rfl, hrow, hown, hg⟩ := hrel
    obtain ⟨pb, hpb⟩ : ∃ pb, ib + 1 + 1 = pb := ⟨_, rfl⟩
    rw [hpb] at hrow hg
    rw [hpb]
    have HPBX : Hid (pb < x0.heap.size ∧ ib < pb ∧ pb = ib + 1 + 1) := Lib.hid (by have := HPS.out; omega)
    have p0 : wr.cell? ⟨pb, 0, none⟩ = some (.slice a j cp) := (cell_of_row wr pb 0 _ _ (0, 0) hrow).trans rfl
    have p1 : wr.cell? ⟨pb, 1, none⟩ = some (.slice (some ⟨ib + 1, 0, none⟩) 1 1) := (cell_of_row wr pb 1 _ _ (0, 0) hrow).trans rfl
    have q0 : wr.frozen? ⟨pb, 0, none⟩ = false := frozen_of_row wr pb 0 _ _ hrow
    by_cases hlt : j < len
    · have tj : decide (j < len) = true := by simpa using hlt
      obtain ⟨lb, lo, rfl, hlb, hcl⟩ := Cls_at HC.out (by omega)
      have hlx : lb < x0.heap.size := Nat.lt_of_lt_of_le hlb HB0.out.size
      have hlne : lb ≠ pb := by have := HLW.out; have := HPBX.out; omega
      have hc0 : wr.cell? ⟨lb, lo + j, none⟩ = some (.string (f j)) := (World.cell?_of_block (w := x0) (a := ⟨lb, lo + j, none⟩) (hg.block lb hlx (by simp; exact hlne))).trans ((HB0.out.cell (p := ⟨lb, lo + j, none⟩) hlb).trans (hcl j hlt))
      have HNX := Lib.hid (flatC_next f j)
      have HLN := Lib.hid (flatC_len f j)
      clear hcl
      generalize f j = s at *
      have halw : Below wr.heap.size wr (wr.alloc (.cells #[.string s] 90)) := (Below.refl _ _).alloc (Nat.le_refl _) _
      have p8 := (halw.cell (p := ⟨pb, 0, none⟩) (Array.getElem?_eq_some_iff.1 hrow).1).trans p0
      have q8 := (halw.frozen (p := ⟨pb, 0, none⟩) (Array.getElem?_eq_some_iff.1 hrow).1).trans q0
      have n8 : wr.heap.size ≠ pb := by have := (Array.getElem?_eq_some_iff.1 hrow).1; omega
      have HRW : Hid (∀ w5, (wr.drew.alloc (.cells #[.string s] 90)).grownBy w5 (Value.slice a j cp).ownBlock → w5.heap[pb]? = wr.heap[pb]? ∧ x0.grownBy w5 (some pb)) := Lib.hid fun w5 h5 => by
        have hal := World.grownBy_alloc wr.drew (.cells #[.string s] 90) none
        have hd : x0.grownBy wr.drew (some pb) := ⟨hg.os, hg.tape, hg.output, hg.size, hg.block⟩
        have key : ∀ b, b < x0.heap.size → w5.heap[b]? = wr.heap[b]? := fun b hb => by
          have hb2 : b < wr.drew.heap.size := Nat.lt_of_lt_of_le hb hg.size
          rw [h5.block b (Nat.lt_of_lt_of_le hb2 hal.size) (fun e => by have := (hown.lt b e.symm).1; omega), hal.block b hb2 (by simp)]
          rfl
        refine ⟨key pb HPBX.out.1, h5.os.trans (hal.os.trans hd.os), h5.tape.trans (hal.tape.trans hd.tape), h5.output.trans (hal.output.trans hd.output), Nat.le_trans hd.size (Nat.le_trans hal.size h5.size), fun b hb hne => ?_⟩
        rw [key b hb]
        exact hg.block b hb hne
      have HO4 := Lib.hid (hown.drew.alloc (.cells #[.string s] 90))
      have HNW : Hid (∀ i u, ([.string s] : List Value)[i]? = some u → (wr.drew.alloc (.cells #[.string s] 90)).cell? ((⟨wr.heap.size, 0, none⟩ : Addr).add i) = some u) := Lib.hid fun i u hu => by
        rw [add_zeroC, cell_of_row _ wr.heap.size i _ 90 (0, 0) (heap_alloc_new wr.drew _)]
        simpa using hu
      have hoc : Hid (∀ u ∈ ([.string s] : List Value), u.oneCell' = true) := Lib.hid (by simp [Value.oneCell'])
      have hn1 : Hid (j + 1 ≤ maxLen) := Lib.hid (by unfold maxLen; omega)
      have hn2 : Hid ((j + 1) * 16 ≤ 140737488355328) := Lib.hid (by omega)
      have hsz : Hid (x0.heap.size ≤ (wr.drew.alloc (.cells #[.string s] 90)).heap.size) := Lib.hid (by have := hg.size; simp; omega)
      have HROW := Lib.hid hrow
      clear halw hrow hown hg hlx
      obtain ⟨xs, hxs⟩ : ∃ xs, flatC f j = xs := ⟨_, rfl⟩
      rw [hxs] at HO4 HNX
      clear hxs
      go_wp2_with fail
      go_region_law (refine step_append_own1 rfl (.tmp 44) (.tmp 50) 43 rfl x0.heap.size 90 i0 (.agg #[.string ⟨#[]⟩]) 1 16 Tryd.underlying43 HI.out HZ0.out HZ1.out HZ2.out rfl (by decide) (.slice a j cp) j xs (by simp [Act.eval]) HO4.out ⟨wr.heap.size, 0, none⟩ 1 1 [.string s] (by simp [Act.eval]) rfl HNW.out hoc.out hn1.out hn2.out hsz.out ?_; intro v5 w5 hown5 hgrow5; obtain ⟨hr5, hg5⟩ := HRW.out w5 hgrow5; have HR5 := Lib.hid (hr5.trans HROW.out); have HG5 := Lib.hid hg5; have d0 := (cell_of_row w5 pb 0 _ _ (0, 0) HR5.out).trans rfl; have e0 := frozen_of_row w5 pb 0 _ _ HR5.out; obtain ⟨va, vc, rfl⟩ := own_shape1 hown5; have HW5 := Lib.hid hown5; clear hr5 hg5 hgrow5 hown5)
      all_goals
        go_wp2_with fail
        go_roundw
        case rel => exact ⟨j + 1, va, vc, by omega, by go_num, (heap_setCell_same w5 pb 0 _ _ _ HR5.out).trans rfl, by rw [HNX.out]; exact HW5.out.kept (grown_setCell1 w5 ⟨pb, 0, none⟩ _) (.inr (fun e => by have := (HW5.out.lt pb e).1; have := HPBX.out; omega)), grown_trans1 HG5.out (grown_setCell1 w5 ⟨pb, 0, none⟩ _)⟩
        case measure => simp [intOf]; omega
    · obtain rfl : j = len := by omega
      have tj : decide (j < j) = false := by simp
      have hpx := HPBX.out
      have hprg := kd_prg HP1.out HP2.out (by omega) (by omega) hown hg
      have hSm : Sml j f 1 (fun _ => retM ib) := ⟨HSZ.out, fun _ _ => by show (⟨#[]⟩ : ByteArray).size ≤ 1000; decide, fun _ _ => by show (⟨#[]⟩ : ByteArray).size ≤ 1000; decide, fun _ _ => by show (⟨#[]⟩ : ByteArray).size ≤ 1000; decide, fun _ _ => by show 1 ≤ 1000; decide⟩
      have KM := Lib.hid (rMay_any a j cp f (some ⟨ib + 1, 0, none⟩) 1 1 (fun _ => retM ib) wr (by omega) (by decide) (by decide) hprg hSm)
      have hBW : Below w.heap.size w wr := ⟨hg.os.trans HB0.out.os, hg.tape.trans HB0.out.tape, hg.output.trans HB0.out.output, Nat.le_trans HB0.out.size hg.size, fun k hk => (hg.block k (Nat.lt_of_lt_of_le hk HB0.out.size) (fun e => by have e2 := Option.some.inj e; have := HLW.out; omega)).trans (HB0.out.block k hk)⟩
      have HBW := Lib.hid hBW
      have HCL := Lib.hid hprg.cls
      have hpw : pb < wr.heap.size := (Array.getElem?_eq_some_iff.1 hrow).1
      have PBK : Hid (∀ w', Below wr.heap.size wr w' → w'.cell? ⟨pb, 0, none⟩ = some (.slice a j cp) ∧ w'.cell? ⟨pb, 1, none⟩ = some (.slice (some ⟨ib + 1, 0, none⟩) 1 1)) := Lib.hid fun w' hb => ⟨(hb.cell (p := ⟨pb, 0, none⟩) hpw).trans p0, (hb.cell (p := ⟨pb, 1, none⟩) hpw).trans p1⟩
      clear hrow hown hg hpx hprg hSm hBW hpw q0
      go_wp2_with fail
      refine KM.out.mono ?_
      rintro e w2 ⟨hb2, hv⟩
      have HB2 : Hid (Below w.heap.size w w2) := Lib.hid (HBW.out.trans (hb2.mono HBW.out.size))
      obtain ⟨p0', p1'⟩ := PBK.out w2 hb2
      have HC2 := Lib.hid (HCL.out.below hb2)
      clear p0 p1 hb2 KM HBW HCL PBK
      cases hvd : verdict j 1 f (fun _ => retM ib) with
      | some x =>
        obtain ⟨c, m, pc⟩ := x
        rw [hvd] at hv
        obtain ⟨g, rfl, _, _⟩ := hv
        have tc : (((101 + c : Nat) : Int) != 0) = true := by simp; omega
        generalize ((101 + c : Nat) : Int) = C at *
        clear hvd
        have EF := Lib.hid (show (Instr.field 53 (.agg #[.int .i64 C, .slice (some ⟨g, 0, none⟩) 2 2]) 0).run Tryd.prog w2 = .ok (.int .i64 C) w2 from by kernel_rfl)
        go_wp2_with (rw [EF.out])
        go_ret
        exact ⟨rfl, HB2.out⟩
      | none =>
        rw [hvd] at hv
        obtain rfl := hv
        have HGD := Lib.hid (kd_good hvd)
        have KN := Lib.hid (new_kinds a j cp (some ⟨ib + 1, 0, none⟩) 1 1 f w2 HC2.out (by omega))
        have EF := Lib.hid (show (Instr.field 53 (.agg #[.int .i64 0, .slice none 0 0]) 0).run Tryd.prog w2 = .ok (.int .i64 0) w2 from by kernel_rfl)
        clear hvd
        go_wp2_with (rw [EF.out])
        refine KN.out.mono ?_
        rintro e w3 ⟨hb, ab, gb, bg, cp', cx, rfl, h3, hb3⟩
        have HB3 : Hid (Below w.heap.size w w3) := Lib.hid (HB2.out.trans (hb3.mono HB2.out.size))
        have LO : Hid (w.heap.size ≤ hb ∧ w.heap.size ≤ gb ∧ w.heap.size ≤ bg) := Lib.hid (by have h7 := h3.lo; have h8 := h3.glo; have h9 := HB2.out.size; omega)
        have R3 : Hid (KnRel w2.heap.size hb ab gb bg cp' cx j f w (.int .i64 (-2)) w3) := Lib.hid ⟨0, 0, by omega, rfl, Nat.le_refl _, ⟨_, _, h3⟩, HB3.out⟩
        clear h3 hb3 p0' p1' KN EF HB2 HC2
        have en := HEN.out
        go_wp2_with fail
        clear en
        go_loopw [12] (fun si wr => KnRel w2.heap.size hb ab gb bg cp' cx j f w si wr) (fun si _ => ((j : Int) - intOf si).toNat)
        case atStart => exact R3.out
        case round =>
          clear R3
          obtain ⟨q, p, hq, rfl, hp, ⟨wd, bd, hH⟩, hB⟩ := hrel
          by_cases hlt : q < j + 2
          · rcases (show q = 0 ∨ q = 1 ∨ ∃ k, q = k + 2 from by
              rcases q with _ | _ | k
              · exact .inl rfl
              · exact .inr (.inl rfl)
              · exact .inr (.inr ⟨k, rfl⟩)) with rfl | rfl | ⟨k, rfl⟩
            · rw [show (((0 : Nat) : Int) - 2) = -2 from rfl]
              have tq : decide ((-2 : Int) < (j : Int)) = true := by simp; omega
              have hkd : Kind j f (-2) n n := .inr ⟨.inr rfl, rfl, by omega⟩
              have hcls : ∀ c : Nat, (-2 : Int) = c → c < j ∧ n = (f c).size := fun c hc => by omega
              have KY := Lib.hid (young_yes (-2) n n p wr hH hkd (by omega) (by omega) (by omega))
              have hobj : ∀ wd bd, Obj1 2000 (laidW wd (-2) p n) (laidB bd p) j f p (-2) n := fun wd bd => obj_kind (by omega) (by omega) (by omega) hcls
              have HOB := Lib.hid hobj
              have HBW := Lib.hid hB
              clear hH hB hobj hkd hcls
              go_wp2_with fail
              refine KY.out.mono ?_
              rintro e w5 ⟨rfl, h5, t5⟩
              have hB5 := t5.below HBW.out LO.out.1 LO.out.2.1 LO.out.2.2 HBW.out.size
              have HNX := Lib.hid (kn_next (q := 0) (by omega) hp (by omega) h5 HBW.out t5 LO.out)
              have KI := Lib.hid (is_yes p (-2) n w5 h5 (HOB.out _ _))
              clear hB5 KY
              by_cases hi0 : x2 < 0
              · have ti : decide (0 ≤ x2) = false := by simp; omega
                have hno : ∃ (p' : Nat) (kl' : Int) (m' : Nat), ((p : Int) + 1) = (p' : Int) + 1 ∧ Obj1 2000 (laidW wd (-2) p n) (laidB bd p) j f p' kl' m' ∧ (x2 < 0 ∨ (m' : Int) ≤ x2) := ⟨p, (-2), n, rfl, HOB.out _ _, .inl hi0⟩
                have KG := Lib.hid (get_no _ x2 w5 h5 (.inr hno))
                have KR := Lib.hid (ref_no _ x2 w5 h5 (.inr hno))
                clear h5 t5 hno
                go_wp2_with (first | (go_at_call 71; refine KI.out.mono ?_; rintro e w' ⟨rfl, rfl⟩) | (go_at_call 72; refine KG.out.mono ?_; rintro e w' ⟨rfl, rfl⟩) | (go_at_call 73; refine KR.out.mono ?_; rintro e w' ⟨rfl, rfl⟩))
                go_roundw
                case rel => exact HNX.out
                case measure => first | (simp [intOf]; done) | (simp [intOf]; omega)
              · by_cases hi1 : (n : Int) ≤ x2
                · have ti : decide (0 ≤ x2) = true := by simp; omega
                  have tj2 : decide (x2 < (n : Int)) = false := by simp; omega
                  have hno : ∃ (p' : Nat) (kl' : Int) (m' : Nat), ((p : Int) + 1) = (p' : Int) + 1 ∧ Obj1 2000 (laidW wd (-2) p n) (laidB bd p) j f p' kl' m' ∧ (x2 < 0 ∨ (m' : Int) ≤ x2) := ⟨p, (-2), n, rfl, HOB.out _ _, .inr hi1⟩
                  have KG := Lib.hid (get_no _ x2 w5 h5 (.inr hno))
                  have KR := Lib.hid (ref_no _ x2 w5 h5 (.inr hno))
                  clear h5 t5 hno
                  go_wp2_with (first | (go_at_call 71; refine KI.out.mono ?_; rintro e w' ⟨rfl, rfl⟩) | (go_at_call 72; refine KG.out.mono ?_; rintro e w' ⟨rfl, rfl⟩) | (go_at_call 73; refine KR.out.mono ?_; rintro e w' ⟨rfl, rfl⟩))
                  go_roundw
                  case rel => exact HNX.out
                  case measure => first | (simp [intOf]; done) | (simp [intOf]; omega)
                · obtain ⟨i, rfl⟩ : ∃ i : Nat, x2 = i := ⟨x2.toNat, by omega⟩
                  have hi : i < n := by omega
                  have ti : decide (0 ≤ (i : Int)) = true := by simp
                  have tj2 : decide (i < n) = true := by simpa using hi
                  have tj3 : decide ((i : Int) < (n : Int)) = true := by simp; omega
                  have KG0 := get_yes p (-2) n i w5 h5 (HOB.out _ _) hi
                  rw [laid_zero hi] at KG0
                  have KG := Lib.hid KG0
                  have KR0 := ref_yes p (-2) n i w5 h5 (HOB.out _ _) hi
                  rw [show refK f (-2) i = true by simp [refK]] at KR0
                  have KR := Lib.hid KR0
                  clear h5 t5 KG0 KR0 hi0 hi1
                  go_wp2_with (first | (go_at_call 71; refine KI.out.mono ?_; rintro e w' ⟨rfl, rfl⟩) | (go_at_call 72; refine KG.out.mono ?_; rintro e w' ⟨rfl, rfl⟩) | (go_at_call 73; refine KR.out.mono ?_; rintro e w' ⟨rfl, rfl⟩))
                  go_roundw
                  case rel => exact HNX.out
                  case measure => first | (simp [intOf]; done) | (simp [intOf]; omega)
            · rw [show (((1 : Nat) : Int) - 2) = -1 from rfl]
              have tq : decide ((-1 : Int) < (j : Int)) = true := by simp; omega
              have hkd : Kind j f (-1) n n := .inr ⟨.inl rfl, rfl, by omega⟩
              have hcls : ∀ c : Nat, (-1 : Int) = c → c < j ∧ n = (f c).size := fun c hc => by omega
              have KY := Lib.hid (young_yes (-1) n n p wr hH hkd (by omega) (by omega) (by omega))
              have hobj : ∀ wd bd, Obj1 2000 (laidW wd (-1) p n) (laidB bd p) j f p (-1) n := fun wd bd => obj_kind (by omega) (by omega) (by omega) hcls
              have HOB := Lib.hid hobj
              have HBW := Lib.hid hB
              clear hH hB hobj hkd hcls
              go_wp2_with fail
              refine KY.out.mono ?_
              rintro e w5 ⟨rfl, h5, t5⟩
              have hB5 := t5.below HBW.out LO.out.1 LO.out.2.1 LO.out.2.2 HBW.out.size
              have HNX := Lib.hid (kn_next (q := 1) (by omega) hp (by omega) h5 HBW.out t5 LO.out)
              have KI := Lib.hid (is_yes p (-1) n w5 h5 (HOB.out _ _))
              clear hB5 KY
              by_cases hi0 : x2 < 0
              · have ti : decide (0 ≤ x2) = false := by simp; omega
                have hno : ∃ (p' : Nat) (kl' : Int) (m' : Nat), ((p : Int) + 1) = (p' : Int) + 1 ∧ Obj1 2000 (laidW wd (-1) p n) (laidB bd p) j f p' kl' m' ∧ (x2 < 0 ∨ (m' : Int) ≤ x2) := ⟨p, (-1), n, rfl, HOB.out _ _, .inl hi0⟩
                have KG := Lib.hid (get_no _ x2 w5 h5 (.inr hno))
                have KR := Lib.hid (ref_no _ x2 w5 h5 (.inr hno))
                clear h5 t5 hno
                go_wp2_with (first | (go_at_call 71; refine KI.out.mono ?_; rintro e w' ⟨rfl, rfl⟩) | (go_at_call 72; refine KG.out.mono ?_; rintro e w' ⟨rfl, rfl⟩) | (go_at_call 73; refine KR.out.mono ?_; rintro e w' ⟨rfl, rfl⟩))
                go_roundw
                case rel => exact HNX.out
                case measure => first | (simp [intOf]; done) | (simp [intOf]; omega)
              · by_cases hi1 : (n : Int) ≤ x2
                · have ti : decide (0 ≤ x2) = true := by simp; omega
                  have tj2 : decide (x2 < (n : Int)) = false := by simp; omega
                  have hno : ∃ (p' : Nat) (kl' : Int) (m' : Nat), ((p : Int) + 1) = (p' : Int) + 1 ∧ Obj1 2000 (laidW wd (-1) p n) (laidB bd p) j f p' kl' m' ∧ (x2 < 0 ∨ (m' : Int) ≤ x2) := ⟨p, (-1), n, rfl, HOB.out _ _, .inr hi1⟩
                  have KG := Lib.hid (get_no _ x2 w5 h5 (.inr hno))
                  have KR := Lib.hid (ref_no _ x2 w5 h5 (.inr hno))
                  clear h5 t5 hno
                  go_wp2_with (first | (go_at_call 71; refine KI.out.mono ?_; rintro e w' ⟨rfl, rfl⟩) | (go_at_call 72; refine KG.out.mono ?_; rintro e w' ⟨rfl, rfl⟩) | (go_at_call 73; refine KR.out.mono ?_; rintro e w' ⟨rfl, rfl⟩))
                  go_roundw
                  case rel => exact HNX.out
                  case measure => first | (simp [intOf]; done) | (simp [intOf]; omega)
                · obtain ⟨i, rfl⟩ : ∃ i : Nat, x2 = i := ⟨x2.toNat, by omega⟩
                  have hi : i < n := by omega
                  have ti : decide (0 ≤ (i : Int)) = true := by simp
                  have tj2 : decide (i < n) = true := by simpa using hi
                  have tj3 : decide ((i : Int) < (n : Int)) = true := by simp; omega
                  have KG0 := get_yes p (-1) n i w5 h5 (HOB.out _ _) hi
                  rw [laid_zero hi] at KG0
                  have KG := Lib.hid KG0
                  have KR0 := ref_yes p (-1) n i w5 h5 (HOB.out _ _) hi
                  rw [show refK f (-1) i = false by simp [refK]] at KR0
                  have KR := Lib.hid KR0
                  clear h5 t5 KG0 KR0 hi0 hi1
                  go_wp2_with (first | (go_at_call 71; refine KI.out.mono ?_; rintro e w' ⟨rfl, rfl⟩) | (go_at_call 72; refine KG.out.mono ?_; rintro e w' ⟨rfl, rfl⟩) | (go_at_call 73; refine KR.out.mono ?_; rintro e w' ⟨rfl, rfl⟩))
                  go_roundw
                  case rel => exact HNX.out
                  case measure => first | (simp [intOf]; done) | (simp [intOf]; omega)
            · have hck : (((k + 2 : Nat) : Int) - 2) = (k : Int) := by omega
              rw [hck]
              have hkj : k < j := by omega
              have tq : decide (k < j) = true := by simpa using hkj
              obtain ⟨lb, lo, rfl, hlb, hcl⟩ := Cls_at HC.out (by omega)
              have hs10 := (HGD.out k hkj).2
              have HCK0 := Lib.hid (hcl k hkj)
              have HLB := Lib.hid hlb
              obtain ⟨s, hs⟩ : ∃ s, f k = s := ⟨_, rfl⟩
              have HFK := Lib.hid hs
              have HCK : Hid (w.cell? ⟨lb, lo + k, none⟩ = some (.string s)) := Lib.hid (by rw [← hs]; exact HCK0.out)
              rw [hs] at hs10
              have hkd : Kind j f (k : Int) n s.size := .inl ⟨k, rfl, hkj, by rw [hs]⟩
              have hcls : ∀ c : Nat, (k : Int) = c → c < j ∧ s.size = (f c).size := fun c hc => by have e : k = c := (by omega); subst e; exact ⟨hkj, by rw [hs]⟩
              have HCKI := Lib.hid hck
              clear hcl hs hlb HCK0 hck
              have KY := Lib.hid (young_yes (k : Int) n s.size p wr hH hkd (by omega) (by omega) (by omega))
              have hobj : ∀ wd bd, Obj1 2000 (laidW wd (k : Int) p s.size) (laidB bd p) j f p (k : Int) s.size := fun wd bd => obj_kind (by omega) (by omega) (by omega) hcls
              have HOB := Lib.hid hobj
              have HBW := Lib.hid hB
              clear hH hB hobj hkd hcls
              go_wp2_with fail
              refine KY.out.mono ?_
              rintro e w5 ⟨rfl, h5, t5⟩
              have hB5 := t5.below HBW.out LO.out.1 LO.out.2.1 LO.out.2.2 HBW.out.size
              have hc5 : w5.cell? ⟨lb, lo + k, none⟩ = some (.string s) := (hB5.cell (p := ⟨lb, lo + k, none⟩) HLB.out).trans HCK.out
              have HNX := Lib.hid (kn_next (q := k + 2) (by omega) hp (by omega) h5 HBW.out t5 LO.out)
              have KI := Lib.hid (is_yes p (k : Int) s.size w5 h5 (HOB.out _ _))
              rw [HCKI.out] at HNX
              clear hB5 KY
              by_cases hi0 : x2 < 0
              · have ti : decide (0 ≤ x2) = false := by simp; omega
                have hno : ∃ (p' : Nat) (kl' : Int) (m' : Nat), ((p : Int) + 1) = (p' : Int) + 1 ∧ Obj1 2000 (laidW wd (k : Int) p s.size) (laidB bd p) j f p' kl' m' ∧ (x2 < 0 ∨ (m' : Int) ≤ x2) := ⟨p, (k : Int), s.size, rfl, HOB.out _ _, .inl hi0⟩
                have KG := Lib.hid (get_no _ x2 w5 h5 (.inr hno))
                have KR := Lib.hid (ref_no _ x2 w5 h5 (.inr hno))
                clear h5 t5 hno
                go_wp2_with (first | (go_at_call 71; refine KI.out.mono ?_; rintro e w' ⟨rfl, rfl⟩) | (go_at_call 72; refine KG.out.mono ?_; rintro e w' ⟨rfl, rfl⟩) | (go_at_call 73; refine KR.out.mono ?_; rintro e w' ⟨rfl, rfl⟩))
                go_roundw
                case rel => exact HNX.out
                case measure => first | (simp [intOf]; done) | (simp [intOf]; omega)
              · by_cases hi1 : (s.size : Int) ≤ x2
                · have ti : decide (0 ≤ x2) = true := by simp; omega
                  have tj2 : decide (x2 < (s.size : Int)) = false := by simp; omega
                  have hno : ∃ (p' : Nat) (kl' : Int) (m' : Nat), ((p : Int) + 1) = (p' : Int) + 1 ∧ Obj1 2000 (laidW wd (k : Int) p s.size) (laidB bd p) j f p' kl' m' ∧ (x2 < 0 ∨ (m' : Int) ≤ x2) := ⟨p, (k : Int), s.size, rfl, HOB.out _ _, .inr hi1⟩
                  have KG := Lib.hid (get_no _ x2 w5 h5 (.inr hno))
                  have KR := Lib.hid (ref_no _ x2 w5 h5 (.inr hno))
                  clear h5 t5 hno
                  go_wp2_with (first | (go_at_call 71; refine KI.out.mono ?_; rintro e w' ⟨rfl, rfl⟩) | (go_at_call 72; refine KG.out.mono ?_; rintro e w' ⟨rfl, rfl⟩) | (go_at_call 73; refine KR.out.mono ?_; rintro e w' ⟨rfl, rfl⟩))
                  go_roundw
                  case rel => exact HNX.out
                  case measure => first | (simp [intOf]; done) | (simp [intOf]; omega)
                · obtain ⟨i, rfl⟩ : ∃ i : Nat, x2 = i := ⟨x2.toNat, by omega⟩
                  have hi : i < s.size := by omega
                  have ti : decide (0 ≤ (i : Int)) = true := by simp
                  have tj2 : decide (i < s.size) = true := by simpa using hi
                  have tj3 : decide ((i : Int) < (s.size : Int)) = true := by simp; omega
                  have KG0 := get_yes p (k : Int) s.size i w5 h5 (HOB.out _ _) hi
                  rw [laid_zero hi] at KG0
                  have KG := Lib.hid KG0
                  have KR0 := ref_yes p (k : Int) s.size i w5 h5 (HOB.out _ _) hi
                  have hrk : refK f (k : Int) i = (s[i].toNat == 82) := by
                    unfold refK
                    rw [if_neg (by omega), if_pos (by omega), Int.toNat_natCast, HFK.out]
                    simp [Array.getD, hi, ByteArray.getElem_eq_getElem_data]
                  rw [hrk] at KR0
                  by_cases h82 : s[i].toNat = 82
                  · have hb : (s[i].toNat == 82) = true := by simpa using h82
                    rw [hb] at KR0
                    have KR := Lib.hid KR0
                    have h83 : ((s[i].toNat : Int) == 82) = true := by first | (simp; done) | (simp; omega)
                    clear h5 t5 KG0 KR0 hi0 hi1 hb hrk
                    go_wp2_with (first | (go_at_call 71; refine KI.out.mono ?_; rintro e w' ⟨rfl, rfl⟩) | (go_at_call 72; refine KG.out.mono ?_; rintro e w' ⟨rfl, rfl⟩) | (go_at_call 73; refine KR.out.mono ?_; rintro e w' ⟨rfl, rfl⟩))
                    go_roundw
                    case rel => exact HNX.out
                    case measure => first | (simp [intOf]; done) | (simp [intOf]; omega)
                  · have hb : (s[i].toNat == 82) = false := by simpa using h82
                    rw [hb] at KR0
                    have KR := Lib.hid KR0
                    have h83 : ((s[i].toNat : Int) == 82) = false := by first | (simp; done) | (simp; omega)
                    clear h5 t5 KG0 KR0 hi0 hi1 hb hrk
                    go_wp2_with (first | (go_at_call 71; refine KI.out.mono ?_; rintro e w' ⟨rfl, rfl⟩) | (go_at_call 72; refine KG.out.mono ?_; rintro e w' ⟨rfl, rfl⟩) | (go_at_call 73; refine KR.out.mono ?_; rintro e w' ⟨rfl, rfl⟩))
                    go_roundw
                    case rel => exact HNX.out
                    case measure => first | (simp [intOf]; done) | (simp [intOf]; omega)
          · obtain rfl : q = j + 2 := by omega
            have tq : decide (((j + 2 : Nat) : Int) - 2 < (j : Int)) = false := by first | (simp; done) | (simp; omega)
            have HBX := Lib.hid hB
            clear hH hB
            go_wp2_with fail
            go_ret
            exact ⟨rfl, HBX.out⟩

end Go.Proofs.YtjffbojgdemooaaDoor

/-
  What is in, told: bits.TrailingZeros64, Each and List.
-/
import Derived.Test.YtpfpieakemnadaaDoorLen
import Derived.RangeFuncNested
import Derived.RangeFuncBound
import Derived.RangeFuncBox
import Derived.RangeFuncCalls
import Derived.RangeFuncLeaves
import Derived.Shelf.Abstract
import Derived.Shelf.RegionOpen
import Derived.WalkKit
import Derived.OwnWalkIn
import Derived.TacticsInMore
import Derived.LoopNIn
import Derived.LoopIn
import Derived.Maps.AppendAt
namespace Go.Proofs.YtpfpieakemnadaaDoor
open Go.RowKit Go.Shelf

attribute [local go_sem] Oper.semAt_some

/-- The library's table lies as its initialiser lays it. -/
def TabOk (w : World) : Prop := ∀ j, j < 64 → w.cell? ⟨2, j, none⟩ = some (.int .u8 (Lib.deBruijn64tab.getD j 0 : Nat))

theorem TabOk.lt {w : World} (h : TabOk w) : 2 < w.heap.size := World.block_lt_of_cell? w _ (h 0 (by decide))
theorem TabOk.below {B : Nat} {w w' : World} (h : TabOk w) (hb : Below B w w') (hB : w.heap.size ≤ B) : TabOk w' := fun j hj =>
  (hb.cell (p := ⟨2, j, none⟩) (Nat.lt_of_lt_of_le h.lt hB)).trans (h j hj)
theorem TabOk.belowT {B : Nat} {w w' : World} (h : TabOk w) (hb : Below B w w') (hB : 2 < B) : TabOk w' := fun j hj =>
  (hb.cell (p := ⟨2, j, none⟩) hB).trans (h j hj)

theorem tz_key (x a : Nat) (hx : x < 18446744073709551616) (hx0 : x ≠ 0) (hlow : x &&& (18446744073709551616 - x) = a) :
    IntKind.u64.wrap (bits BinOp.and IntKind.u64 (x : Int) (IntKind.u64.wrap (-(x : Int))) * 285870213051353865) / 288230376151711744 = ((a * 285870213051353865 % 18446744073709551616 / 288230376151711744 : Nat) : Int) := by
  have e1 : IntKind.u64.wrap (-(x : Int)) = ((18446744073709551616 - x : Nat) : Int) := by rw [IntKind.wrap_u64]; omega
  rw [e1, u64_and_nat x _ hx (by omega), hlow, IntKind.wrap_u64]
  omega

theorem tz_core (x k idx : Nat) (w : World) (hx0 : ((x : Int) == 0) = false)
    (key : IntKind.u64.wrap (bits BinOp.and IntKind.u64 (x : Int) (IntKind.u64.wrap (-(x : Int))) * 285870213051353865) / 288230376151711744 = (idx : Int))
    (hi : idx < 64) (hk : k < 64) (hcell : w.cell? ⟨2, idx, none⟩ = some (.int .u8 k)) :
    Calls Tryd.prog 63 #[.int .u64 x] w fun e w' => e = .returned (.int .i64 k) ∧ w = w' := by
  go_enter Tryd.func63, Tryd.ntmps63
  go_wp2_with (simp only [key])
  go_ret
  exact ⟨rfl, rfl⟩

theorem tz_any (x : Nat) (w : World) (hx : x < 18446744073709551616) (h0 : 0 < x) (hT : TabOk w) :
    Calls Tryd.prog 63 #[.int .u64 x] w fun e w' => e = .returned (.int .i64 (Lib.ctz 64 x)) ∧ w = w' := by
  obtain ⟨hlow, hk⟩ := Lib.lowest_bit 64 x (by omega) hx
  obtain ⟨hi, htab⟩ := Lib.deBruijn64_at _ hk
  have hcell := hT _ hi
  rw [htab] at hcell
  exact tz_core x _ _ w (by simp; omega) (tz_key x _ hx (by omega) hlow) hi hk hcell

/-! ### Each -/

def told (l : List Nat) : List Value := l.map fun x : Nat => Value.int .i64 (x : Int)

set_option maxRecDepth 100000 in
set_option maxHeartbeats 2000000 in
theorem each1_in (l Bs n₀ B s r m : Nat) (ws : List Nat) (N : Nat) (hN : (tellFrom ws 0).length ≤ N) (J Jx : List Nat → World → Prop)
    (hY : ∀ (pre : List Nat) (x : Nat) W, J pre W → pre.length < N → YieldAt Fence.wide 3 Tryd.prog l #[.int .i64 (x : Int)] W fun e W' =>
      (e = .returned (.bool true) ∧ J (pre ++ [x]) W' ∧ Below n₀ W W') ∨ (e = .returned (.bool false) ∧ Jx (pre ++ [x]) W'))
    (W : World) (hBs : W.cell? ⟨Bs, 0, none⟩ = some (.pointer (some ⟨s, 0, none⟩))) (hS : SetW B s r m ws W) (hs : s < n₀) (hr : r < n₀) (hT : TabOk W) (hTn : 2 < n₀) (h0 : J [] W) :
    CallsIn Fence.wide 4 Tryd.prog 62 #[.func (.yield l) #[] #[], .pointer (some ⟨Bs, 0, none⟩)] W fun e W' => (∃ v, e = .returned v) ∧
      ((∃ ys, ys = tellFrom ws 0 ∧ J ys W') ∨ (∃ pre, pre <+: tellFrom ws 0 ∧ Jx pre W')) := by
  obtain ⟨c0, c1⟩ := hS.cells
  have hn := hS.nle
  have hl := hS.len
  have H := Lib.hid hS
  clear hS c0
  generalize hm : ws.length = q at *
  have HM := Lib.hid hm
  have hq : q ≤ 16384 := by omega
  clear hm hl
  refine callsIn_of_wp Tryd.func62 rfl trivial ?_ rfl
  simp only [Tryd.ntmps62, List.size_toArray, List.length_cons, List.length_nil, Nat.reduceAdd, Nat.reduceSub, Array.replicate_succ, Array.replicate_zero, List.push_toArray, List.append_toArray, List.nil_append, List.cons_append]
  gi_wp2
  gi_loopw [10] (fun sk wr => ∃ (k : Nat) (pre : List Nat), k ≤ q ∧ sk = .int .i64 k ∧ tellFrom ws 0 = pre ++ tellFrom ws k ∧ J pre wr ∧ Below n₀ W wr) (fun sk _ => q - (intOf sk).toNat)
  case atStart => exact ⟨0, [], Nat.zero_le _, rfl, rfl, h0, Below.refl _ _⟩
  case round =>
    obtain ⟨k, pre, hk, rfl, hp, hJ, hB⟩ := hrel
    by_cases hlt : k < q
    · have hkl : k < ws.length := by rw [HM.out]; exact hlt
      have cw := (hB.cell (p := ⟨r, k, none⟩) hr).trans (H.out.cell k hkl)
      have hx := H.out.word_lt k
      rw [tellFrom_step ws k hkl] at hp
      have t1 : decide (k < q) = true := by simpa using hlt
      generalize ws.getD k 0 = x at *
      have hq2 : k ≤ 16384 := by omega
      gi_wp2
      gi_loopw [4] (fun sw w2 => ∃ (y : Nat) (pre2 : List Nat), sw = .int .u64 y ∧ y < 18446744073709551616 ∧ tellFrom ws 0 = pre2 ++ ((bitsOf y).map (64 * k + ·) ++ tellFrom ws (k + 1)) ∧ J pre2 w2 ∧ Below n₀ W w2) (fun sw _ => (intOf sw).toNat)
      case atStart => exact ⟨x, pre, rfl, hx, hp, hJ, hB⟩
      case round =>
        obtain ⟨y, pre2, rfl, hy64, hp2, hJ2, hB2⟩ := hrel
        have hT2 : TabOk wr := hT.belowT hB2 hTn
        by_cases hy0 : y = 0
        · subst hy0
          rw [bitsOf_zero, List.map_nil, List.nil_append] at hp2
          gi_wp2
          go_roundw
          case rel => exact ⟨k + 1, pre2, by omega, by go_num, hp2, hJ2, hB2⟩
          case measure => simp [intOf]; omega
        · have hpos : 0 < y := by omega
          have hst := bitsOf_step y hpos hy64
          rw [hst] at hp2
          have hc64 : Lib.ctz 64 y < 64 := by obtain ⟨_, _, h⟩ := low_spec y hpos hy64; exact h
          have hlow := clear_lt y hpos
          have had := u64_and_nat y (y - 1) hy64 (by omega)
          have hsub : IntKind.u64.wrap ((y : Int) - 1) = ((y - 1 : Nat) : Int) := by rw [IntKind.wrap_u64]; omega
          have hne : ((y : Int) == 0) = false := by simp; omega
          have hlen : pre2.length < N := by
            have := congrArg List.length hp2
            simp only [List.length_append, List.length_map, List.length_cons] at this
            omega
          generalize hcz : Lib.ctz 64 y = c at *
          have HCZ := Lib.hid hcz
          have a1 : IntKind.i64.wrap (64 * (k : Int)) = 64 * (k : Int) := IntWalk.i64_in _ (by omega)
          have a2 : IntKind.i64.wrap (64 * (k : Int) + (c : Int)) = 64 * (k : Int) + (c : Int) := IntWalk.i64_in _ (by omega)
          obtain ⟨fn, tmps, assign, body, hy, hR⟩ := hY pre2 (64 * k + c) wr hJ2 hlen
          rw [show ((64 * k + c : Nat) : Int) = 64 * (k : Int) + (c : Int) by omega] at hy
          have HP := Lib.hid hp2
          have HY64 := Lib.hid hy64
          have HLOW := Lib.hid hlow
          clear hp2 hst hcz hlow
          gi_wp2_with (refine ⟨trivial, ?_⟩; gi_at_call 63; refine (callsIn_wide.2 (tz_any y _ HY64.out hpos hT2)).mono ?_; rintro e w' ⟨rfl, rfl⟩; rw [HCZ.out])
          refine hR.mono ?_
          rintro e W3 (⟨rfl, hJ3, hk3⟩ | ⟨rfl, hJx3⟩)
          · gi_wp2
            go_roundw
            case rel => exact ⟨y &&& (y - 1), pre2 ++ [64 * k + c], rfl, Nat.lt_trans HLOW.out HY64.out, by rw [HP.out]; simp, hJ3, hB2.trans hk3⟩
            case measure => have := HLOW.out; simp [intOf]; omega
          · gi_wp2
            refine bodyPost_ret (results_none rfl _ _ _) rfl ?_
            exact ⟨⟨_, rfl⟩, .inr ⟨pre2 ++ [64 * k + c], ⟨(bitsOf (y &&& (y - 1))).map (64 * k + ·) ++ tellFrom ws (k + 1), by rw [HP.out]; simp⟩, hJx3⟩⟩
    · obtain rfl : k = q := by omega
      rw [tellFrom_end ws k (by rw [HM.out]; exact Nat.le_refl _), List.append_nil] at hp
      have t1 : decide (k < k) = false := by simp
      gi_wp2
      go_end0
      exact ⟨⟨_, rfl⟩, .inl ⟨_, hp.symm, hJ⟩⟩

set_option maxHeartbeats 1000000 in
/-- Each: the receiver is boxed; the function value captures the box. -/
theorem each_in (n : Nat) (s : Nat) (w : World) :
    CallsIn Fence.wide n Tryd.prog 32 #[.pointer (some ⟨s, 0, none⟩)] w fun e w' => e = .returned (.func (.func 62) #[] #[.pointer (some ⟨w.heap.size, 0, none⟩)]) ∧ w' = w.alloc (.cells #[.pointer (some ⟨s, 0, none⟩)] 24) := by
  refine callsIn_of_wp Tryd.func32 rfl trivial ?_ rfl
  simp only [Tryd.ntmps32, List.size_toArray, List.length_cons, List.length_nil, Nat.reduceAdd, Nat.reduceSub, Array.replicate_succ, Array.replicate_zero, List.push_toArray, List.append_toArray, List.nil_append, List.cons_append]
  gi_wp2
  go_ret
  exact ⟨rfl, rfl⟩

theorem SetW.below {B M s r m : Nat} {ws : List Nat} {w w' : World} (h : SetW B s r m ws w) (hb : Below M w w') (hs : s < M) (hr : r < M) : SetW B s r m ws w' := h.kept (hb.block s hs) (hb.block r hr)

/-- Each's value gives what is in, rising; or a beginning of it, where a round has said 'no more'. -/
theorem each_stops (Bs n₀ B s r m : Nat) (ws : List Nat) (w : World) (hBs : Bs < w.heap.size) (hn₀ : n₀ ≤ w.heap.size)
    (hc : w.cell? ⟨Bs, 0, none⟩ = some (.pointer (some ⟨s, 0, none⟩))) (hS : SetW B s r m ws w) (hs : s < n₀) (hr : r < n₀) (hT : TabOk w) (hTn : 2 < n₀) :
    SeqStopsK Fence.wide 4 Tryd.prog 62 #[.pointer (some ⟨Bs, 0, none⟩)] (fun x : Nat => #[Value.int .i64 (x : Int)]) (Below n₀) (fun ys => ys = tellFrom ws 0) (fun pre => pre <+: tellFrom ws 0) (tellFrom ws 0).length w := fun l J Jx W hW _ _ hY h0 =>
  each1_in l Bs n₀ B s r m ws _ (Nat.le_refl _) J Jx hY W ((hW.cell (p := ⟨Bs, 0, none⟩) hBs).trans hc) (hS.below hW (Nat.lt_of_lt_of_le hs hn₀) (Nat.lt_of_lt_of_le hr hn₀)) hs hr (hT.belowT hW (Nat.lt_of_lt_of_le hTn hn₀)) hTn h0

theorem intinfo : (Tryd.prog.info? 3).map (fun i => (i.zero, i.size, i.bytes)) = some (some (.int .i64 0), 1, 8) := by kernel_rfl

theorem tell_le (ws : List Nat) : (tellFrom ws 0).length ≤ 64 * ws.length := by
  rw [tellFrom_eq ws ws.length 0 (by omega)]
  exact Nat.le_trans (List.length_filter_le _ _) (by simp)

def ListPost (l : List Nat) (w : World) (e : Ending) (W' : World) : Prop :=
  ∃ v, e = .returned v ∧ W'.ownsRow w.heap.size 3 1 v l.length (told l) ∧ (v = .slice none 0 0 ↔ l = []) ∧ Below w.heap.size w W'

set_option maxRecDepth 100000 in
set_option maxHeartbeats 2000000 in
theorem list_in {B s r m : Nat} {ws : List Nat} (w : World) (hS : SetW B s r m ws w) (hT : TabOk w) :
    CallsIn Fence.wide 5 Tryd.prog 29 #[.pointer (some ⟨s, 0, none⟩)] w (ListPost (tellFrom ws 0) w) := by
  obtain ⟨hs, hr⟩ := hS.lt
  have hTn := hT.lt
  have hlen : (tellFrom ws 0).length ≤ 1048640 := by
    have := tell_le ws; have := hS.len; have := hS.nle; omega
  have hmax : (tellFrom ws 0).length ≤ maxLen := by unfold maxLen; omega
  have hbytes : (tellFrom ws 0).length * 8 ≤ 140737488355328 := by omega
  obtain ⟨i0, hi, hz0, hz1, hz2⟩ := info_parts intinfo
  have H := Lib.hid hS
  have HT := Lib.hid hT
  clear hS hT
  refine callsIn_of_wp_marks Tryd.func29 rfl trivial ?_ rfl
  simp only [Tryd.ntmps29, List.size_toArray, List.length_cons, List.length_nil, Nat.reduceAdd, Nat.reduceSub, Array.replicate_succ, Array.replicate_zero, List.push_toArray, List.append_toArray, List.nil_append, List.cons_append]
  gi_wp2_with (refine ⟨trivial, ?_⟩; gi_at_call 32; refine (each_in _ _ _).mono ?_; rintro e w' ⟨rfl, rfl⟩)
  have bO := Boxed.new w 26 (.slice none 0 0)
  have bN := Boxed.new (w.alloc (.cells #[.slice none 0 0] 26)) 24 (.pointer (some ⟨s, 0, none⟩))
  rw [World.size_alloc] at bN
  have hB0 : Below w.heap.size w ((w.alloc (.cells #[.slice none 0 0] 26)).alloc (.cells #[.pointer (some ⟨s, 0, none⟩)] 24)) := ((Below.refl _ w).alloc (Nat.le_refl _) _).alloc (by simp) _
  refine wpIn_rangeFunc_ownG rfl (by decide) (gf := 62) (lb := #[.pointer (some ⟨w.heap.size + 1, 0, none⟩)]) rfl trivial (enters_of Tryd.func62 (by kernel_rfl) rfl)
    (each_stops (w.heap.size + 1) w.heap.size B s r m ws _ (by simp) (by simp; omega) bN.cell (H.out.below hB0 hs hr) hs hr (HT.out.belowT hB0 hTn) hTn) belowK_t (belowK_b (by simp; omega)) (Below.refl _ _) (fun _ => rfl)
    (fun pre W => (∃ v, Boxed W w.heap.size 26 v ∧ W.ownsRow w.heap.size 3 1 v pre.length (told pre) ∧ (v = .slice none 0 0 ↔ pre = [])) ∧ Below w.heap.size w W)
    (fun _ _ _ => False)
    (OwnFrom.and (Own.from (holdsRow_own w.heap.size w.heap.size 26 3 1 (fun pre => pre.length) (fun pre => told pre) (fun pre v => v = .slice none 0 0 ↔ pre = [])) _) (ownFrom_below (Nat.le_refl _) (by simp; omega)))
    (fun _ _ _ _ _ hs _ _ => hs)
    ⟨⟨_, bO.alloc _, World.ownsRow_nil _ _ _ _, by simp⟩, hB0⟩
    (fun x => { tmps := #[.pointer (some ⟨s, 0, none⟩), undef, .slice none 0 0, .pointer (some ⟨w.heap.size, 0, none⟩), .int .i64 (x : Int), .pointer (some ⟨s, 0, none⟩), .func (.func 62) #[] #[.pointer (some ⟨w.heap.size + 1, 0, none⟩)], .int .i64 (x : Int), undef, undef, undef, undef, undef], defers := [] }) ?assign ?body ?done ?stop
  case assign =>
    intro l x W K hK
    gi_wp2
    exact hK
  case body =>
    rintro l pre x W ⟨⟨v, hv, hrow, hnil⟩, hB⟩ hlt
    have hc := hv.cell
    gi_wp2_with (gi_at_builtin; refine wpListIn_append_own _ rfl _ _ 26 rfl w.heap.size 3 i0 (.int .i64 0) 1 8 Tryd.underlying26 hi hz0 hz1 hz2 rfl (by decide) _ _ _ rfl (hrow.alloc _) ⟨W.heap.size, 0, none⟩ 1 1 [.int .i64 (x : Int)] rfl rfl (cell_one_new _ _ _) (by simp [Value.oneCell']) (by omega) (by omega) (by have := hB.size; simp; omega) ?_; intro v' w1 hown' hgrow _; obtain ⟨g', cap', rfl⟩ := ownsRow_succ hown'; obtain ⟨hv1, hv2, hr2, hk2, hb2⟩ := hv.appended (by decide) hrow hB.size (Nat.le_refl _) hown' hgrow; have hc1 := hv1.cell; have hf1 := hv1.frozen)
    exact ⟨hk2.from _, hb2, ⟨_, hv2, by simpa [told] using hr2, by simp⟩, hB.trans hb2⟩
  case done =>
    rintro D ys W hD rfl ⟨⟨v, hv, hrow, hnil⟩, hB⟩ hK
    have hc := hv.cell
    gi_wp2
    refine ⟨by simp, .inl ⟨_, _, rfl, run_takeDeferred hK, ?_⟩⟩
    exact ⟨_, results_tmp rfl _ _ _, v, rfl, ownsRow_putObj hrow _ hK rfl, hnil, hB.trans (belowK_b (w := w) (Nat.le_refl _) W D _ _ (by simp at hD; omega) hK rfl rfl)⟩
  case stop =>
    rintro D c pre W _ _ h _
    exact h.elim

theorem list_set {B s r m : Nat} {ws : List Nat} (w : World) (hS : SetW B s r m ws w) (hT : TabOk w) :
    Calls Tryd.prog 29 #[.pointer (some ⟨s, 0, none⟩)] w (ListPost (tellFrom ws 0) w) := callsIn_wide.1 (list_in w hS hT)

end Go.Proofs.YtpfpieakemnadaaDoor

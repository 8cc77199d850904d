/-
  MovesTree: the law's walk.
-/
import Derived.Test.YtbpamcgmhnnmnaaDoorMvP
namespace Go.Proofs.YtbpamcgmhnnmnaaDoor
open Go.RowKit

def GrowRel (zs : List Int) (n : Nat) (w : World) (s5 s4 : Value) (wr : World) : Prop :=
  ∃ i : Nat, i ≤ n ∧ s5 = .int .i64 i ∧ wr.ownsRow w.heap.size 112 2 s4 i (mvCells (treeL (treeF zs) i)) ∧ Below w.heap.size w wr

def DoneRel (out : List (Int × Int)) (n : Nat) (W : World) (s9 s8 : Value) (wr : World) : Prop :=
  ∃ (k : Nat) (ks : List (Int × Int)) (bs : List Nat), k ≤ n ∧ s9 = .int .i64 k ∧ KV W.heap.size bs s8 ks wr ∧ ks.length ≤ k ∧ (∀ q, look ks q = valM (out.take k) q) ∧ Below W.heap.size W wr

def CheckRel (n : Nat) (W : World) (s10 : Value) (wr : World) : Prop := ∃ k : Nat, k ≤ n ∧ s10 = .int .i64 k ∧ Below W.heap.size W wr

theorem valM_take {out : List (Int × Int)} {k : Nat} (h : k < out.length) : ∀ q, valM (out.take (k + 1)) q = upd (valM (out.take k)) (out.getD k (0, 0)).1 (valM (out.take k) (out.getD k (0, 0)).2) q := fun q => by
  rw [take_next out k h]
  exact congrFun (valM_next (out.take k) (out.getD k (0, 0)).1 (out.getD k (0, 0)).2) q

set_option maxHeartbeats 8000000 in
set_option maxRecDepth 100000 in
theorem tree_main (ad : Option Addr) (len cap : Nat) (zs : List Int) (w : World) (hl : Row .i64 w ad len cap zs) : Calls Tryd.prog 14 #[.slice ad len cap] w (TruePost w) := by
  have hln := hl.len_eq
  have hmax := hl.max
  have hle := hl.le
  unfold maxLen at hmax
  by_cases h40 : 40 < len
  · have t0 : decide ((len : Int) > 40) = true := by simp; omega
    clear hl hln
    go_enter Tryd.func14, Tryd.ntmps14
    go_wp2_with fail
    refine (mfirstF w).mono ?_
    rintro e w1 ⟨rfl, hB1⟩
    go_wp2_with fail
    go_ret
    exact ⟨rfl, hB1⟩
  · have t0 : decide ((len : Int) > 40) = false := by simp; omega
    have HL := Lib.hid hl
    have HLN := Lib.hid hln
    obtain ⟨i0, hi, hz0, hz1, hz2⟩ := info_parts moveinfo
    have HI := Lib.hid hi
    have HZ0 := Lib.hid hz0
    have HZ1 := Lib.hid hz1
    have HZ2 := Lib.hid hz2
    clear hl hln hi hz0 hz1 hz2
    go_enter Tryd.func14, Tryd.ntmps14
    go_wp2_with fail
    refine (mfirstF w).mono ?_
    rintro e w1 ⟨rfl, hB1⟩
    have R0 : Hid (GrowRel zs len w (.int .i64 0) (.slice none 0 0) w1) := Lib.hid ⟨0, Nat.zero_le _, rfl, World.ownsRow_nil _ _ _ _, hB1⟩
    clear hB1
    go_wp2_with fail
    go_loopw [5, 4] (fun s5 s4 wr => GrowRel zs len w s5 s4 wr) (fun s5 _ _ => len - (intOf s5).toNat)
    case atStart => exact R0.out
    case round =>
      clear R0
      obtain ⟨i, hi, rfl, hown, hB⟩ := hrel
      obtain ⟨va, vc, rfl⟩ := own_shapeM hown
      by_cases hlt : i < len
      · obtain ⟨lb, lo, rfl, hc⟩ := Row_at HL.out (by omega)
        have hblk : lb < w.heap.size := Row_lt HL.out (by omega) ⟨lb, lo, none⟩ rfl
        have cx : wr.cell? ⟨lb, lo + i, none⟩ = some (.int .i64 (zs.getD i 0)) := (hB.cell (p := ⟨lb, lo + i, none⟩) hblk).trans (hc i hlt)
        have t1 : decide (i < len) = true := by simpa using hlt
        obtain ⟨d, hd⟩ : ∃ d : Int, (i : Int) + 1 = d := ⟨_, rfl⟩
        have hTF : treeF zs i = (((zs.getD i 0).tmod d) + i + 1).tmod d := by unfold treeF; rw [hd]
        have hr := tmod_between (zs.getD i 0) d (by omega)
        have HNX : Hid (treeL (treeF zs) (i + 1) = treeL (treeF zs) i ++ [(d, treeF zs i)]) := Lib.hid (by rw [treeL_next, hd])
        generalize zs.getD i 0 = z at *
        generalize hrr : z.tmod d = r at *
        generalize htt : (r + (i : Int) + 1).tmod d = t at *
        have s1 : IntKind.i64.wrap ((i : Int) + 1) = d := by rw [← hd]; exact IntWalk.i64_in _ (by omega)
        have s2 : IntKind.i64.wrap (r + (i : Int)) = r + i := IntWalk.i64_in _ (by omega)
        have s3 : IntKind.i64.wrap (r + (i : Int) + 1) = r + i + 1 := IntWalk.i64_in _ (by omega)
        have t2 : (d == 0) = false := by simp; omega
        have t3 : (d == -1) = false := by simp; omega
        have t4 : d ≠ 0 := by omega
        have HO := Lib.hid hown
        have HB := Lib.hid hB
        have HTF := Lib.hid hTF
        have HD := Lib.hid hd
        have HM1 := Lib.hid (show i + 1 ≤ maxLen by unfold maxLen; omega)
        have HM2 := Lib.hid (show (i + 1) * 16 ≤ 140737488355328 by omega)
        have HB3 : Hid (w.heap.size ≤ (wr.alloc (.cells #[.int .i64 d, .int .i64 t] 112)).heap.size) := Lib.hid (by rw [World.size_alloc]; have := hB.size; omega)
        clear hown hB hTF hd hc hr hblk
        go_wp2_with (at_builtin; refine wpList_append_own _ rfl (.tmp 26) (.tmp 43) 110 rfl w.heap.size 112 i0 (.agg #[.int .i64 0, .int .i64 0]) 2 16 Tryd.underlying110 HI.out HZ0.out HZ1.out HZ2.out rfl (by decide) (.slice va i vc) i (mvCells (treeL (treeF zs) i)) rfl (HO.out.alloc _) ⟨wr.heap.size, 0, none⟩ 1 1 [.int .i64 d, .int .i64 t] rfl rfl (cells_newM _ _ _ _) (by simp [Value.oneCell']) HM1.out HM2.out HB3.out ?_; intro v5 w5 hown5 hgrow5 hnil5; obtain ⟨va5, vc5, rfl⟩ := own_shapeM hown5; replace hown5 := Lib.hid hown5; replace hgrow5 := Lib.hid hgrow5; clear hnil5)
        go_roundw
        case rel => exact ⟨i + 1, by omega, by have := HD.out; rw [show ((i + 1 : Nat) : Int) = d by omega], by rw [HNX.out, HTF.out, mvCells_next]; exact hown5.out, (HB.out.alloc HB.out.size _).grown hgrow5.out HB3.out (fun z hz => (HO.out.lt z hz).1)⟩
        case measure => have := HD.out; simp [intOf]; omega
      · obtain rfl : i = len := by omega
        obtain ⟨W0, rfl⟩ : ∃ W0 : World, W0 = wr := ⟨_, rfl⟩
        have t1 : decide (i < i) = false := by simp
        obtain ⟨va', vc', he, hrow⟩ := mrow_own hown
        cases he
        have hle2 := hrow.le
        have hmx := hrow.max
        unfold maxLen at hmx
        have hbt : ∀ j, j < i → 0 ≤ treeF zs j ∧ treeF zs j ≤ j := fun j _ => treeF_in zs j
        obtain ⟨out, ho, hol, hov, ho0, hod⟩ := order_tree (treeF zs) i 500 hbt
        obtain ⟨out2, ho2, _⟩ := order_tree (treeF zs) i 1001 hbt
        have hpl : ∀ m ∈ treeL (treeF zs) i, (isP m.1 = true ∧ isP m.2 = true) ∧ m.1 ≠ 500 ∧ m.2 ≠ 500 := fun m hm => by
          obtain ⟨j, hj, rfl⟩ := treeL_mem hm
          have := treeF_in zs j
          simp [isP]
          omega
        have K1 := Lib.hid (order_fine va i vc (treeL (treeF zs) i) 500 out 0 W0 hrow (by omega) (by decide) (fun m hm => (hpl m hm).1) (treeL_nodup _ _) ho (fun m hm => (hpl m hm).2))
        have HB := Lib.hid hB
        have HROW := Lib.hid hrow
        have HPL := Lib.hid hpl
        have HO2 := Lib.hid ho2
        have HOL := Lib.hid hol
        have HOV := Lib.hid hov
        have HO0 := Lib.hid ho0
        have HOD := Lib.hid hod
        clear hown hrow hB hbt hpl ho ho2 hol hov ho0 hod
        go_wp2_with fail
        refine K1.out.mono ?_
        rintro e w5 ⟨v5, rfl, hown5, hB5⟩
        have HOWN := Lib.hid hown5
        rw [HOL.out] at hown5
        obtain ⟨da, dc, rfl, hdone⟩ := mrow_own hown5
        have B5 := Lib.hid (HB.out.trans (hB5.mono HB.out.size))
        have HROW5 := Lib.hid (HROW.out.below hB5)
        have HD5 := Lib.hid hdone
        have hdl := hdone.le
        have hdm := hdone.max
        unfold maxLen at hdm
        have KC := Lib.hid (cycles_go va i vc (treeL (treeF zs) i) out2 0 w5 HROW5.out (by omega) (fun m hm => (HPL.out m hm).1) (treeL_nodup _ _) HO2.out)
        clear hB5 K1 hown5 hdone HOWN HROW
        go_wp2_with fail
        refine KC.out.mono ?_
        rintro e W ⟨rfl, hB6⟩
        have BW : Hid (Below w.heap.size w W) := Lib.hid (B5.out.trans (hB6.mono B5.out.size))
        have HROW6 := Lib.hid (HROW5.out.below hB6)
        have HD6 := Lib.hid (HD5.out.below hB6)
        have D0 : Hid (DoneRel out i W (.int .i64 0) (.slice none 0 0) W) := Lib.hid ⟨0, [], [], Nat.zero_le _, rfl, KV.nil _ _, Nat.le_refl _, fun q => rfl, Below.refl _ _⟩
        clear hB6 KC HROW5 HD5 B5 HB HL
        go_wp2_with fail
        go_loopw [9, 8] (fun s9 s8 wr => DoneRel out i W s9 s8 wr) (fun s9 _ _ => i - (intOf s9).toNat)
        case atStart => exact D0.out
        case round =>
          clear D0
          obtain ⟨k, ks, bs, hk, rfl, hKV, hkl, hlook, hB⟩ := hrel
          obtain ⟨ra, rc, rfl⟩ := own_shapeM hKV.own
          by_cases hlt : k < i
          · obtain ⟨b, off, rfl, hbl, hc⟩ := HD6.out.at_ (by omega)
            have hil : k < out.length := by rw [HOL.out]; exact hlt
            have cx : wr.cell? ⟨b, off + (k * 2 + 0), none⟩ = some (.int .i64 (out.getD k (0, 0)).1) := (hB.cell (p := ⟨b, off + (k * 2 + 0), none⟩) hbl).trans (hc k hlt).1
            have cy : wr.cell? ⟨b, off + (k * 2 + 1), none⟩ = some (.int .i64 (out.getD k (0, 0)).2) := (hB.cell (p := ⟨b, off + (k * 2 + 1), none⟩) hbl).trans (hc k hlt).2
            rw [Nat.add_zero] at cx
            rw [← Nat.add_assoc] at cy
            have t1 : decide (k < i) = true := by simpa using hlt
            have hvt := valM_take hil
            have hdd := HOD.out _ (mem_at hil)
            generalize out.getD k (0, 0) = m at *
            obtain ⟨x, y⟩ := m
            dsimp only at cx cy hvt hdd
            have t2 : (x == 500) = false := by simp; omega
            have KA := Lib.hid (fun n => at_any ra ks.length rc ks y (wr.drewN n) (hKV.kept fun _ _ => rfl))
            have KP := Lib.hid (fun n => put_any ra ks.length rc ks x (look ks y) (wr.drewN n) (hKV.kept fun _ _ => rfl) hB.size (by omega))
            have HLK := Lib.hid hlook
            have HVT := Lib.hid hvt
            have HB := Lib.hid hB
            have HKL := Lib.hid hkl
            clear hc hvt hdd hKV hkl hlook hB hil hbl
            go_wp2_with fail
            go_region_with (first | (go_at_call 84; refine (KA.out _).mono ?_; rintro e w' ⟨rfl, rfl⟩) | (go_at_call 83; refine (KP.out _).mono ?_; rintro e w9 ⟨v9, ks9, bs9, rfl, hKV9, hlk9, hkl9, hB9⟩))
            all_goals
              have HN9 : Hid (∀ q, look ks9 q = valM (out.take (k + 1)) q) := Lib.hid fun q => by
                rw [hlk9 q, HVT.out q, show look ks = valM (out.take k) from funext HLK.out]
              have HK9 := Lib.hid hKV9
              have HB9 := Lib.hid ((below_drewN HB.out _).trans hB9)
              obtain ⟨ra9, rc9, rfl⟩ := own_shapeM hKV9.own
              have HL9 := Lib.hid hkl9
              clear hlk9 hKV9 hB9 hkl9
              go_wp2_with fail
              go_roundw
              case rel => exact ⟨k + 1, ks9, bs9, by omega, by go_num, HK9.out, by have := HL9.out; have := HKL.out; omega, HN9.out, HB9.out⟩
              case measure => simp [intOf]; omega
          · obtain rfl : k = i := by omega
            obtain ⟨W3, rfl⟩ : ∃ W3 : World, W3 = wr := ⟨_, rfl⟩
            have t1 : decide (k < k) = false := by simp
            rw [List.take_of_length_le (by rw [HOL.out]; exact Nat.le_refl _)] at hlook
            have HKV := Lib.hid hKV
            have HLK := Lib.hid hlook
            have HB := Lib.hid hB
            have C0 : Hid (CheckRel k W3 (.int .i64 0) W3) := Lib.hid ⟨0, Nat.zero_le _, rfl, Below.refl _ _⟩
            have HRW := Lib.hid (HROW6.out.below hB)
            clear hKV hlook hB
            go_wp2_with fail
            go_loopw [10] (fun s10 wr => CheckRel k W3 s10 wr) (fun s10 _ => k - (intOf s10).toNat)
            case atStart => exact C0.out
            case round =>
              clear C0
              obtain ⟨j, hj, rfl, hB⟩ := hrel
              have hkv := HKV.out.kept (w' := wr) (fun z hz => hB.block z hz)
              by_cases hlt : j < k
              · obtain ⟨b, off, rfl, hbl, hc⟩ := HRW.out.at_ (by omega)
                have cx : wr.cell? ⟨b, off + (j * 2 + 0), none⟩ = some (.int .i64 ((treeL (treeF zs) k).getD j (0, 0)).1) := (hB.cell (p := ⟨b, off + (j * 2 + 0), none⟩) hbl).trans (hc j hlt).1
                have cy : wr.cell? ⟨b, off + (j * 2 + 1), none⟩ = some (.int .i64 ((treeL (treeF zs) k).getD j (0, 0)).2) := (hB.cell (p := ⟨b, off + (j * 2 + 1), none⟩) hbl).trans (hc j hlt).2
                rw [Nat.add_zero] at cx
                rw [← Nat.add_assoc] at cy
                rw [treeL_at _ _ _ hlt] at cx cy
                dsimp only at cx cy
                have t1 : decide (j < k) = true := by simpa using hlt
                have hv : look ks ((j : Int) + 1) = treeF zs j := (HLK.out _).trans (HOV.out j hlt)
                generalize treeF zs j = t at *
                generalize (j : Int) + 1 = x at cx hv
                have KA := Lib.hid (fun n => at_any ra ks.length rc ks x (wr.drewN n) (hkv.kept fun _ _ => rfl))
                rw [hv] at KA
                have HB2 := Lib.hid hB
                have t5 : (t != t) = false := by simp
                clear hc hv hkv hB hbl
                go_wp2_with fail
                go_region_with (go_at_call 84; refine (KA.out _).mono ?_; rintro e w' ⟨rfl, rfl⟩)
                all_goals
                  go_wp2_with fail
                  go_roundw
                  case rel => exact ⟨j + 1, by omega, by go_num, below_drewN HB2.out _⟩
                  case measure => simp [intOf]; omega
              · obtain rfl : j = k := by omega
                have t1 : decide (j < j) = false := by simp
                have KA := Lib.hid (at_any ra ks.length rc ks 0 wr hkv)
                rw [HLK.out 0, HO0.out] at KA
                have BF : Hid (Below w.heap.size w wr) := Lib.hid (BW.out.trans ((HB.out.trans (hB.mono HB.out.size)).mono BW.out.size))
                clear hkv hB
                go_wp2_with (go_at_call 84; refine KA.out.mono ?_; rintro e w' ⟨rfl, rfl⟩)
                go_ret
                exact ⟨rfl, BF.out⟩

end Go.Proofs.YtbpamcgmhnnmnaaDoor

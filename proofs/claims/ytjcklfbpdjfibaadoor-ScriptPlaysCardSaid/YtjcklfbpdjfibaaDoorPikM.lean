/-
  The law on a script that is asked for safepoints: true, whatever comes.
-/
import Derived.Test.YtjcklfbpdjfibaaDoorPikL
import Derived.Deep.CutBlock
namespace Go.Proofs.YtjcklfbpdjfibaaDoor
open Go.RowKit

def PlRel (w : World) (q c : Nat) (gv : Nat → Nat → Int) (len np : Nat) (sl si : Value) (wr : World) : Prop :=
  ∃ (i pos : Nat) (last next : Int), i ≤ np ∧ si = .int .i64 i ∧ sl = .int .i64 last ∧ Cut gv len last pos ∧ Scr q c gv len pos next wr ∧ NextIs len pos last next ∧ Below w.heap.size w wr

/-- The picks wanted, of the first k. -/
def WaRel (W1 : World) (gv : Nat → Nat → Int) (len : Nat) (p : Int) (sw sk : Value) (wr : World) : Prop :=
  ∃ k : Nat, k ≤ len ∧ sk = .int .i64 k ∧ wr.ownsRow W1.heap.size 107 4 sw (eqn gv p k) (eqs gv p k) ∧ Below W1.heap.size W1 wr

/-- Behind what is wanted: last, and the picks wanted. -/
def MidRel (W1 : World) (gv : Nat → Nat → Int) (len pos' : Nat) (next' : Int) (n : Nat) (xs : List Value) (sl sw : Value) (wr : World) : Prop :=
  ∃ last, sl = .int .i64 last ∧ Cut gv len last pos' ∧ NextIs len pos' last next' ∧ wr.ownsRow W1.heap.size 107 4 sw n xs ∧ Below W1.heap.size W1 wr

def GoRel (W3 : World) (B : Nat) (v : Value) (n : Nat) (sk : Value) (wr : World) : Prop :=
  ∃ (k : Nat) (xs : List Value), k ≤ n ∧ sk = .int .i64 k ∧ wr.ownsRow B 107 4 v n xs ∧ W3.grownBy wr v.ownBlock

set_option maxHeartbeats 8000000 in
set_option maxRecDepth 100000 in
theorem plays_fair (a : Nat → Addr) (ad : Option Addr) (len cap : Nat) (gv : Nat → Nat → Int) (pa : Option Addr) (np pc : Nat) (zs : List Int) (w : World) (hp : Picks w ad len cap gv) (hr : Row .i64 w pa np pc zs) (hS : Sents4 a w) (h400 : len ≤ 400) (h60 : np ≤ 60) (hf : FairP gv len) :
    Calls Tryd.prog 11 #[.slice ad len cap, .slice pa np pc] w (TruePost w) := by
  have H := Lib.hid hS
  have HP := Lib.hid hp
  have HR := Lib.hid hr
  have HF := Lib.hid hf
  obtain ⟨i0, hi, hz0, hz1, hz2⟩ := info_parts pickinfoG
  have HI := Lib.hid hi
  have HZ0 := Lib.hid hz0
  have HZ1 := Lib.hid hz1
  have HZ2 := Lib.hid hz2
  clear hS hp hr hf hi hz0 hz1 hz2
  have d1 : decide ((400 : Int) < (len : Int)) = false := by simp; omega
  have d2 : decide ((60 : Int) < (np : Int)) = false := by simp; omega
  go_enter Tryd.func11, Tryd.ntmps11
  go_wp2_with fail
  refine (sfirst4 a _ H.out).mono ?_
  rintro e w1 ⟨rfl, hb1⟩
  have HB1 := Lib.hid hb1
  have HS1 := Lib.hid (H.out.below hb1)
  have HP1 := Lib.hid (HP.out.below hb1)
  clear hb1 H
  go_wp2_with fail
  refine (new_fair a _ len cap gv _ HS1.out HP1.out h400 HF.out).mono ?_
  rintro e w2 ⟨q, v, rfl, hbox, hown, hne, hq, hb2⟩
  have HB2 : Hid (Below w.heap.size w w2) := Lib.hid (HB1.out.trans (hb2.mono HB1.out.size))
  have HP2 := Lib.hid (HP1.out.below hb2)
  obtain ⟨c, hs⟩ := scr_start hbox hown hne
  have HSC := Lib.hid hs
  have hqw : w.heap.size ≤ q := Nat.le_trans HB1.out.size hq
  have HQ := Lib.hid hqw
  clear hbox hown hne hb2 hs HS1 HB1 HP1 hq hqw
  go_wp2_with fail
  refine (ref_may _ len cap gv len _ HP2.out h400 (Nat.le_refl _) HF.out (fun h => absurd h (Nat.lt_irrefl _))).mono ?_
  rintro e w3 ⟨C, sa, sn, sc, rfl, hC, _, hb3⟩
  obtain rfl := hC rfl
  have EF := Lib.hid (show (Instr.field 53 (.agg #[.int .i64 0, .slice sa sn sc]) 0).run Tryd.prog w3 = .ok (.int .i64 0) w3 from by kernel_rfl)
  have HB3 : Hid (Below w.heap.size w w3) := Lib.hid (HB2.out.trans (hb3.mono HB2.out.size))
  have R0 : Hid (PlRel w q c gv len np (.int .i64 (-1)) (.int .i64 ((0 : Nat) : Int)) w3) := Lib.hid ⟨0, 0, -1, 0, Nat.zero_le _, rfl, rfl, cut_start HF.out, HSC.out.below hb3, .inl rfl, HB3.out⟩
  clear hb3 hC HP2 HB2 HSC
  go_wp2_with (rw [EF.out])
  go_loopw [8, 9] (fun sl si wr => PlRel w q c gv len np sl si wr) (fun _ si _ => np - (intOf si).toNat)
  case atStart => exact R0.out
  case round =>
    obtain ⟨i, pos, last, next, hi, rfl, rfl, hcut, hsc, hnx, hb⟩ := hrel
    clear R0 HB3
    have HB := Lib.hid hb
    have HSC := Lib.hid hsc
    have HQC : Hid (w.heap.size ≤ wr.heap.size ∧ q < wr.heap.size ∧ (0 < len → c < wr.heap.size)) := Lib.hid ⟨hb.size, by obtain ⟨_, _, hb, _⟩ := hsc; exact hb.lt, fun h0 => by obtain ⟨_, _, _, _, _, _, _, h5⟩ := hsc; exact World.block_lt_of_cell? wr _ (h5 0 0 h0 (by omega))⟩
    by_cases hlt : i < np
    · have t1 : decide (i < np) = true := by simpa using hlt
      obtain ⟨pb, po, rfl, hpc⟩ := Row_at (Row_cells HR.out hb) (by omega)
      have kp := hpc i hlt
      have hwf := wf_i64 (HR.out.wf (zs.getD i 0) (by
        have hl := HR.out.len_eq
        rw [List.getD_eq_getElem?_getD, List.getElem?_eq_getElem (by omega)]
        exact List.getElem_mem _))
      generalize zs.getD i 0 = p at *
      have HAT := Lib.hid (at_any q c gv len pos last next p wr hsc HF.out h400 hcut hnx hwf)
      clear hpc hcut hsc hnx hb hwf
      go_wp2_with fail
      refine HAT.out.mono ?_
      rintro e w4 ⟨pos', next', ga, n, gc, xs, rfl, hS', hO', hg', hnl, hints, hyes, hno⟩
      have HS4 := Lib.hid hS'
      have HO4 := Lib.hid hO'
      have hb4 : Below w.heap.size w w4 := HB.out.grown hg' HB.out.size (fun k hk => by cases hk; exact HQ.out)
      have HB4 := Lib.hid hb4
      have HY := Lib.hid hyes
      have HN := Lib.hid hno
      have HIN := Lib.hid hints
      clear hS' hO' hg' hb4 hyes hno hints HAT kp
      go_upto_if 67 with (fail)
      go_cut [8, 12] (fun sl sw wx => MidRel w4 gv len pos' next' n xs sl sw wx)
      case first =>
        by_cases hlp : last < p
        · have t2 : decide (last < p) = true := by simpa using hlp
          obtain ⟨hy1, hy2, hy3, hy4⟩ := HY.out hlp
          have HY1 := Lib.hid hy1
          have HY2 := Lib.hid hy2
          have HY3 := Lib.hid hy3
          have HY4 := Lib.hid hy4
          have R1 : Hid (WaRel w4 gv len p (.slice none 0 0) (.int .i64 ((0 : Nat) : Int)) w4) := Lib.hid ⟨0, Nat.zero_le _, rfl, World.ownsRow_nil _ _ _ _, Below.refl _ _⟩
          clear hy1 hy2 hy3 hy4
          go_wp2_with fail
          rw [t2]
          clear hlp t2
          go_loopw [12, 14] (fun sw sk wx => WaRel w4 gv len p sw sk wx) (fun _ sk _ => len - (intOf sk).toNat)
          case atStart => exact R1.out
          case round =>
            obtain ⟨k, hk, rfl, hown, hb⟩ := hrel
            clear R1
            have HO := Lib.hid hown
            have HBW := Lib.hid hb
            clear hown hb
            by_cases hkl : k < len
            · have t3 : decide (k < len) = true := by simpa using hkl
              have hbx : Below w.heap.size w wr := HB4.out.trans (HBW.out.mono HB4.out.size)
              obtain ⟨lb, lo, rfl, hlb, hc⟩ := Picks_at HP.out (by omega)
              have hcell : ∀ j, j < 4 → wr.cell? ⟨lb, lo + (k * 4 + j), none⟩ = some (.int .i64 (gv k j)) := fun j hj => (hbx.cell (p := ⟨lb, lo + (k * 4 + j), none⟩) hlb).trans (hc k j hkl hj)
              have k0 := hcell 0 (by omega)
              have k1 := hcell 1 (by omega)
              have k2 := hcell 2 (by omega)
              have k3 := hcell 3 (by omega)
              rw [Nat.add_zero] at k0
              rw [← Nat.add_assoc] at k1 k2 k3
              have HEQ : Hid (gv k 0 = p → eqn gv p (k + 1) = eqn gv p k + 1 ∧ eqs gv p (k + 1) = eqs gv p k ++ [.int .i64 (gv k 0), .int .i64 (gv k 1), .int .i64 (gv k 2), .int .i64 (gv k 3)]) := Lib.hid fun h => ⟨by rw [eqn, if_pos h], by rw [eqs, if_pos h]; rfl⟩
              have HNE : Hid (gv k 0 ≠ p → eqn gv p (k + 1) = eqn gv p k ∧ eqs gv p (k + 1) = eqs gv p k) := Lib.hid fun h => ⟨by rw [eqn, if_neg h], by rw [eqs, if_neg h]⟩
              clear hcell hc hbx
              generalize gv k 0 = T at *
              generalize gv k 1 = K at *
              generalize gv k 2 = A at *
              generalize gv k 3 = B at *
              by_cases hxp : T = p
              · have t4 : (T == p) = true := by simpa using hxp
                have HE := Lib.hid (HEQ.out hxp)
                have hel := eqn_le gv p k
                have hn1 : Hid (eqn gv p k + 1 ≤ maxLen) := Lib.hid (by unfold maxLen; omega)
                have hn2 : Hid ((eqn gv p k + 1) * 32 ≤ 140737488355328) := Lib.hid (by omega)
                have HNW := Lib.hid (news_fourG wr T K A B)
                have hoc : Hid (∀ u ∈ ([.int .i64 T, .int .i64 K, .int .i64 A, .int .i64 B] : List Value), u.oneCell' = true) := Lib.hid (by simp [Value.oneCell'])
                have hoa := Lib.hid (HO.out.alloc (.cells #[.int .i64 T, .int .i64 K, .int .i64 A, .int .i64 B] 107))
                have hsz : Hid (w4.heap.size ≤ (wr.alloc (.cells #[.int .i64 T, .int .i64 K, .int .i64 A, .int .i64 B] 107)).heap.size) := Lib.hid (by have := HBW.out.size; simp; omega)
                clear hxp hel HEQ HNE
                generalize eqn gv p k = m at *
                generalize eqs gv p k = ys at *
                go_upto_region 20 with (at_builtin; refine wpList_append_own _ rfl (.tmp 81) (.tmp 86) 88 rfl w4.heap.size 107 i0 (.agg #[.int .i64 0, .int .i64 0, .int .i64 0, .int .i64 0]) 4 32 Tryd.underlying88 HI.out HZ0.out HZ1.out HZ2.out rfl (by decide) _ m ys rfl hoa.out ⟨wr.heap.size, 0, none⟩ 1 1 [.int .i64 T, .int .i64 K, .int .i64 A, .int .i64 B] rfl rfl HNW.out hoc.out hn1.out hn2.out hsz.out ?_; intro v5 w5 hown5 hgrow5 hnil5)
                have HW5 : Hid (w5.ownsRow w4.heap.size 107 4 v5 (eqn gv p (k + 1)) (eqs gv p (k + 1))) := Lib.hid (by rw [HE.out.1, HE.out.2]; exact hown5)
                have HB5 := Lib.hid ((HBW.out.alloc HBW.out.size _).grown hgrow5 hsz.out (fun k hk => (HO.out.lt k hk).1))
                clear hnil5 hown5 hgrow5 HNW hoa k0 k1 k2 k3
                go_wp2_with fail
                go_roundw
                case rel => exact ⟨k + 1, by omega, by go_num, HW5.out, HB5.out⟩
                case measure => simp [intOf]; omega
              · have t4 : (T == p) = false := by simpa using hxp
                have HE := Lib.hid (HNE.out hxp)
                clear hxp HEQ HNE
                go_wp2_with fail
                go_roundw
                case rel => exact ⟨k + 1, by omega, by go_num, by rw [HE.out.1, HE.out.2]; exact HO.out, HBW.out⟩
                case measure => simp [intOf]; omega
            · obtain rfl : k = len := by omega
              have t3 : decide (k < k) = false := by simp
              go_wp2_with fail
              go_meet
              exact ⟨p, rfl, HY1.out, HY2.out, by rw [HY3.out, HY4.out]; exact HO.out, HBW.out⟩
        · have t2 : decide (last < p) = false := by simpa using hlp
          obtain ⟨hy1, hy2, rfl, rfl⟩ := HN.out (by omega)
          have R1 : Hid (MidRel w4 gv len pos' next' 0 [] (.int .i64 last) (.slice none 0 0) w4) := Lib.hid ⟨last, rfl, hy1, hy2, World.ownsRow_nil _ _ _ _, Below.refl _ _⟩
          clear hy1 hy2
          go_wp2_with fail
          go_meet
          exact R1.out
      case rest =>
        obtain ⟨last', rfl, hcut, hnx, hown, hbx⟩ := hcut
        have HC2 := Lib.hid hcut
        have HX2 := Lib.hid hnx
        have HO2 := Lib.hid hown
        have HBX := Lib.hid hbx
        have HBW : Hid (Below w.heap.size w _) := Lib.hid (HB4.out.trans (hbx.mono HB4.out.size))
        have HS5 := Lib.hid (HS4.out.below hbx)
        have HO5 := Lib.hid (own_belowG HO4.out hbx)
        clear hcut hnx hown hbx HY HN HS4 HO4
        go_wp2_with fail
        have R2 : Hid (∃ k : Nat, k ≤ len ∧ (.int .i64 0 : Value) = .int .i64 k ∧ (.int .i64 0 : Value) = .int .i64 ((leftOf pos' k : Nat) : Int)) := Lib.hid ⟨0, Nat.zero_le _, rfl, by simp [leftOf]⟩
        go_loop [13, 15] (fun sl sk => ∃ k : Nat, k ≤ len ∧ sk = .int .i64 k ∧ sl = .int .i64 ((leftOf pos' k : Nat) : Int)) (fun _ sk => len - (intOf sk).toNat)
        case atStart => exact R2.out
        case round =>
          obtain ⟨k, hk, rfl, rfl⟩ := hrel
          clear R2
          by_cases hkl : k < len
          · have t3 : decide (k < len) = true := by simpa using hkl
            obtain ⟨lb, lo, rfl, hlb, hc⟩ := Picks_at HP.out (by omega)
            have k0 := (HBW.out.cell (p := ⟨lb, lo + (k * 4 + 0), none⟩) hlb).trans (hc k 0 hkl (by omega))
            rw [Nat.add_zero] at k0
            have hln := left_next HC2.out hkl
            have HLN := Lib.hid hln
            have HLL := Lib.hid (show leftOf pos' k ≤ 400 by unfold leftOf; omega)
            clear hc hln
            generalize gv k 0 = T at *
            generalize hLv : leftOf pos' k = L at *
            have HLV := Lib.hid hLv
            clear hLv
            by_cases hx : last' < T
            · have t4 : decide (last' < T) = true := by simpa using hx
              have HE := Lib.hid (HLN.out.1 hx)
              have hll := HLL.out
              clear HLN HLL
              go_wp2_with fail
              go_round
              case rel => exact ⟨k + 1, by omega, by go_num, by rw [HE.out]; go_num⟩
              case measure => simp [intOf]; omega
            · have t4 : decide (last' < T) = false := by simpa using hx
              have HE := Lib.hid (HLN.out.2 hx)
              clear HLN HLL
              go_wp2_with fail
              go_round
              case rel => exact ⟨k + 1, by omega, by go_num, by rw [HE.out]⟩
              case measure => simp [intOf]; omega
          · obtain rfl : k = len := by omega
            have t3 : decide (k < k) = false := by simp
            obtain ⟨wa, wc, hwv⟩ := own_shape HO2.out
            have ho2 := HO2.out
            rw [hwv] at ho2
            have hlen := HO5.out.1
            obtain ⟨_, _, he1, hp1⟩ := picks_ownG (gv := fun i j => numOf xs (i * 4 + j)) HO5.out (fun i j hi hj => numOf_eq HIN.out (by omega))
            obtain ⟨_, _, he2, hp2⟩ := picks_ownG (gv := fun i j => numOf xs (i * 4 + j)) ho2 (fun i j hi hj => numOf_eq HIN.out (by omega))
            cases he1
            cases he2
            have SM := Lib.hid (same_picks _ _ n _ _ _ _ hp1 hp2 (by omega))
            clear ho2 hlen hp1 hp2 HO2
            subst hwv
            obtain ⟨L, hL⟩ : ∃ L, leftOf pos' k = L := ⟨_, rfl⟩
            rw [hL]
            have hL2 : k - pos' = L := hL
            have HL := Lib.hid hL2
            clear hL hL2
            go_wp2_with fail
            refine SM.out.mono ?_
            rintro e w6 ⟨rfl, hb6⟩
            have hs6 := HS5.out.below hb6
            have HS6 := Lib.hid hs6
            have HO6 := Lib.hid (own_belowG HO5.out hb6)
            have HB6 : Hid (Below w.heap.size w w6) := Lib.hid (HBW.out.trans (hb6.mono HBW.out.size))
            obtain ⟨adr, cp, hbx6, _⟩ := hs6
            rw [HL.out] at hbx6
            have LF := Lib.hid (left_any q adr L cp next' w6 hbx6)
            clear hb6 hbx6 SM
            go_wp2_with fail
            refine LF.out.mono ?_
            rintro e w7 ⟨rfl, rfl⟩
            have R3 : Hid (GoRel w6 wr.heap.size (.slice ga n gc) n (.int .i64 ((0 : Nat) : Int)) w6) := Lib.hid ⟨0, xs, Nat.zero_le _, rfl, HO6.out, World.grownBy.refl _ _⟩
            clear LF
            go_wp2_with fail
            go_loopw [16] (fun sk wy => GoRel w6 wr.heap.size (.slice ga n gc) n sk wy) (fun sk _ => n - (intOf sk).toNat)
            case atStart => exact R3.out
            case round =>
              obtain ⟨j, ys, hj, rfl, hown, hg⟩ := hrel
              clear R3
              by_cases hjn : j < n
              · have t5 : decide (j < n) = true := by simpa using hjn
                obtain ⟨g, rfl⟩ : ∃ g, ga = some ⟨g, 0, none⟩ := by
                  rcases hown.2 with ⟨_, h0⟩ | ⟨g, cap, cur, hv, _⟩
                  · omega
                  · cases hv; exact ⟨g, rfl⟩
                have hlen := hown.1
                obtain ⟨u, hu⟩ : ∃ u, ys[j * 4]? = some u := ⟨_, List.getElem?_eq_getElem (by omega)⟩
                have k0 := (hown.cellAt (j * 4) (by omega)).trans hu
                have f0 := hown.frozenAt (j * 4)
                have hst := hown.stored (j * 4) (.int .i64 (-9))
                have hgt := grown_trans (q := g) hg hst.2 (fun k hk => .inl (by cases hk; rfl))
                have HST := Lib.hid hst.1
                have HGT := Lib.hid hgt
                clear hown hg hst hgt hlen hu
                go_wp2_with fail
                go_roundw
                case rel => exact ⟨j + 1, _, by omega, by go_num, HST.out, HGT.out⟩
                case measure => simp [intOf]; omega
              · obtain rfl : j = n := by omega
                have t5 : decide (j < j) = false := by simp
                have hfin : Scr q c gv k pos' next' wr ∧ Below w.heap.size w wr := by
                  refine ⟨HS6.out.kept hg (fun e => ?_) (fun h0 e => ?_), HB6.out.grown hg HB6.out.size (fun x hx => ?_)⟩
                  · have := (HO6.out.lt q e).1; have := HQC.out.2.1; omega
                  · have := (HO6.out.lt c e).1; have := HQC.out.2.2 h0; omega
                  · have := (HO6.out.lt x hx).1; have := HQC.out.1; omega
                have HFIN := Lib.hid hfin
                clear hown hg hfin
                go_wp2_with fail
                go_roundw
                case rel => exact ⟨i + 1, pos', last', next', by omega, by go_num, rfl, HC2.out, HFIN.out.1, HX2.out, HFIN.out.2⟩
                case measure => simp [intOf]; omega
    · obtain rfl : i = np := by omega
      have t1 : decide (i < i) = false := by simp
      clear hcut hsc hnx hb
      go_wp2_with fail
      go_ret
      exact ⟨rfl, HB.out⟩

/-- A list that may not be: New refuses it, and so does the reference. -/
theorem plays_unfair (a : Nat → Addr) (ad : Option Addr) (len cap : Nat) (gv : Nat → Nat → Int) (n : Nat) (pa : Option Addr) (np pc : Nat) (w : World) (hp : Picks w ad len cap gv) (hS : Sents4 a w) (h400 : len ≤ 400) (h60 : np ≤ 60) (hn : n < len) (hok : ∀ i, i < n → codeAt gv i = 0) (hbad : codeAt gv n ≠ 0) :
    Calls Tryd.prog 11 #[.slice ad len cap, .slice pa np pc] w (TruePost w) := by
  have H := Lib.hid hS
  have HP := Lib.hid hp
  have HOK := Lib.hid hok
  have HBAD := Lib.hid hbad
  clear hS hp hok hbad
  have d1 : decide ((400 : Int) < (len : Int)) = false := by simp; omega
  have d2 : decide ((60 : Int) < (np : Int)) = false := by simp; omega
  go_enter Tryd.func11, Tryd.ntmps11
  go_wp2_with fail
  refine (sfirst4 a _ H.out).mono ?_
  rintro e w1 ⟨rfl, hb1⟩
  have HB1 := Lib.hid hb1
  have HS1 := Lib.hid (H.out.below hb1)
  have HP1 := Lib.hid (HP.out.below hb1)
  clear hb1 H
  go_wp2_with fail
  refine (new_unfair a _ len cap gv n _ HS1.out HP1.out h400 hn HOK.out HBAD.out).mono ?_
  rintro e w2 ⟨q, rfl, hb2⟩
  have HB2 : Hid (Below w.heap.size w w2) := Lib.hid (HB1.out.trans (hb2.mono HB1.out.size))
  have HP2 := Lib.hid (HP1.out.below hb2)
  clear hb2 HS1 HB1 HP1
  go_wp2_with fail
  refine (ref_may _ len cap gv n _ HP2.out h400 (by omega) HOK.out (fun _ => HBAD.out)).mono ?_
  rintro e w3 ⟨C, sa, sn, sc, rfl, _, hC, hb3⟩
  have hc0 := hC hn
  have t1 : (C == 0) = false := by simpa using hc0
  have t2 : (C != 0) = true := by simpa using hc0
  have EF := Lib.hid (show (Instr.field 53 (.agg #[.int .i64 C, .slice sa sn sc]) 0).run Tryd.prog w3 = .ok (.int .i64 C) w3 from by kernel_rfl)
  have HB3 : Hid (Below w.heap.size w w3) := Lib.hid (HB2.out.trans (hb3.mono HB2.out.size))
  clear hb3 hC hc0 HP2 HB2
  go_wp2_with (rw [EF.out])
  go_ret
  exact ⟨rfl, HB3.out⟩

/-- A list that is too long: the law says what first says. -/
theorem plays_long (a : Nat → Addr) (ad : Option Addr) (len cap : Nat) (pa : Option Addr) (np pc : Nat) (w : World) (hS : Sents4 a w) (_hm : cap ≤ maxLen) (_hl : len ≤ cap) (_hm2 : pc ≤ maxLen) (_hl2 : np ≤ pc) (h : ¬ (len ≤ 400 ∧ np ≤ 60)) :
    Calls Tryd.prog 11 #[.slice ad len cap, .slice pa np pc] w (TruePost w) := by
  have H := Lib.hid hS
  clear hS
  unfold maxLen at _hm _hm2
  by_cases h400 : len ≤ 400
  · have d1 : decide ((400 : Int) < (len : Int)) = false := by simp; omega
    have d2 : decide ((60 : Int) < (np : Int)) = true := by simp; omega
    clear h
    go_enter Tryd.func11, Tryd.ntmps11
    go_wp2_with fail
    refine (sfirst4 a _ H.out).mono ?_
    rintro e w1 ⟨rfl, hB1⟩
    have B1 := Lib.hid hB1
    clear hB1
    go_wp2_with fail
    go_ret
    exact ⟨rfl, B1.out⟩
  · have d1 : decide ((400 : Int) < (len : Int)) = true := by simp; omega
    clear h
    go_enter Tryd.func11, Tryd.ntmps11
    go_wp2_with fail
    refine (sfirst4 a _ H.out).mono ?_
    rintro e w1 ⟨rfl, hB1⟩
    have B1 := Lib.hid hB1
    clear hB1
    go_wp2_with fail
    go_ret
    exact ⟨rfl, B1.out⟩

theorem splays_main (ad : Option Addr) (len cap : Nat) (gv : Nat → Nat → Int) (pa : Option Addr) (np pc : Nat) (zs : List Int) (w : World) (hp : Picks w ad len cap gv) (hr : Row .i64 w pa np pc zs) (hL : laidMetH Tryd.prog Rows.scriptPlaysRow.laid w) :
    Calls Tryd.prog 11 #[.slice ad len cap, .slice pa np pc] w (TruePost w) := by
  obtain ⟨a, hS⟩ := sents4_of_laid (show (texts4.map mkSent : List (String × DataW Unit)) = Rows.scriptPlaysRow.laid from rfl) (by kernel_rfl) hL
  by_cases h : len ≤ 400 ∧ np ≤ 60
  · obtain ⟨n, h1, h2, h3⟩ := first_bad gv len
    by_cases e : n < len
    · exact plays_unfair a ad len cap gv n pa np pc w hp hS h.1 h.2 e h2 (h3 e)
    · obtain rfl : n = len := by omega
      exact plays_fair a ad n cap gv pa np pc zs w hp hr hS h.1 h.2 h2
  · exact plays_long a ad len cap pa np pc w hS hp.max hp.le hr.max hr.le h

end Go.Proofs.YtjcklfbpdjfibaaDoor

/-
  The law on orders.
-/
import Derived.Test.YtchechdcebmoeaaDoorOrdP
import Derived.Test.YtchechdcebmoeaaDoorFwF
import Derived.Test.YtchechdcebmoeaaDoorFwH
import Derived.Test.YtchechdcebmoeaaDoorTabB
import Derived.Deep.QuietTactic
import Derived.BigQuiet
namespace Go.Proofs.YtchechdcebmoeaaDoor
open Go.RowKit

def Ord1 (ab n : Nat) (W : World) (s8 : Value) (wr : World) : Prop := ∃ i : Nat, i ≤ n ∧ s8 = .int .i64 i ∧ AtR ab n (fun k => if k < i then -1 else 0) wr ∧ Below W.heap.size W wr
def Ord2 (ab n m : Nat) (o : List Nat) (W : World) (s9 : Value) (wr : World) : Prop := ∃ i : Nat, i ≤ m ∧ s9 = .int .i64 i ∧ AtR ab n (posF o i) wr ∧ Below W.heap.size W wr
def Ord3 (n : Nat) (W : World) (s10 : Value) (wr : World) : Prop := ∃ i : Nat, i ≤ n ∧ s10 = .int .i64 i ∧ Below W.heap.size W wr
def Ord5 (lo : List (Nat × Nat)) (L i y : Nat) (W : World) (s13 s14 : Value) (wr : World) : Prop := ∃ q : Nat, q ≤ L ∧ s14 = .int .i64 q ∧ s13 = .bool (decide ((i, y) ∈ lo.take q)) ∧ Below W.heap.size W wr

theorem take_mem (lo : List (Nat × Nat)) (q : Nat) (h : q < lo.length) (p : Nat × Nat) : p ∈ lo.take (q + 1) ↔ p ∈ lo.take q ∨ p = lo.getD q (0, 0) := by
  have e : lo.take (q + 1) = lo.take q ++ [lo.getD q (0, 0)] := by rw [List.take_add_one, List.getElem?_eq_getElem h]; simp [List.getD, h]
  rw [e, List.mem_append, List.mem_singleton]

set_option maxHeartbeats 16000000 in
set_option maxRecDepth 100000 in
theorem orders_law (a : Option Addr) (len cap : Nat) (g : List (List Int)) (w : World) (hg : Grfs w a len cap g) (hT : TabOk w) :
    Calls Tryd.prog 8 #[.slice a len cap] w (TruePost w) := by
  have K1 := Lib.hid (ffirst w hT)
  unfold TruePost at K1
  have hle := hg.grf.le
  have hmax := hg.grf.max
  unfold maxLen at hmax
  have hnl : g.length = len := hg.grf.len_eq
  have HN := Lib.hid hnl
  have HG := Lib.hid hg
  obtain ⟨i0, hi, hz0, hz1, hz2⟩ := info_parts intinfoW
  have HI := Lib.hid hi
  have HZ0 := Lib.hid hz0
  have HZ1 := Lib.hid hz1
  have HZ2 := Lib.hid hz2
  clear hT hi hz0 hz1 hz2 hg hnl
  go_enter Tryd.func8, Tryd.ntmps8
  go_wp2_with fail
  refine K1.out.mono ?_
  rintro e w1 ⟨rfl, hb1⟩
  have HB1 := Lib.hid hb1
  have KL := Lib.hid (lightG_any a len cap g w1 ⟨HG.out.grf.below hb1, HG.out.size⟩)
  unfold LgtPost at KL
  clear hb1 K1
  go_wp2_with fail
  refine KL.out.mono ?_
  rintro e w1' ⟨d, rfl, rfl, hd⟩
  cases d with
  | false =>
    clear KL hd
    go_wp2_with fail
    go_ret
    exact ⟨rfl, HB1.out⟩
  | true =>
    by_cases hl0 : len = 0
    · have t0 : ((len : Int) == 0) = true := by simp; omega
      clear KL hd
      go_wp2_with fail
      go_ret
      exact ⟨rfl, HB1.out⟩
    · have t0 : ((len : Int) == 0) = false := by simp; omega
      have hsm := hd rfl
      have hl60 : len ≤ 60 := by rw [← HN.out]; exact hsm.len
      have hg1 := HG.out.grf.below HB1.out
      have hmu := hsm.mu
      have hdg : ∀ v, degW g v ≤ 1000000 := fun v => by have := hsm.deg v; omega
      have h0 : 0 < g.length := by rw [HN.out]; omega
      have OK := Lib.hid (ord_ok g h0)
      have HSM := Lib.hid hsm
      have KO := Lib.hid (orderW_any a cap g (muW g beginW + 1) w1 (by rw [HN.out]; exact hg1) (by rw [HN.out]; omega) (Nat.le_refl _) (by omega) hdg)
      have KLo : Hid (∀ w', Below w1.heap.size w1 w' → Calls Tryd.prog 55 #[.slice a len cap] w' (LoopsPost g w')) := Lib.hid fun w' hb' => by
        have := loops_any a cap g (muW g beginW + 1) w' (by rw [HN.out]; exact hg1.below hb') (by rw [HN.out]; omega) (Nat.le_refl _) (by omega) hdg (.inr (walk_ok g h0))
        rw [HN.out] at this
        exact this
      have KR : Hid (∀ w', Below w1.heap.size w1 w' → Calls Tryd.prog 50 #[.slice a len cap] w' (ReachPost g w')) := Lib.hid fun w' hb' => by
        have := reachW_any a cap g (muW g beginW + 1) w' (by rw [HN.out]; exact hg1.below hb') (by rw [HN.out]; omega) (Nat.le_refl _) (by omega) hdg
        rw [HN.out] at this
        exact this
      unfold OrderWPost at KO
      unfold LoopsPost at KLo
      unfold ReachPost at KR
      rw [HN.out] at KO KR
      have hrl : (walkW g).left.length = (walkW g).left.reverse.length := by simp
      rw [hrl] at KO
      obtain ⟨o, ho⟩ : ∃ o, (walkW g).left.reverse = o := ⟨_, rfl⟩
      obtain ⟨lo, hlo⟩ : ∃ lo, dedE (walkW g).loops = lo := ⟨_, rfl⟩
      obtain ⟨st, hst⟩ : ∃ st, (walkW g).st = st := ⟨_, rfl⟩
      rw [ho] at KO OK
      rw [hlo] at KLo OK
      rw [hst] at KR OK
      clear KL hd hsm hg1 hmu hdg h0 hrl ho hlo hst
      go_wp2_with fail
      refine KO.out.mono ?_
      rintro e w2 ⟨v, rfl, hown2, hb2⟩
      have HB2 := Lib.hid hb2
      have hown2' : w2.ownsRow w1.heap.size 3 1 v o.length ((o.map fun x : Nat => (x : Int)).map (Value.int .i64)) := by rw [List.map_map]; exact hown2
      obtain ⟨oa, oc, rfl, hor⟩ := row_of_owns hown2' (fun x hx => by
        obtain ⟨y, hy, rfl⟩ := List.mem_map.1 hx
        have := OK.out.lt y hy
        have := HN.out
        exact wf64 (by omega) (by omega))
      have HOR := Lib.hid hor
      have hol := hor.le
      have hom := hor.max
      unfold maxLen at hom
      have K3 := Lib.hid (KLo.out w2 hb2)
      clear hown2 hown2' hor hb2 KO KLo
      go_wp2_with fail
      refine K3.out.mono ?_
      rintro e w3 ⟨bs, lv, rfl, hkv, hb3⟩
      obtain ⟨la, lc, rfl⟩ := own_shapeM hkv.own
      have hpl : (pairsZ lo).length = lo.length := by simp [pairsZ]
      rw [hpl] at hkv ⊢
      have hlcm := hkv.len_le
      rw [hpl] at hlcm
      have hlc1 := hlcm.2.1
      have hlc2 := hlcm.2.2
      unfold maxLen at hlc2
      have HKV := Lib.hid hkv
      have HB3 := Lib.hid (HB2.out.trans (hb3.mono HB2.out.size))
      have HB3' := Lib.hid hb3
      have K4 := Lib.hid (KR.out w3 HB3.out)
      clear hpl hkv hb3 K3 KR hlcm
      go_wp2_with fail
      refine K4.out.mono ?_
      rintro e w4 ⟨rb, rfl, hsee, hb4⟩
      have HSE := Lib.hid hsee
      have HB4 := Lib.hid (HB3.out.trans (hb4.mono HB3.out.size))
      have HB4' := Lib.hid hb4
      have HM := Lib.hid (show len ≤ maxLen by unfold maxLen; omega)
      have HMB := Lib.hid (show 8 * len ≤ 281474976710656 by omega)
      clear hsee hb4 K4
      go_wp2_with (at_make; refine wpList_make_len _ rfl (.tmp 36) (.tmp 36) 26 rfl w4.heap.size 3 i0 (.int .i64 0) 8 Tryd.underlying26 HI.out HZ0.out HZ1.out HZ2.out rfl .i64 .i64 _ _ len len rfl rfl (by simp) (by simp) (Nat.le_refl _) HMB.out HM.out (Nat.le_refl _) ?_; intro w5 hown5 hg5; have hS5 := Lib.hid (zeros_made hown5); have hB5 := Lib.hid (Below.grown (Below.refl _ w4) hg5 (Nat.le_refl _) (by simp)); clear hown5 hg5)
      have R1 : Hid (Ord1 w4.heap.size len w4 (.int .i64 0) w5) := Lib.hid ⟨0, Nat.zero_le _, rfl, AtR.congr (F := fun k => (((fun _ => 0 : Nat → Nat) k : Nat) : Int)) hS5.out (fun j _ => by simp), hB5.out⟩
      clear hS5 hB5
      -- what stays
      have HO : Hid (∀ wr, Below w4.heap.size w4 wr → Row .i64 wr oa o.length oc (o.map fun x : Nat => (x : Int))) := Lib.hid fun wr h => Row_cells HOR.out ((HB3'.out.trans (HB4'.out.mono HB3'.out.size)).trans (h.mono (Nat.le_trans HB3'.out.size HB4'.out.size)))
      have HRc : Hid (∀ wr, Below w4.heap.size w4 wr → ∀ j, j < len → wr.cell? ⟨rb, j, none⟩ = some (.bool (decide (st j = 2)))) := Lib.hid fun wr h j hj => (h.cell (p := ⟨rb, j, none⟩) HSE.out.lt).trans (HSE.out.cell hj)
      have HLo : Hid (∀ wr, Below w4.heap.size w4 wr → ∀ q, q < lo.length → ∃ gk b, la = some ⟨gk, 0, none⟩ ∧ wr.cell? ⟨gk, q, none⟩ = some (.slice (some ⟨b, 0, none⟩) 2 2) ∧ wr.cell? ⟨b, 0, none⟩ = some (.int .i64 ((lo.getD q (0, 0)).1 : Int)) ∧ wr.cell? ⟨b, 1, none⟩ = some (.int .i64 ((lo.getD q (0, 0)).2 : Int))) := Lib.hid fun wr h q hq => by
        obtain ⟨gk, b, h1, _, _, _, _, cg, c0, c1⟩ := HKV.out.cells hq
        have hbw : Below w3.heap.size w3 wr := HB4'.out.trans (h.mono HB4'.out.size)
        have hpz : (pairsZ lo).getD q (0, 0) = (((lo.getD q (0, 0)).1 : Int), ((lo.getD q (0, 0)).2 : Int)) := by simp [pairsZ, List.getD, hq]
        rw [hpz] at c0 c1
        exact ⟨gk, b, h1, (hbw.cell (World.block_lt_of_cell? w3 _ cg)).trans cg, (hbw.cell (World.block_lt_of_cell? w3 _ c0)).trans c0, (hbw.cell (World.block_lt_of_cell? w3 _ c1)).trans c1⟩
      have HBw4 : Hid (Below w.heap.size w w4) := Lib.hid (HB1.out.trans (HB4.out.mono HB1.out.size))
      obtain ⟨ab, hab⟩ : ∃ ab, w4.heap.size = ab := ⟨_, rfl⟩
      have HAB := Lib.hid hab
      obtain ⟨m, hm⟩ : ∃ m, o.length = m := ⟨_, rfl⟩
      obtain ⟨L, hL⟩ : ∃ L, lo.length = L := ⟨_, rfl⟩
      have HMM := Lib.hid hm
      have HLL := Lib.hid hL
      rw [hm] at HO hol ⊢
      rw [hL] at HLo hlc1 ⊢
      rw [hab] at R1 ⊢
      clear hm hL hab HOR HKV HSE HB2 HB3 HB3' HB4 HB4' HB1
      go_loopw [8] (fun s8 wr => Ord1 ab len w4 s8 wr) (fun s8 _ => len - (intOf s8).toNat)
      case atStart => exact R1.out
      case round =>
        clear R1
        obtain ⟨i, hi, rfl, hA, hB⟩ := hrel
        by_cases hlt : i < len
        · have t1 : decide ((i : Int) < len) = true := by simp; omega
          have t1' : decide (i < len) = true := by simpa using hlt
          have ca := hA.cell hlt
          have fa := hA.frozen i
          have FIN := Lib.hid ((hA.set i (-1)).congr (G := fun k => if k < i + 1 then -1 else 0) fun j _ => by
            unfold updV
            by_cases e : j = i
            · rw [if_pos e]; show (-1 : Int) = if j < i + 1 then -1 else 0; rw [if_pos (by omega)]
            · rw [if_neg e]; show (if j < i then (-1 : Int) else 0) = if j < i + 1 then -1 else 0
              by_cases e2 : j < i
              · rw [if_pos e2, if_pos (by omega)]
              · rw [if_neg e2, if_neg (by omega)])
          have HBB := Lib.hid (hB.setCell (p := ⟨ab, i, none⟩) (by rw [HAB.out]; exact Nat.le_refl _) (.int .i64 (-1)))
          clear hA hB
          go_wp2_with fail
          go_roundw
          case rel => exact ⟨i + 1, by omega, by go_num, FIN.out, HBB.out⟩
          case measure => simp [intOf]; omega
        · obtain rfl : len = i := by omega
          have t1 : decide ((len : Int) < len) = false := by simp
          have t1' : decide (len < len) = false := by simp
          have R2 : Hid (Ord2 ab len m o w4 (.int .i64 0) wr) := Lib.hid ⟨0, Nat.zero_le _, rfl, hA.congr fun j hj => by unfold posF; rw [if_pos hj, if_neg (Nat.not_lt_zero _)], hB⟩
          clear hA hB hlt
          go_wp2_with fail
          clear t1 t1'
          go_loopw [9] (fun s9 wr => Ord2 ab len m o w4 s9 wr) (fun s9 _ => m - (intOf s9).toNat)
          case atStart => exact R2.out
          case round =>
            clear R2
            obtain ⟨i, hi, rfl, hA, hB⟩ := hrel
            by_cases him : i < m
            · have t1 : decide ((i : Int) < m) = true := by simp; omega
              have t1' : decide (i < m) = true := by simpa using him
              obtain ⟨lb, lo', rfl, hlc⟩ := Row_at (HO.out wr hB) (by omega)
              have co := hlc i him
              obtain ⟨v, hv⟩ : ∃ v, o.getD i 0 = v := ⟨_, rfl⟩
              have hmap : (o.map fun x : Nat => (x : Int)).getD i 0 = (v : Int) := by
                have : i < o.length := by rw [HMM.out]; exact him
                rw [← hv]
                simp [List.getD, this]
              rw [hmap] at co
              have him2 : i < o.length := by rw [HMM.out]; exact him
              have hvl : v < len := by
                have := OK.out.lt v (by rw [← hv]; simp [List.getD, him2])
                rw [HN.out] at this
                exact this
              have t2 : decide ((v : Int) < 0) = false := by simp
              have t3 : decide ((v : Int) ≥ len) = false := by simp; omega
              have t3' : decide (len ≤ v) = false := by simp; omega
              have ca := hA.cell hvl
              have hpn := posF_new OK.out.nodup him2
              rw [hv] at hpn
              rw [hpn] at ca
              have fa := hA.frozen v
              have FIN := Lib.hid ((hA.set v (i : Int)).congr (G := posF o (i + 1)) fun j _ => by rw [← hv]; exact posF_next OK.out.nodup him2 j)
              have HBB := Lib.hid (hB.setCell (p := ⟨ab, v, none⟩) (by rw [HAB.out]; exact Nat.le_refl _) (.int .i64 (i : Int)))
              clear hA hB hlc hv hmap him2 hpn
              go_wp2_with fail
              go_roundw
              case rel => exact ⟨i + 1, by omega, by go_num, FIN.out, HBB.out⟩
              case measure => simp [intOf]; omega
            · obtain rfl : m = i := by omega
              have t1 : decide ((m : Int) < m) = false := by simp
              have t1' : decide (m < m) = false := by simp
              have hfst := OK.out.first
              rw [HMM.out] at hfst
              obtain ⟨lb, lo', rfl, hlc⟩ := Row_at (HO.out wr hB) (by omega)
              have co := hlc 0 hfst.1
              have hmap : (o.map fun x : Nat => (x : Int)).getD 0 0 = (0 : Int) := by
                have h1 : 0 < o.length := by rw [HMM.out]; exact hfst.1
                have h2 := hfst.2
                simp only [List.getD, List.getElem?_eq_getElem h1, Option.getD_some] at h2
                simp [List.getD, h1, h2]
              rw [hmap, Nat.add_zero] at co
              have tm : ((m : Int) == 0) = false := by simp; omega
              have hm0 : 0 < m := hfst.1
              have HAT := Lib.hid hA
              have R3 : Hid (Ord3 len wr (.int .i64 0) wr) := Lib.hid ⟨0, Nat.zero_le _, rfl, Below.refl _ _⟩
              have HBB := Lib.hid hB
              clear hA hB hfst hlc hmap him
              go_wp2_with fail
              clear t1 t1' co tm
              obtain ⟨W6, rfl⟩ : ∃ W6 : World, W6 = wr := ⟨_, rfl⟩
              go_loopw [10] (fun s10 wr => Ord3 len W6 s10 wr) (fun s10 _ => len - (intOf s10).toNat)
              case atStart => exact R3.out
              case round =>
                clear R3
                obtain ⟨i, hi, rfl, hB⟩ := hrel
                by_cases hlt : i < len
                · have t1 : decide ((i : Int) < len) = true := by simp; omega
                  have t1' : decide (i < len) = true := by simpa using hlt
                  have hb4 : Below w4.heap.size w4 wr := HBB.out.trans (hB.mono HBB.out.size)
                  have cr := HRc.out wr hb4 i hlt
                  have ca := (hB.cell (p := ⟨ab, i, none⟩) HAT.out.lt).trans (HAT.out.cell hlt)
                  have hmi := posF_mem o i
                  rw [HMM.out, ← OK.out.two i] at hmi
                  obtain ⟨bi, hbi⟩ : ∃ bi, decide (st i = 2) = bi := ⟨_, rfl⟩
                  have t2 : decide (posF o m i ≥ 0) = bi := by
                    rw [← hbi]; congr 1; rw [eq_iff_iff]; exact hmi
                  have t2' : decide (0 ≤ posF o m i) = bi := t2
                  have HBI := Lib.hid hbi
                  rw [hbi] at cr
                  have HB6 := Lib.hid hB
                  have R4 : Hid (∀ wx, Below wr.heap.size wr wx → Ord3 (degW g i) W6 (.int .i64 0) wx) := Lib.hid fun wx hx => ⟨0, Nat.zero_le _, rfl, hB.trans (hx.mono hB.size)⟩
                  have HDR : Hid (∀ n, Below wr.heap.size wr (wr.drewN n)) := Lib.hid fun n => below_drewN (Below.refl _ _) n
                  clear hmi hbi hB hb4
                  generalize hpx : posF o m i = px at *
                  have HPX := Lib.hid hpx
                  clear hpx
                  have tb : (bi != bi) = false := by simp
                  go_wp2_with fail
                  go_quiet (fail)
                  clear cr ca t2 t2' tb
                  go_wp2_with fail
                  go_loopw [11] (fun s11 wr => Ord3 (degW g i) W6 s11 wr) (fun s11 _ => degW g i - (intOf s11).toNat)
                  case atStart => exact R4.out _ (HDR.out _)
                  case round =>
                    clear R4 HDR HB6
                    obtain ⟨k, hk, rfl, hB⟩ := hrel
                    have hb4 : Below w4.heap.size w4 wr := HBB.out.trans (hB.mono HBB.out.size)
                    have hbw : Below w.heap.size w wr := HBw4.out.trans (hb4.mono HBw4.out.size)
                    obtain ⟨gb, go, rfl, hgb, hgc⟩ := HG.out.grf.at_ (by omega)
                    obtain ⟨ra, rc, cg0, hrow⟩ := hgc i hlt
                    have cg := (hbw.cell (p := ⟨gb, go + i, none⟩) hgb).trans cg0
                    have cr := HRc.out wr hb4 i hlt
                    rw [HBI.out] at cr
                    have hrl := hrow.le
                    have hrm := hrow.max
                    unfold maxLen at hrm
                    have hdeg := HSM.out.deg i
                    by_cases hkl : k < degW g i ∧ bi = true
                    · have hk1 := hkl.1
                      obtain rfl := hkl.2
                      have t2 : decide ((k : Int) < degW g i) = true := by simp; omega
                      have t2' : decide (k < degW g i) = true := by simpa using hk1
                      obtain ⟨rb2, ro, rfl, hrc⟩ := Row_at (Row_cells hrow hbw) (by omega)
                      have ck := hrc k hk1
                      obtain ⟨y, hy⟩ : ∃ y, (g.getD i []).getD k 0 = y := ⟨_, rfl⟩
                      rw [hy] at ck
                      have hedge : edgeW g i k = y := hy
                      have HBr := Lib.hid hB
                      have R9 : Hid (∀ wx, Below wr.heap.size wr wx → Ord3 (degW g i) W6 (.int .i64 ((k + 1 : Nat) : Int)) wx) := Lib.hid fun wx hx => ⟨k + 1, by omega, rfl, hB.trans (hx.mono hB.size)⟩
                      clear hgc cg0 hrow hrc hkl hy hB hb4 hbw hgb
                      by_cases hin : 0 ≤ y ∧ y < (len : Int)
                      · obtain ⟨j, rfl⟩ : ∃ j : Nat, y = j := ⟨y.toNat, by omega⟩
                        have hjl : j < len := by omega
                        have t3 : decide ((j : Int) < 0) = false := by simp
                        have t4 : decide ((j : Int) ≥ len) = false := by simp; omega
                        have t4' : decide (len ≤ j) = false := by simp; omega
                        have hio : i ∈ o := (OK.out.two i).1 (by simpa using HBI.out)
                        obtain ⟨hjo, hpos⟩ := OK.out.edge i hio k hk1 j hedge (by rw [HN.out]; exact hjl)
                        rw [HMM.out] at hpos
                        have HPOS := Lib.hid hpos
                        have HJ2 : Hid (st j = 2) := Lib.hid ((OK.out.two j).2 hjo)
                        have R5 : Hid (Ord5 lo L i j wr (.bool false) (.int .i64 0) wr) := Lib.hid ⟨0, Nat.zero_le _, rfl, by simp, Below.refl _ _⟩
                        clear hin hedge hio hjo hpos
                        go_wp2_with fail
                        clear t3 t4 t4' ck cg cr
                        obtain ⟨W8, rfl⟩ : ∃ W8 : World, W8 = wr := ⟨_, rfl⟩
                        go_loopw [13, 14] (fun s13 s14 wr => Ord5 lo L i j W8 s13 s14 wr) (fun _ s14 _ => L - (intOf s14).toNat)
                        case atStart => exact R5.out
                        case round =>
                          clear R5
                          obtain ⟨q, hq, rfl, rfl, hB⟩ := hrel
                          have hB6 : Below W6.heap.size W6 wr := HBr.out.trans (hB.mono HBr.out.size)
                          have hb4 : Below w4.heap.size w4 wr := HBB.out.trans (hB6.mono HBB.out.size)
                          by_cases hql : q < L
                          · have t5 : decide ((q : Int) < L) = true := by simp; omega
                            have t5' : decide (q < L) = true := by simpa using hql
                            have htm := take_mem lo q (by rw [HLL.out]; exact hql) (i, j)
                            obtain ⟨bk, hbk⟩ : ∃ bk, decide ((i, j) ∈ lo.take q) = bk := ⟨_, rfl⟩
                            cases bk with
                            | true =>
                              have hmem : (i, j) ∈ lo.take q := by simpa using hbk
                              have HNX : Hid (decide ((i, j) ∈ lo.take (q + 1)) = true) := Lib.hid (by simp only [decide_eq_true_eq]; exact htm.2 (.inl hmem))
                              have HBx := Lib.hid hB
                              clear htm hmem hB hB6 hb4
                              rw [hbk]
                              clear hbk
                              go_wp2_with fail
                              go_roundw
                              case rel => exact ⟨q + 1, by omega, by go_num, by rw [HNX.out], HBx.out⟩
                              case measure => simp [intOf]; omega
                            | false =>
                              have hmem : (i, j) ∉ lo.take q := by simpa using hbk
                              obtain ⟨gk, b2, rfl, cl, c0, c1⟩ := HLo.out wr hb4 q hql
                              obtain ⟨X, Y, hXY⟩ : ∃ X Y, lo.getD q (0, 0) = (X, Y) := ⟨_, _, rfl⟩
                              have hsm := OK.out.small (lo.getD q (0, 0)) (by simp [List.getD, show q < lo.length by rw [HLL.out]; exact hql])
                              rw [hXY] at hsm c0 c1 htm
                              rw [HN.out] at hsm
                              dsimp only at hsm c0 c1
                              have hnw := heap_alloc_new wr (.cells #[.int .i64 (i : Int), .int .i64 (j : Int)] 3)
                              have ce0 := (cell_blk ⟨b2, 0, none⟩ (Below.heap_alloc wr (.cells #[.int .i64 (i : Int), .int .i64 (j : Int)] 3) b2 (World.block_lt_of_cell? wr _ c0))).trans c0
                              have ce1 := (cell_blk ⟨b2, 1, none⟩ (Below.heap_alloc wr (.cells #[.int .i64 (i : Int), .int .i64 (j : Int)] 3) b2 (World.block_lt_of_cell? wr _ c1))).trans c1
                              have KS0 := same_ints (some ⟨b2, 0, none⟩) (some ⟨wr.heap.size, 0, none⟩) 2 2 2 2 [(X : Int), (Y : Int)] [(i : Int), (j : Int)] (wr.alloc (.cells #[.int .i64 (i : Int), .int .i64 (j : Int)] 3)) (row_two ce0 ce1 (Nat.le_refl _) (by unfold maxLen; omega) (wf64 (by omega) (by omega)) (wf64 (by omega) (by omega)))
                                (row_two ((cell_of_row _ _ 0 _ 3 (0, 0) hnw).trans rfl) ((cell_of_row _ _ 1 _ 3 (0, 0) hnw).trans rfl) (Nat.le_refl _) (by unfold maxLen; omega) (wf64 (by omega) (by omega)) (wf64 (by omega) (by omega))) (by omega)
                              have hdc : decide ([(X : Int), (Y : Int)] = [(i : Int), (j : Int)]) = decide ((i, j) ∈ lo.take (q + 1)) := by
                                congr 1
                                rw [htm, eq_iff_iff]
                                constructor
                                · intro h
                                  simp at h
                                  exact .inr (by rw [Prod.mk.injEq]; omega)
                                · rintro (h | h)
                                  · exact absurd h hmem
                                  · rw [Prod.mk.injEq] at h
                                    simp
                                    omega
                              unfold SamePost at KS0
                              rw [hdc] at KS0
                              have KS := Lib.hid KS0
                              obtain ⟨bn, hbn⟩ : ∃ bn, decide ((i, j) ∈ lo.take (q + 1)) = bn := ⟨_, rfl⟩
                              rw [hbn] at KS
                              have HNX := Lib.hid hbn
                              have HBx := Lib.hid (hB.alloc hB.size (.cells #[.int .i64 (i : Int), .int .i64 (j : Int)] 3))
                              rw [hbk]
                              clear htm hmem hB hB6 hb4 hXY hsm hnw c0 c1 ce0 ce1 KS0 hdc hbn hbk
                              go_wp2_with fail
                              refine KS.out.mono ?_
                              rintro e w9 ⟨rfl, n9, rfl⟩
                              clear KS cl
                              go_wp2_with fail
                              go_roundw
                              case rel => exact ⟨q + 1, by omega, by go_num, by rw [HNX.out], below_drewN HBx.out n9⟩
                              case measure => simp [intOf]; omega
                          · obtain rfl : L = q := by omega
                            have t5 : decide ((L : Int) < L) = false := by simp
                            have t5' : decide (L < L) = false := by simp
                            have hfull : lo.take L = lo := by rw [← HLL.out, List.take_length]
                            rw [hfull]
                            have cr := HRc.out wr hb4 j hjl
                            rw [HJ2.out] at cr
                            have cr : wr.cell? ⟨rb, j, none⟩ = some (.bool true) := cr
                            have ca := (hB6.cell (p := ⟨ab, i, none⟩) HAT.out.lt).trans (HAT.out.cell hlt)
                            have cj := (hB6.cell (p := ⟨ab, j, none⟩) HAT.out.lt).trans (HAT.out.cell hjl)
                            rw [HPX.out] at ca
                            obtain ⟨bk, hbk⟩ : ∃ bk, decide ((i, j) ∈ lo) = bk := ⟨_, rfl⟩
                            have t6 : decide (posF o m j ≤ px) = bk := by
                              rw [← hbk]; congr 1; rw [eq_iff_iff, ← HPX.out]; exact HPOS.out
                            have t7 : (bk != bk) = false := by simp
                            rw [hbk]
                            have HBx := Lib.hid hB
                            have HDR : Hid (∀ n, Below wr.heap.size wr (wr.drewN n)) := Lib.hid fun n => below_drewN (Below.refl _ _) n
                            clear hfull hbk hB hB6 hb4
                            generalize posF o m j = py at *
                            go_wp2_with fail
                            go_quiet (fail)
                            go_wp2_with fail
                            go_roundw
                            case rel => obtain ⟨k2, h1, h2, h3⟩ := R9.out _ (HBx.out.trans ((HDR.out _).mono HBx.out.size)); exact ⟨k2, h1, by rw [← h2]; go_num, h3⟩
                            case measure => simp [intOf]; omega
                      · clear hedge
                        have FIN := Lib.hid (R9.out _ (Below.refl _ _))
                        by_cases hy0 : y < 0
                        · have t3 : decide (y < 0) = true := by simpa using hy0
                          clear hin hy0
                          go_wp2_with fail
                          go_roundw
                          case rel => obtain ⟨k2, h1, h2, h3⟩ := FIN.out; exact ⟨k2, h1, by rw [← h2]; go_num, h3⟩
                          case measure => simp [intOf]; omega
                        · have t3 : decide (y < 0) = false := by simpa using hy0
                          have t4 : decide (y ≥ (len : Int)) = true := by simp; omega
                          clear hin hy0
                          go_wp2_with fail
                          go_roundw
                          case rel => obtain ⟨k2, h1, h2, h3⟩ := FIN.out; exact ⟨k2, h1, by rw [← h2]; go_num, h3⟩
                          case measure => simp [intOf]; omega
                    · have HBx := Lib.hid hB
                      have two : decide ((k : Int) < degW g i) = false ∧ decide (k < degW g i) = false ∨ (decide ((k : Int) < degW g i) = true ∧ decide (k < degW g i) = true) ∧ bi = false := by
                        by_cases h1 : k < degW g i
                        · refine .inr ⟨⟨by simp; omega, by simp; omega⟩, ?_⟩
                          cases bi with
                          | false => rfl
                          | true => exact absurd ⟨h1, rfl⟩ hkl
                        · exact .inl ⟨by simp; omega, by simp; omega⟩
                      clear hgc cg0 hrow hkl hB hb4 hbw hgb
                      rcases two with ⟨t2, t2'⟩ | ⟨⟨t2, t2'⟩, rfl⟩
                      all_goals
                        go_wp2_with fail
                        go_roundw
                        case rel => exact ⟨i + 1, by omega, by go_num, HBx.out⟩
                        case measure => simp [intOf]; omega
                · obtain rfl : len = i := by omega
                  have t1 : decide ((len : Int) < len) = false := by simp
                  have t1' : decide (len < len) = false := by simp
                  have FIN := Lib.hid (HBw4.out.trans ((HBB.out.trans (hB.mono HBB.out.size)).mono HBw4.out.size))
                  clear hB
                  go_wp2_with fail
                  go_ret
                  exact ⟨rfl, FIN.out⟩

theorem orders_main (a : Option Addr) (len cap : Nat) (g : List (List Int)) (w : World) (hg : Grfs w a len cap g) (hL : laidMetH Tryd.prog Rows.flowOrdersRow.laid w) :
    Calls Tryd.prog 8 #[.slice a len cap] w (TruePost w) := orders_law a len cap g w hg (tab_of_laid hL)

end Go.Proofs.YtchechdcebmoeaaDoor

/-
  The document's walk in depth, by a contract.
-/
import Derived.Test.YtchechdcebmoeaaDoorEntP
namespace Go.Proofs.YtchechdcebmoeaaDoor
open Go.RowKit

def EntPost (A B p q u n : Nat) (gv : Value) (W0 : World) (s' : Wk) (e : Ending) (w' : World) : Prop :=
  e = .returned (.tuple #[]) ∧ ∃ bs lv ov, WdS A B p q u n gv s' bs lv ov w' ∧ Kp A q u W0 w'

def EntRel (A B p q u n : Nat) (gv : Value) (W0 : World) (c : Nat → List Nat) (f i : Nat) (t' : Wk) (s4 : Value) (wr : World) : Prop :=
  ∃ (k : Nat) (t : Wk), k ≤ (c i).length ∧ s4 = .int .i64 k ∧ rowR (entR c f) i ((c i).drop k) t = some t' ∧ t.st i ≠ 0 ∧ ∃ bs lv ov, WdS A B p q u n gv t bs lv ov wr ∧ Kp A q u W0 wr

theorem wds_in {A B p q u n : Nat} {gv : Value} {s : Wk} {bs : List Nat} {lv ov : Value} {w : World} (h : WdS A B p q u n gv s bs lv ov w) (i : Nat) :
    WdS A B p q u n gv (inR i s) bs lv ov ((w.setCell ⟨q, i, none⟩ (.bool true)).setCell ⟨u, i, none⟩ (.bool true)) := by
  refine ((h.see i true).opn i true).congr (fun k => ?_) (fun k => ?_)
  · show _ = decide (setN s.st i 1 k ≠ 0)
    unfold setN; split <;> simp
  · show _ = decide (setN s.st i 1 k = 1)
    unfold setN; split <;> simp

theorem wds_out {A B p q u n : Nat} {gv : Value} {t : Wk} {i : Nat} {bs : List Nat} {lv ov : Value} {w : World} (hi : t.st i ≠ 0) (h : Wd A B p q u n gv (fun k => decide (t.st k ≠ 0)) (fun k => if k = i then false else decide (t.st k = 1)) (t.left ++ [i]) t.loops bs lv ov w) :
    WdS A B p q u n gv (outR i t) bs lv ov w := by
  refine h.congr (fun k => ?_) (fun k => ?_)
  · show _ = decide (setN t.st i 2 k ≠ 0)
    unfold setN; split
    · rename_i e; subst e; simp [hi]
    · rfl
  · show _ = decide (setN t.st i 2 k = 1)
    unfold setN; split <;> simp

set_option maxHeartbeats 4000000 in
set_option maxRecDepth 100000 in
theorem enter_any {A p q u n : Nat} {ga : Option Addr} {gc : Nat} (W0 : World) (hA : A ≤ W0.heap.size) (hbo : Bo q u W0) (G : List (List Int)) (c : Nat → List Nat) (hG : Grf W0 ga n gc G) (hn : n ≤ 1000) (hd : ∀ v, degW G v ≤ 1000000) (hc : ∀ i, i < n → G.getD i [] = (c i).map fun j : Nat => (j : Int)) (hcl : ∀ i, i < n → ∀ j ∈ c i, j < n) :
    ∀ (f i : Nat) (s s' : Wk) (bs : List Nat) (lv ov : Value) (w : World), i < n → s.st i = 0 → entR c f i s = some s' → WdS A W0.heap.size p q u n (.slice ga n gc) s bs lv ov w → Kp A q u W0 w → s'.left.length ≤ 100000 → s'.loops.length ≤ 100000 →
    Calls Tryd.prog 109 #[.pointer (some ⟨p, 0, none⟩), .int .i64 (i : Int)] w (EntPost A W0.heap.size p q u n (.slice ga n gc) W0 s') := by
  intro f
  induction f with
  | zero => intro i s s' bs lv ov w _ _ he; cases he
  | succ f ih =>
  intro i s s' bs lv ov w hi h0 he h hb hll hlo
  have IH := Lib.hid ih
  clear ih
  unfold entR at he
  obtain ⟨t', ht, rfl⟩ := Option.map_eq_some_iff.1 he
  have HLL : Hid (t'.left.length + 1 ≤ 100000) := Lib.hid (by have : (t'.left ++ [i]).length ≤ 100000 := hll; rw [List.length_append] at this; exact this)
  have HLO : Hid (t'.loops.length ≤ 100000) := Lib.hid hlo
  have HIN := Lib.hid (wds_in h i)
  have hq := h.cq.cell hi
  have zq := h.cq.frozen i
  have h1 := h.see i true
  have hu := h1.cu.cell hi
  have zu := h1.cu.frozen i
  have c1 : w.cell? ⟨p, 1, none⟩ = some (.slice (some ⟨q, 0, none⟩) n n) := (cell_of_row w p 1 _ 160 (0, 0) h.cp).trans rfl
  have c2 : (w.setCell ⟨q, i, none⟩ (.bool true)).cell? ⟨p, 2, none⟩ = some (.slice (some ⟨u, 0, none⟩) n n) := (cell_of_row _ p 2 _ 160 (0, 0) h1.cp).trans rfl
  have R0 : Hid (EntRel A W0.heap.size p q u n (.slice ga n gc) W0 c f i t' (.int .i64 0) ((w.setCell ⟨q, i, none⟩ (.bool true)).setCell ⟨u, i, none⟩ (.bool true))) := Lib.hid
    ⟨0, inR i s, Nat.zero_le _, rfl, ht, by show setN s.st i 1 i ≠ 0; rw [setN_same]; decide, bs, lv, ov, HIN.out, (hb.setQ h.cq.lo _ _).setU h.cu.lo _ _⟩
  obtain ⟨gb, go, rfl, hgb, hgc⟩ := hG.at_ (by omega)
  obtain ⟨ra, rc, cg0, hrow⟩ := hgc i hi
  have hrl := hrow.le
  have hrm := hrow.max
  unfold maxLen at hrm
  have hdeg : degW G i = (c i).length := by unfold degW; rw [hc i hi, List.length_map]
  have hdm := hd i
  rw [hdeg] at cg0 hrow hrl hdm
  have HRW := Lib.hid hrow
  have HCG := Lib.hid cg0
  have HA := Lib.hid hA
  have HBO := Lib.hid hbo
  have HCI := Lib.hid (hc i hi)
  have HCL := Lib.hid (hcl i hi)
  obtain ⟨L, hL⟩ : ∃ L, (c i).length = L := ⟨_, rfl⟩
  have HL := Lib.hid hL
  rw [hL] at HRW HCG hrl hdm
  obtain ⟨i0, hi0, hz0, hz1, hz2⟩ := info_parts rowinfoM
  have HI := Lib.hid hi0
  have HZ0 := Lib.hid hz0
  have HZ1 := Lib.hid hz1
  have HZ2 := Lib.hid hz2
  obtain ⟨i1, hj0, hy0, hy1, hy2⟩ := info_parts intinfoW
  have HJ := Lib.hid hj0
  have HY0 := Lib.hid hy0
  have HY1 := Lib.hid hy1
  have HY2 := Lib.hid hy2
  clear hA hbo hgc cg0 hrow hgb hdeg h h1 hb ht hll hlo he h0 hi0 hz0 hz1 hz2 hj0 hy0 hy1 hy2 hL hG hd hc hcl HIN
  go_enter Tryd.func109, Tryd.ntmps109
  go_wp2_with fail
  go_loopw [4] (fun s4 wr => EntRel A W0.heap.size p q u n (.slice (some ⟨gb, go, none⟩) n gc) W0 c f i t' s4 wr) (fun s4 _ => L - (intOf s4).toNat)
  case atStart => exact R0.out
  case round =>
    clear R0 hq zq hu zu c1 c2
    obtain ⟨k, t, hk, rfl, hr, hti, bs, lv, ov, hW, hB⟩ := hrel
    rw [HL.out] at hk
    unfold WdS at hW
    have cg := hB.cell HBO.out HCG.out (fun b e => by cases e)
    have c0 : wr.cell? ⟨p, 0, none⟩ = some (.slice (some ⟨gb, go, none⟩) n gc) := (cell_of_row wr p 0 _ 160 (0, 0) hW.cp).trans rfl
    have c1 : wr.cell? ⟨p, 1, none⟩ = some (.slice (some ⟨q, 0, none⟩) n n) := (cell_of_row wr p 1 _ 160 (0, 0) hW.cp).trans rfl
    have c2 : wr.cell? ⟨p, 2, none⟩ = some (.slice (some ⟨u, 0, none⟩) n n) := (cell_of_row wr p 2 _ 160 (0, 0) hW.cp).trans rfl
    have hBs := hB.below.size
    by_cases hkl : k < L
    · have t1 : decide ((k : Int) < L) = true := by simp; omega
      have t1' : decide (k < L) = true := by simpa using hkl
      obtain ⟨rb, ro, rfl, hrc⟩ := Row_at (hB.row HBO.out HRW.out) (by omega)
      have ck := hrc k hkl
      have hkc : k < (c i).length := by rw [HL.out]; exact hkl
      obtain ⟨j, hj⟩ : ∃ j, (c i)[k] = j := ⟨_, rfl⟩
      have hx : (G.getD i []).getD k 0 = (j : Int) := by
        rw [HCI.out]
        simp [List.getD, hkc, hj]
      rw [hx] at ck
      have hjn := HCL.out j (by rw [← hj]; exact List.getElem_mem hkc)
      rw [List.drop_eq_getElem_cons hkc, hj] at hr
      unfold rowR at hr
      have hcu := hW.cu.cell hjn
      have hcq := hW.cq.cell hjn
      clear hrc hx hj hkc
      by_cases e0 : t.st j = 0
      · rw [if_pos e0] at hr
        obtain ⟨t2, ht2, hr2⟩ := Option.bind_eq_some_iff.1 hr
        have hg2 := rowR_grow c f i _ _ _ hr2
        have KE := Lib.hid (IH.out j t t2 bs lv ov wr hjn e0 ht2 hW hB (by have := HLL.out; omega) (by have := HLO.out; omega))
        unfold EntPost at KE
        have HT2 : Hid (t2.st i ≠ 0) := Lib.hid (by rw [(entR_frame c f j t t2 e0 ht2).1 i hti]; exact hti)
        have HR2 := Lib.hid hr2
        rw [show decide (t.st j = 1) = false by rw [e0]; rfl] at hcu
        rw [show decide (t.st j ≠ 0) = false by rw [e0]; rfl] at hcq
        clear hr hr2 ht2 hW hB hg2 hti e0 IH
        go_wp2_with fail
        refine KE.out.mono ?_
        rintro e w6 ⟨rfl, hw6⟩
        have FIN := Lib.hid hw6
        clear hw6 KE
        go_wp2_with fail
        go_roundw
        case rel => exact ⟨k + 1, t2, by rw [HL.out]; omega, by go_num, HR2.out, HT2.out, FIN.out⟩
        case measure => simp [intOf]; omega
      · rw [if_neg e0] at hr
        unfold seeR at hr
        have hne0 : decide (t.st j ≠ 0) = true := by simpa using e0
        rw [hne0] at hcq
        by_cases e1 : t.st j = 1
        · rw [if_pos e1] at hr
          rw [show decide (t.st j = 1) = true by rw [e1]; rfl] at hcu
          have hg2 := (rowR_grow c f i _ _ _ hr).2
          have hg3 : t.loops.length + 1 ≤ t'.loops.length := by rw [List.length_append] at hg2; exact hg2
          have hlo := HLO.out
          have hln : (pairsZ t.loops).length = t.loops.length := by simp [pairsZ]
          obtain ⟨oa, oc, rfl⟩ := own_shapeM hW.loops.own
          have hks := hW.loops.len_le
          have c4 : wr.cell? ⟨p, 4, none⟩ = some (.slice oa (pairsZ t.loops).length oc) := (cell_of_row wr p 4 _ 160 (0, 0) hW.cp).trans rfl
          have HM1 := Lib.hid (show (pairsZ t.loops).length + 1 ≤ maxLen by unfold maxLen; omega)
          have HM2 := Lib.hid (show ((pairsZ t.loops).length + 1) * 24 ≤ 140737488355328 by omega)
          have HB3 : Hid (W0.heap.size ≤ ((wr.alloc (.cells #[.int .i64 (i : Int), .int .i64 (j : Int)] 3)).alloc (.cells #[.slice (some ⟨wr.heap.size, 0, none⟩) 2 2] 26)).heap.size) := Lib.hid (by rw [World.size_alloc, World.size_alloc]; omega)
          have hnews := cell_one_new (wr.alloc (.cells #[.int .i64 (i : Int), .int .i64 (j : Int)] 3)) (.slice (some ⟨wr.heap.size, 0, none⟩) 2 2) 26
          rw [World.size_alloc] at hnews
          have HNEWS := Lib.hid hnews
          have HOW := Lib.hid hW.loops.own
          have FIN : Hid (∀ va5 vc5 w5, w5.ownsRow W0.heap.size 26 1 (.slice va5 ((pairsZ t.loops).length + 1) vc5) ((pairsZ t.loops).length + 1) ((bs.map fun b => .slice (some ⟨b, 0, none⟩) 2 2) ++ [.slice (some ⟨wr.heap.size, 0, none⟩) 2 2]) →
              ((wr.alloc (.cells #[.int .i64 (i : Int), .int .i64 (j : Int)] 3)).alloc (.cells #[.slice (some ⟨wr.heap.size, 0, none⟩) 2 2] 26)).grownBy w5 (Value.slice oa (pairsZ t.loops).length oc).ownBlock →
              (w5.cell? ⟨p, 4, none⟩ = some (.slice oa (pairsZ t.loops).length oc) ∧ w5.frozen? ⟨p, 4, none⟩ = false) ∧
              ((w5.setCell ⟨p, 4, none⟩ (.slice va5 ((pairsZ t.loops).length + 1) vc5)).cell? ⟨p, 1, none⟩ = some (.slice (some ⟨q, 0, none⟩) n n) ∧ (w5.setCell ⟨p, 4, none⟩ (.slice va5 ((pairsZ t.loops).length + 1) vc5)).cell? ⟨q, j, none⟩ = some (.bool true)) ∧
              EntRel A W0.heap.size p q u n (.slice (some ⟨gb, go, none⟩) n gc) W0 c f i t' (.int .i64 ((k + 1 : Nat) : Int)) (w5.setCell ⟨p, 4, none⟩ (.slice va5 ((pairsZ t.loops).length + 1) vc5))) := Lib.hid fun va5 vc5 w5 hown hg => by
            obtain ⟨a1, a2, a3⟩ := hW.loop (by omega) hown hg
            refine ⟨a1, ⟨(cell_of_row _ p 1 _ 160 (0, 0) a2.cp).trans rfl, by rw [a2.cq.cell hjn, hne0]⟩, k + 1, _, by rw [HL.out]; omega, rfl, hr, hti, _, _, _, a2, hB.trans HA.out a3⟩
          clear hr hW hB hg2 hg3 hlo hln hks hnews e0 e1 hne0 hcq hti IH HLO HLL
          go_wp2_with (at_builtin; refine wpList_append_own _ rfl (.tmp 51) (.tmp 55) 80 rfl W0.heap.size 26 i0 (.slice none 0 0) 1 24 Tryd.underlying80 HI.out HZ0.out HZ1.out HZ2.out rfl (by decide) (.slice oa (pairsZ t.loops).length oc) (pairsZ t.loops).length _ rfl ((HOW.out.alloc _).alloc _) ⟨wr.heap.size + 1, 0, none⟩ 1 1 [.slice (some ⟨wr.heap.size, 0, none⟩) 2 2] rfl rfl HNEWS.out (by simp [Value.oneCell']) HM1.out HM2.out HB3.out ?_; intro v5 w5 hown5 hgrow5 hnil5; obtain ⟨va5, vc5, rfl⟩ := own_shapeM hown5; replace hown5 := Lib.hid (FIN.out va5 vc5 w5 hown5 hgrow5); have fz := hown5.out.1.2; have cz := hown5.out.1.1; have cz1 := hown5.out.2.1.1; have cz2 := hown5.out.2.1.2; clear hgrow5 hnil5)
          go_roundw
          case rel => obtain ⟨k2, t2, h1, h2, h3⟩ := hown5.out.2.2; exact ⟨k2, t2, h1, by rw [← h2]; go_num, h3⟩
          case measure => simp [intOf]; omega
        · rw [if_neg e1] at hr
          rw [show decide (t.st j = 1) = false by simpa using e1] at hcu
          have FIN : Hid (EntRel A W0.heap.size p q u n (.slice (some ⟨gb, go, none⟩) n gc) W0 c f i t' (.int .i64 ((k + 1 : Nat) : Int)) wr) := Lib.hid ⟨k + 1, t, by rw [HL.out]; omega, rfl, hr, hti, bs, lv, ov, hW, hB⟩
          clear hr hW hB e0 e1 hne0 hti IH HLO HLL
          go_wp2_with fail
          go_roundw
          case rel => obtain ⟨k2, t2, h1, h2, h3⟩ := FIN.out; exact ⟨k2, t2, h1, by rw [← h2]; go_num, h3⟩
          case measure => simp [intOf]; omega
    · obtain rfl : k = L := by omega
      have t1 : decide ((k : Int) < k) = false := by simp
      have t1' : decide (k < k) = false := by simp
      rw [List.drop_eq_nil_of_le (by rw [HL.out]; exact Nat.le_refl _)] at hr
      obtain rfl : t = t' := Option.some.inj (show some t = some t' from by unfold rowR at hr; exact hr)
      have hcu := hW.cu.cell hi
      have zu := hW.cu.frozen i
      have h1 := hW.opn i false
      obtain ⟨la, lc, rfl⟩ := own_shapeM hW.left
      have hll := HLL.out
      have c3 : (wr.setCell ⟨u, i, none⟩ (.bool false)).cell? ⟨p, 3, none⟩ = some (.slice la t.left.length lc) := (cell_of_row _ p 3 _ 160 (0, 0) h1.cp).trans rfl
      have HM1 := Lib.hid (show t.left.length + 1 ≤ maxLen by unfold maxLen; omega)
      have HM2 := Lib.hid (show (t.left.length + 1) * 8 ≤ 140737488355328 by omega)
      have HB3 : Hid (W0.heap.size ≤ ((wr.setCell ⟨u, i, none⟩ (.bool false)).alloc (.cells #[.int .i64 (i : Int)] 3)).heap.size) := Lib.hid (by rw [World.size_alloc, World.size_setCell]; omega)
      have hnews := cell_one_new (wr.setCell ⟨u, i, none⟩ (.bool false)) (.int .i64 (i : Int)) 3
      rw [World.size_setCell] at hnews
      have HNEWS := Lib.hid hnews
      have HOW := Lib.hid h1.left
      have FIN : Hid (∀ va5 vc5 w5, w5.ownsRow W0.heap.size 3 1 (.slice va5 (t.left.length + 1) vc5) (t.left.length + 1) ((t.left.map fun (v : Nat) => Value.int .i64 (v : Int)) ++ [.int .i64 (i : Int)]) →
          ((wr.setCell ⟨u, i, none⟩ (.bool false)).alloc (.cells #[.int .i64 (i : Int)] 3)).grownBy w5 (Value.slice la t.left.length lc).ownBlock →
          ((Value.slice va5 (t.left.length + 1) vc5).ownBlock = (Value.slice la t.left.length lc).ownBlock ∨ (Value.slice va5 (t.left.length + 1) vc5).ownBlock = some ((wr.setCell ⟨u, i, none⟩ (.bool false)).alloc (.cells #[.int .i64 (i : Int)] 3)).heap.size) →
          (w5.cell? ⟨p, 3, none⟩ = some (.slice la t.left.length lc) ∧ w5.frozen? ⟨p, 3, none⟩ = false) ∧
          EntPost A W0.heap.size p q u n (.slice (some ⟨gb, go, none⟩) n gc) W0 (outR i t) (.returned (.tuple #[])) (w5.setCell ⟨p, 3, none⟩ (.slice va5 (t.left.length + 1) vc5))) := Lib.hid fun va5 vc5 w5 hown hg ha => by
        rw [World.size_alloc] at ha
        obtain ⟨a1, a2, a3⟩ := h1.leave (by rw [World.size_setCell]; omega) hown hg ha
        exact ⟨a1, rfl, bs, _, _, wds_out hti a2, (hB.setU h1.cu.lo _ _).trans HA.out a3⟩
      clear hW hB h1 hti hll hnews IH HLO HLL
      go_wp2_with (at_builtin; refine wpList_append_own_at _ rfl (.tmp 80) (.tmp 82) 26 rfl W0.heap.size 3 i1 (.int .i64 0) 1 8 Tryd.underlying26 HJ.out HY0.out HY1.out HY2.out rfl (by decide) (.slice la t.left.length lc) t.left.length _ rfl (HOW.out.alloc _) ⟨wr.heap.size, 0, none⟩ 1 1 [.int .i64 (i : Int)] rfl rfl HNEWS.out (by simp [Value.oneCell']) HM1.out HM2.out HB3.out ?_; intro v5 w5 hown5 hgrow5 hnil5 hat5; obtain ⟨va5, vc5, rfl⟩ := own_shapeM hown5; replace hown5 := Lib.hid (FIN.out va5 vc5 w5 hown5 hgrow5 hat5); have fz := hown5.out.1.2; have cz := hown5.out.1.1; clear hgrow5 hnil5 hat5)
      exact bodyPost_end (v := .tuple #[]) (by simp [results, Tryd.results109, go_sem]) rfl hown5.out.2

end Go.Proofs.YtchechdcebmoeaaDoor

/-
  A script asked for a safepoint.
-/
import Derived.Test.YtjcklfbpdjfibaaDoorPik2
namespace Go.Proofs.YtjcklfbpdjfibaaDoor
open Go.RowKit

theorem grown_setCellG (w : World) (a : Addr) (u : Value) : w.grownBy (w.setCell a u) (some a.block) :=
  ⟨rfl, rfl, rfl, by simp, fun k _ hk => heap_setCell_other w a k u (fun e => hk (by rw [e]))⟩

/-- What is told where nothing is. -/
def AtNil (q c : Nat) (gv : Nat → Nat → Int) (len pos : Nat) (next p : Int) (w : World) (e : Ending) (w' : World) : Prop :=
  e = .returned (.slice none 0 0) ∧ w.grownBy w' (some q) ∧ ∃ next', Scr q c gv len pos next' w' ∧ (p < next → next' = next)

/-- The next safepoint of a script's box turned. -/
theorem Scr.next {q c : Nat} {gv : Nat → Nat → Int} {len pos : Nat} {next : Int} {w : World} (h : Scr q c gv len pos next w) (x : Int) : Scr q c gv len pos x (w.setCell ⟨q, 1, none⟩ (.int .i64 x)) := by
  obtain ⟨adr, cp, hb, h1, h2, h3, h4, h5⟩ := h
  refine ⟨adr, cp, (heap_setCell_same w q 1 _ _ _ hb).trans rfl, h1, h2, h3, h4, fun i j hi hj => ?_⟩
  rw [World.cell?_setCell_other _ _ _ _ (by simp)]
  exact h5 i j hi hj

theorem at_stop (q c : Nat) (gv : Nat → Nat → Int) (len pos : Nat) (next p : Int) (w : World) (h : Scr q c gv len pos next w) (hp : p < next) :
    Calls Tryd.prog 75 #[.pointer (some ⟨q, 0, none⟩), .int .i64 p] w (AtNil q c gv len pos next p w) := by
  have FIN : Hid (AtNil q c gv len pos next p w (.returned (.slice none 0 0)) w) := Lib.hid ⟨rfl, World.grownBy.refl _ _, next, h, fun _ => rfl⟩
  obtain ⟨adr, cp, hb, h1, h2, h3, h4, h5⟩ := h
  have c1 : w.cell? ⟨q, 1, none⟩ = some (.int .i64 next) := (cell_of_row w q 1 _ _ (0, 0) hb).trans rfl
  have t1 : decide (p < next) = true := by simpa using hp
  clear hb h1 h2 h3 h4 h5 hp
  go_enter Tryd.func75, Tryd.ntmps75
  go_wp2_with fail
  go_ret
  exact FIN.out

/-- Behind the last pick nothing is told. -/
theorem at_end (q c : Nat) (gv : Nat → Nat → Int) (len : Nat) (next p : Int) (w : World) (h : Scr q c gv len len next w) :
    Calls Tryd.prog 75 #[.pointer (some ⟨q, 0, none⟩), .int .i64 p] w (AtNil q c gv len len next p w) := by
  by_cases hp : p < next
  · exact at_stop q c gv len len next p w h hp
  · have FIN : Hid (∀ x, AtNil q c gv len len next p w (.returned (.slice none 0 0)) (w.setCell ⟨q, 1, none⟩ (.int .i64 x))) := Lib.hid fun x => ⟨rfl, grown_setCellG w _ _, x, h.next x, fun h => absurd h hp⟩
    obtain ⟨adr, cp, hb, h1, h2, h3, h4, h5⟩ := h
    rw [Nat.sub_self] at hb
    have c0 : w.cell? ⟨q, 0, none⟩ = some (.slice adr 0 cp) := (cell_of_row w q 0 _ _ (0, 0) hb).trans rfl
    have c1 : w.cell? ⟨q, 1, none⟩ = some (.int .i64 next) := (cell_of_row w q 1 _ _ (0, 0) hb).trans rfl
    have f1 : w.frozen? ⟨q, 1, none⟩ = false := frozen_of_row w q 1 _ _ hb
    have t1 : decide (p < next) = false := by simpa using hp
    clear hb h1 h2 h3 h4 h5 hp
    go_enter Tryd.func75, Tryd.ntmps75
    go_wp2_with fail
    go_loopw [5] (fun so wr => so = .slice none 0 0 ∧ wr = w.setCell ⟨q, 1, none⟩ (.int .i64 (wrap64 (p + 1)))) (fun _ _ => 0)
    case atStart => exact ⟨rfl, rfl⟩
    case round =>
      obtain ⟨rfl, rfl⟩ := hrel
      go_wp2_with fail
      go_ret
      exact FIN.out _

/-- A pick's block that was just made. -/
theorem news_fourG (w : World) (T K A B : Int) : ∀ j u, ([.int .i64 T, .int .i64 K, .int .i64 A, .int .i64 B] : List Value)[j]? = some u → (w.alloc (.cells #[.int .i64 T, .int .i64 K, .int .i64 A, .int .i64 B] 107)).cell? ((⟨w.heap.size, 0, none⟩ : Addr).add j) = some u := by
  intro j u hu
  have hj : j < 4 := by
    have := (List.getElem?_eq_some_iff.1 hu).1
    simpa using this
  rw [add_zeroG, cell_of_row _ w.heap.size j _ 107 (0, 0) (heap_alloc_new w _), ← hu]
  match j, hj with
  | 0, _ => rfl
  | 1, _ => rfl
  | 2, _ => rfl
  | 3, _ => rfl

/-- How many picks a script's box still has. -/
def leftIn (q : Nat) (w : World) : Nat := match w.cell? ⟨q, 0, none⟩ with
  | some (.slice _ n _) => n
  | _ => 0
theorem Scr.left {q c : Nat} {gv : Nat → Nat → Int} {len pos : Nat} {next : Int} {w : World} (h : Scr q c gv len pos next w) : leftIn q w = len - pos := by
  obtain ⟨adr, cp, hb, _⟩ := h
  have c0 : w.cell? ⟨q, 0, none⟩ = some (.slice adr (len - pos) cp) := (cell_of_row w q 0 _ _ (0, 0) hb).trans rfl
  unfold leftIn
  rw [c0]
theorem Scr.step {q c : Nat} {gv : Nat → Nat → Int} {len pos : Nat} {next : Int} {w : World} (h : Scr q c gv len pos next w) {adr' : Option Addr} {n' cp' : Nat} (hn : n' = len - (pos + 1)) (h1 : n' ≤ cp') (h2 : cp' ≤ maxLen) (h3 : pos + 1 < len → adr' = some ⟨c, (pos + 1) * 4, none⟩) :
    Scr q c gv len (pos + 1) next (w.setCell ⟨q, 0, none⟩ (.slice adr' n' cp')) := by
  obtain ⟨adr, cp, hb, _, _, _, h4, h5⟩ := h
  subst hn
  refine ⟨adr', cp', (heap_setCell_same w q 0 _ _ _ hb).trans rfl, h1, h2, h3, h4, fun i j hi hj => ?_⟩
  rw [World.cell?_setCell_other _ _ _ _ (by simp)]
  exact h5 i j hi hj

theorem own_off {B q : Nat} {w : World} {e size n : Nat} {v : Value} {xs : List Value} (h : w.ownsRow B e size v n xs) (hq : q < B) : v.ownBlock = none ∨ v.ownBlock ≠ some q :=
  .inr fun e => by have := (h.lt q e).1; omega

def AtGo (q c : Nat) (gv : Nat → Nat → Int) (len : Nat) (p : Int) (w : World) (e : Ending) (w' : World) : Prop :=
  ∃ pos a n, e = .returned (.slice a (eqn gv p pos) n) ∧ Cut gv len p pos ∧ Scr q c gv len pos (wrap64 (p + 1)) w' ∧ w'.ownsRow w.heap.size 107 4 (.slice a (eqn gv p pos) n) (eqn gv p pos) (eqs gv p pos) ∧ w.grownBy w' (some q)

def AtRel (q c : Nat) (gv : Nat → Nat → Int) (len : Nat) (p : Int) (w : World) (so : Value) (wr : World) : Prop :=
  ∃ pos, pos ≤ len ∧ (∀ i, i < pos → gv i 0 ≤ p) ∧ Scr q c gv len pos (wrap64 (p + 1)) wr ∧ wr.ownsRow w.heap.size 107 4 so (eqn gv p pos) (eqs gv p pos) ∧ w.grownBy wr (some q)

set_option maxHeartbeats 4000000 in
set_option maxRecDepth 100000 in
theorem at_go (q c : Nat) (gv : Nat → Nat → Int) (len pos : Nat) (last next p : Int) (w : World) (h : Scr q c gv len pos next w) (hf : FairP gv len) (hl : len ≤ 400) (hcut : Cut gv len last pos) (hlp : last < p) (hp : next ≤ p) :
    Calls Tryd.prog 75 #[.pointer (some ⟨q, 0, none⟩), .int .i64 p] w (AtGo q c gv len p w) := by
  obtain ⟨i0, hi, hz0, hz1, hz2⟩ := info_parts pickinfoG
  have HI := Lib.hid hi
  have HZ0 := Lib.hid hz0
  have HZ1 := Lib.hid hz1
  have HZ2 := Lib.hid hz2
  have HF := Lib.hid hf
  have he := eqs_cut hcut hlp
  have R0 : Hid (AtRel q c gv len p w (.slice none 0 0) (w.setCell ⟨q, 1, none⟩ (.int .i64 (wrap64 (p + 1))))) := Lib.hid ⟨pos, hcut.le, fun i hi => by have := hcut.lo i hi; omega, h.next _, by rw [he.1, he.2]; exact World.ownsRow_nil _ _ _ _, grown_setCellG w _ _⟩
  have HQ : Hid (q < w.heap.size ∧ (0 < len → c < w.heap.size)) := Lib.hid ⟨by obtain ⟨_, _, hb, _⟩ := h; exact hb.lt, fun h0 => by obtain ⟨_, _, _, _, _, _, _, h5⟩ := h; exact World.block_lt_of_cell? w _ (h5 0 0 h0 (by omega))⟩
  obtain ⟨adr, cp, hb, h1, h2, h3, h4, h5⟩ := h
  have c1 : w.cell? ⟨q, 1, none⟩ = some (.int .i64 next) := (cell_of_row w q 1 _ _ (0, 0) hb).trans rfl
  have f1 : w.frozen? ⟨q, 1, none⟩ = false := frozen_of_row w q 1 _ _ hb
  have t1 : decide (p < next) = false := by simp; omega
  clear hi hz0 hz1 hz2 hf he h5 h4 h3 h2 h1 hb hp hlp hcut
  go_enter Tryd.func75, Tryd.ntmps75
  go_wp2_with fail
  clear c1 f1
  go_loopw [5] (fun so wr => AtRel q c gv len p w so wr) (fun _ wr => leftIn q wr)
  case atStart => exact R0.out
  case round =>
    obtain ⟨pos, hpos, hlo, hS, hown, hg⟩ := hrel
    clear R0
    have HS := Lib.hid hS
    have HO := Lib.hid hown
    have HG := Lib.hid hg
    have HLO := Lib.hid hlo
    have HML := Lib.hid hS.left
    obtain ⟨adr, cp, hb, h1, h2, h3, h4, h5⟩ := hS
    clear hlo hown hg
    by_cases hlt : pos < len
    · obtain rfl := h3 hlt
      obtain ⟨m, hm⟩ : ∃ m, len - pos = m := ⟨_, rfl⟩
      rw [hm] at hb h1
      have hm0 : 0 < m := by omega
      have c0 : wr.cell? ⟨q, 0, none⟩ = some (.slice (some ⟨c, pos * 4, none⟩) m cp) := (cell_of_row wr q 0 _ _ (0, 0) hb).trans rfl
      have f0 : wr.frozen? ⟨q, 0, none⟩ = false := frozen_of_row wr q 0 _ _ hb
      have k0 := h5 pos 0 hlt (by omega)
      have k1 := h5 pos 1 hlt (by omega)
      have k2 := h5 pos 2 hlt (by omega)
      have k3 := h5 pos 3 hlt (by omega)
      rw [Nat.add_zero] at k0
      have hcl : c < wr.heap.size := World.block_lt_of_cell? wr _ k0
      have t2 : decide (0 < m) = true := by simpa using hm0
      have hcpm : cp ≤ maxLen := h2
      unfold maxLen at h2
      have HEN : Hid (∀ x y z u : Int, gv pos 0 = x → gv pos 1 = y → gv pos 2 = z → gv pos 3 = u → fourG gv pos = [.int .i64 x, .int .i64 y, .int .i64 z, .int .i64 u]) := Lib.hid fun x y z u a b c d => by rw [← a, ← b, ← c, ← d]; rfl
      obtain ⟨T, hT⟩ : ∃ T, gv pos 0 = T := ⟨_, rfl⟩
      obtain ⟨K, hK⟩ : ∃ K, gv pos 1 = K := ⟨_, rfl⟩
      obtain ⟨A, hA⟩ : ∃ A, gv pos 2 = A := ⟨_, rfl⟩
      obtain ⟨B, hB⟩ : ∃ B, gv pos 3 = B := ⟨_, rfl⟩
      have HFO := Lib.hid (HEN.out T K A B hT hK hA hB)
      rw [hT] at k0
      rw [hK] at k1
      rw [hA] at k2
      rw [hB] at k3
      have HT := Lib.hid hT
      have HM := Lib.hid hm
      clear hm hT hK hA hB h5 h4 h3 hb HEN
      by_cases hx : T ≤ p
      · have t3 : decide (T ≤ p) = true := by simpa using hx
        by_cases hxp : T = p
        · have HEQ : Hid (eqn gv p (pos + 1) = eqn gv p pos + 1 ∧ eqs gv p (pos + 1) = eqs gv p pos ++ [.int .i64 T, .int .i64 K, .int .i64 A, .int .i64 B]) := Lib.hid ⟨by rw [eqn, if_pos (by rw [HT.out]; exact hxp)], by rw [eqs, if_pos (by rw [HT.out]; exact hxp), HFO.out]⟩
          have HLO2 : Hid (∀ i, i < pos + 1 → gv i 0 ≤ p) := Lib.hid fun i hi => by
            by_cases e : i = pos
            · subst e; rw [HT.out]; exact hx
            · exact HLO.out i (by omega)
          have t4 : (T == p) = true := by simpa using hxp
          have hel := eqn_le gv p pos
          have hn1 : Hid (eqn gv p pos + 1 ≤ maxLen) := Lib.hid (by unfold maxLen; omega)
          have hn2 : Hid ((eqn gv p pos + 1) * 32 ≤ 140737488355328) := Lib.hid (by omega)
          have HN := Lib.hid (news_fourG wr T K A B)
          have hoc : Hid (∀ u ∈ ([.int .i64 T, .int .i64 K, .int .i64 A, .int .i64 B] : List Value), u.oneCell' = true) := Lib.hid (by simp [Value.oneCell'])
          have hoa := Lib.hid (HO.out.alloc (.cells #[.int .i64 T, .int .i64 K, .int .i64 A, .int .i64 B] 107))
          have hsz : Hid (w.heap.size ≤ (wr.alloc (.cells #[.int .i64 T, .int .i64 K, .int .i64 A, .int .i64 B] 107)).heap.size) := Lib.hid (by have := HG.out.size; simp; omega)
          clear hxp hx hel
          generalize eqn gv p pos = n at *
          generalize eqs gv p pos = xs at *
          go_upto_region 8 with (at_builtin; refine wpList_append_own _ rfl (.tmp 43) (.tmp 50) 88 rfl w.heap.size 107 i0 (.agg #[.int .i64 0, .int .i64 0, .int .i64 0, .int .i64 0]) 4 32 Tryd.underlying88 HI.out HZ0.out HZ1.out HZ2.out rfl (by decide) u5 n xs rfl hoa.out ⟨wr.heap.size, 0, none⟩ 1 1 [.int .i64 T, .int .i64 K, .int .i64 A, .int .i64 B] rfl rfl HN.out hoc.out hn1.out hn2.out hsz.out ?_; intro v5 w5 hown5 hgrow5 hnil5)
          have hS5 : Scr q c gv len pos (wrap64 (p + 1)) w5 := (HS.out.kept (World.grownBy_alloc wr _ none) (by simp) (fun _ => by simp)).kept hgrow5 (fun e => by have := (HO.out.lt q e).1; have := HQ.out.1; omega) (fun h0 e => by have := (HO.out.lt c e).1; have := HQ.out.2 h0; omega)
          have HS5 := Lib.hid hS5
          have HOW : Hid (w5.ownsRow w.heap.size 107 4 v5 (eqn gv p (pos + 1)) (eqs gv p (pos + 1))) := Lib.hid (by rw [HEQ.out.1, HEQ.out.2]; exact hown5)
          have HG5 : Hid (w.grownBy w5 (some q)) := Lib.hid (grown_trans (grown_trans HG.out (World.grownBy_alloc wr _ none) (fun k hk => by cases hk)) hgrow5 (fun k hk => .inr (HO.out.lt k hk).1))
          obtain ⟨adr, cp5, hb5, g1, g2, g3, g4, g5⟩ := hS5
          obtain rfl := g3 hlt
          rw [HM.out] at hb5 g1
          have d0 : w5.cell? ⟨q, 0, none⟩ = some (.slice (some ⟨c, pos * 4, none⟩) m cp5) := (cell_of_row w5 q 0 _ _ (0, 0) hb5).trans rfl
          have e0 : w5.frozen? ⟨q, 0, none⟩ = false := frozen_of_row w5 q 0 _ _ hb5
          have g2' : cp5 ≤ maxLen := g2
          unfold maxLen at g2
          clear hown5 hgrow5 hnil5 hb5 g3 g4 g5 c0 f0 k0 k1 k2 k3 HN hoa
          by_cases hc1 : cp5 = 1
          · subst hc1
            obtain rfl : m = 1 := by omega
            go_wp2_with fail
            go_roundw
            all_goals have hm := HM.out
            case rel => exact ⟨pos + 1, hlt, HLO2.out, HS5.out.step (by omega) (by omega) (by omega) (fun h => by omega), HOW.out.kept (grown_setCellG _ _ _) (own_off HOW.out HQ.out.1), grown_trans HG5.out (grown_setCellG _ _ _) (fun k hk => .inl (by cases hk; rfl))⟩
            case measure => rw [HML.out, (HS5.out.step (adr' := some ⟨c, pos * 4, none⟩) (n' := 0) (cp' := 0) (by omega) (by omega) (by omega) (fun h => by omega)).left]; omega
          · have u3 : (cp5 == 1) = false := by simpa using hc1
            go_wp2_with fail
            go_roundw
            all_goals have hm := HM.out
            case rel => exact ⟨pos + 1, hlt, HLO2.out, HS5.out.step (by omega) (by omega) (by omega) (fun h => by rw [Nat.add_mul, Nat.one_mul]), HOW.out.kept (grown_setCellG _ _ _) (own_off HOW.out HQ.out.1), grown_trans HG5.out (grown_setCellG _ _ _) (fun k hk => .inl (by cases hk; rfl))⟩
            case measure => rw [HML.out, (HS5.out.step (adr' := some ⟨c, pos * 4 + 4, none⟩) (n' := m - 1) (cp' := cp5 - 1) (by omega) (by omega) (by omega) (fun h => by rw [Nat.add_mul, Nat.one_mul])).left]; omega
        · have t4 : (T == p) = false := by simpa using hxp
          have HLO2 : Hid (∀ i, i < pos + 1 → gv i 0 ≤ p) := Lib.hid fun i hi => by
            by_cases e : i = pos
            · subst e; rw [HT.out]; exact hx
            · exact HLO.out i (by omega)
          have HOW : Hid (wr.ownsRow w.heap.size 107 4 u5 (eqn gv p (pos + 1)) (eqs gv p (pos + 1))) := Lib.hid (by
            rw [eqs, eqn, if_neg (by rw [HT.out]; exact hxp), if_neg (by rw [HT.out]; exact hxp)]; exact HO.out)
          by_cases hc1 : cp = 1
          · subst hc1
            obtain rfl : m = 1 := by omega
            go_wp2_with fail
            go_roundw
            all_goals have hm := HM.out
            case rel => exact ⟨pos + 1, hlt, HLO2.out, HS.out.step (by omega) (by omega) (by omega) (fun h => by omega), HOW.out.kept (grown_setCellG _ _ _) (own_off HOW.out HQ.out.1), grown_trans HG.out (grown_setCellG _ _ _) (fun k hk => .inl (by cases hk; rfl))⟩
            case measure => rw [HML.out, (HS.out.step (adr' := some ⟨c, pos * 4, none⟩) (n' := 0) (cp' := 0) (by omega) (by omega) (by omega) (fun h => by omega)).left]; omega
          · have u3 : (cp == 1) = false := by simpa using hc1
            go_wp2_with fail
            go_roundw
            all_goals have hm := HM.out
            case rel => exact ⟨pos + 1, hlt, HLO2.out, HS.out.step (by omega) (by omega) (by omega) (fun h => by rw [Nat.add_mul, Nat.one_mul]), HOW.out.kept (grown_setCellG _ _ _) (own_off HOW.out HQ.out.1), grown_trans HG.out (grown_setCellG _ _ _) (fun k hk => .inl (by cases hk; rfl))⟩
            case measure => rw [HML.out, (HS.out.step (adr' := some ⟨c, pos * 4 + 4, none⟩) (n' := m - 1) (cp' := cp - 1) (by omega) (by omega) (by omega) (fun h => by rw [Nat.add_mul, Nat.one_mul])).left]; omega
      · have t3 : decide (T ≤ p) = false := by simpa using hx
        have HX := Lib.hid hx
        clear hx
        obtain ⟨sa, sc, rfl⟩ := own_shape HO.out
        go_wp2_with fail
        go_ret
        exact ⟨pos, sa, sc, rfl, cut_stop HF.out hpos HLO.out (fun _ => by rw [HT.out]; have := HX.out; omega), HS.out, HO.out, HG.out⟩
    · obtain rfl : pos = len := by omega
      rw [Nat.sub_self] at hb
      have c0 : wr.cell? ⟨q, 0, none⟩ = some (.slice adr 0 cp) := (cell_of_row wr q 0 _ _ (0, 0) hb).trans rfl
      clear hb h1 h2 h3 h4 h5
      obtain ⟨sa, sc, rfl⟩ := own_shape HO.out
      go_wp2_with fail
      go_ret
      exact ⟨pos, sa, sc, rfl, cut_stop HF.out hpos HLO.out (fun h => absurd h (Nat.lt_irrefl _)), HS.out, HO.out, HG.out⟩

end Go.Proofs.YtjcklfbpdjfibaaDoor

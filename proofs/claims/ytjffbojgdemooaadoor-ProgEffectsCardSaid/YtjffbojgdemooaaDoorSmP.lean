/-
  Which programs are the same, both ways.
-/
import Derived.Test.YtjffbojgdemooaaDoorSmM
namespace Go.Proofs.YtjffbojgdemooaaDoor
open Go.RowKit

def eqMs (nm : Nat) (ms : Nat → Meth) (nn : Nat) (ns : Nat → Meth) : Prop := nm = nn ∧ ∀ i, i < nm → eqM (ms i) (ns i)

section
variable {ca cb : Option Addr} {nc cc nd cd : Nat} {f g : Nat → ByteArray} {ma mb : Option Addr} {nm mc nn nc' : Nat} {ms ns : Nat → Meth}

set_option maxHeartbeats 4000000 in
set_option maxRecDepth 100000 in
theorem equal_methods (w : World) (h1 : Prg w ca nc cc f ma nm mc ms) (h2 : Prg w cb nd cd g mb nn nc' ns) (hn : nm ≤ 1000) (hm : nn ≤ 1000) (hs1 : Sml nc f nm ms) (hs2 : Sml nd g nn ns) :
    Calls Tryd.prog 105 #[.slice ma nm mc, .slice mb nn nc', .func (.func 106) #[] #[]] w (SmB (pB (eqMs nm ms nn ns)) w) := by
  by_cases hl : nm = nn
  · subst hl
    have H1 := Lib.hid h1
    have H2 := Lib.hid h2
    have S1 := Lib.hid hs1
    have S2 := Lib.hid hs2
    have FT : Hid ((∀ i, i < nm → eqM (ms i) (ns i)) → pB (eqMs nm ms nm ns) = true) := Lib.hid fun h => pB_yes ⟨rfl, h⟩
    have FF : Hid (∀ i, i < nm → ¬ eqM (ms i) (ns i) → pB (eqMs nm ms nm ns) = false) := Lib.hid fun i hi h => pB_no fun h2 => h (h2.2 i hi)
    have R0 : Hid (SmRelB (fun i => eqM (ms i) (ns i)) nm w (.int .i64 ((0 : Nat) : Int)) w) := Lib.hid ⟨0, Nat.zero_le _, rfl, fun i h => absurd h (Nat.not_lt_zero _), Below.refl _ _⟩
    clear h1 h2 hs1 hs2
    go_enter Tryd.func105, Tryd.ntmps105
    go_wp2_with fail
    go_loopw [17] (fun si wr => SmRelB (fun i => eqM (ms i) (ns i)) nm w si wr) (fun si _ => nm - (intOf si).toNat)
    case atStart => exact R0.out
    case round =>
      clear R0
      obtain ⟨k, hk, rfl, hp, hb⟩ := hrel
      have HB := Lib.hid hb
      by_cases hlt : k < nm
      · have tk : decide (k < nm) = true := by simpa using hlt
        obtain ⟨lb, lo, rfl, hlb, hcl⟩ := Prg_at H1.out (by omega)
        obtain ⟨xb, xo, rfl, hxb, hdl⟩ := Prg_at H2.out (by omega)
        obtain ⟨a0, a1, a2, a3⟩ := hcl k hlt
        obtain ⟨b0, b1, b2, b3⟩ := hdl k hlt
        have c0 := (hb.cell (p := ⟨lb, lo + k * 4, none⟩) hlb).trans a0
        have c1 := (hb.cell (p := ⟨lb, lo + k * 4 + 1, none⟩) hlb).trans a1
        have c2 := (hb.cell (p := ⟨lb, lo + k * 4 + 2, none⟩) hlb).trans a2
        have c3 := (hb.cell (p := ⟨lb, lo + k * 4 + 3, none⟩) hlb).trans a3
        have d0 := (hb.cell (p := ⟨xb, xo + k * 4, none⟩) hxb).trans b0
        have d1 := (hb.cell (p := ⟨xb, xo + k * 4 + 1, none⟩) hxb).trans b1
        have d2 := (hb.cell (p := ⟨xb, xo + k * 4 + 2, none⟩) hxb).trans b2
        have d3 := (hb.cell (p := ⟨xb, xo + k * 4 + 3, none⟩) hxb).trans b3
        have HP := Lib.hid hp
        have FK : Hid (eqM (ms k) (ns k) ∨ (¬ eqM (ms k) (ns k) ∧ pB (eqMs nm ms nm ns) = false)) := Lib.hid (by
          by_cases h : eqM (ms k) (ns k)
          · exact .inl h
          · exact .inr ⟨h, FF.out k hlt h⟩)
        have HN : Hid (eqM (ms k) (ns k) → ∀ i, i < k + 1 → eqM (ms i) (ns i)) := Lib.hid fun h => sm_next (p := fun i => eqM (ms i) (ns i)) HP.out h
        have KS : Hid (∀ w', Below w.heap.size w w' → Calls Tryd.prog 106 #[.agg #[.string (ms k).ps, .string (ms k).ls, .string (ms k).rt, .slice (ms k).co (ms k).len (ms k).cp], .agg #[.string (ns k).ps, .string (ns k).ls, .string (ns k).rt, .slice (ns k).co (ns k).len (ns k).cp]] w' (SmB (pB (eqM (ms k) (ns k))) w')) := Lib.hid fun w' hb' =>
          sameMethod_any _ _ _ _ _ _ _ _ _ _ _ _ _ _ w' ((H1.out.code k hlt).below hb') ((H2.out.code k hlt).below hb') (by have := S1.out.len k hlt; omega) (by have := S2.out.len k hlt; omega)
        have HBM := Lib.hid (hb.trans ((methB_below (ms k).ps (ms k).ls (ms k).rt (ms k).co (ms k).len (ms k).cp (ns k).ps (ns k).ls (ns k).rt (ns k).co (ns k).len (ns k).cp wr).mono hb.size))
        unfold methB at HBM
        clear hcl hdl hp hb a0 a1 a2 a3 b0 b1 b2 b3
        generalize eqM (ms k) (ns k) = P at *
        generalize (ms k).ps = p1 at *
        generalize (ms k).ls = l1 at *
        generalize (ms k).rt = r1 at *
        generalize (ms k).co = o1 at *
        generalize (ms k).len = n1 at *
        generalize (ms k).cp = k1 at *
        generalize (ns k).ps = p2 at *
        generalize (ns k).ls = l2 at *
        generalize (ns k).rt = r2 at *
        generalize (ns k).co = o2 at *
        generalize (ns k).len = n2 at *
        generalize (ns k).cp = k2 at *
        have hal : Below wr.heap.size wr (wr.alloc (.cells #[.string p1, .string l1, .string r1, .slice o1 n1 k1] 62)) := (Below.refl _ _).alloc (Nat.le_refl _) _
        have hlt2 := World.block_lt_of_cell? wr _ d0
        have e0 := (hal.cell (p := ⟨xb, xo + k * 4, none⟩) hlt2).trans d0
        have e1 := (hal.cell (p := ⟨xb, xo + k * 4 + 1, none⟩) hlt2).trans d1
        have e2 := (hal.cell (p := ⟨xb, xo + k * 4 + 2, none⟩) hlt2).trans d2
        have e3 := (hal.cell (p := ⟨xb, xo + k * 4 + 3, none⟩) hlt2).trans d3
        clear hal hlt2 d0 d1 d2 d3
        go_wp2_with fail
        refine (KS.out _ HBM.out).mono ?_
        rintro e w3 ⟨rfl, hb3⟩
        have HB3 : Hid (Below w.heap.size w w3) := Lib.hid (HBM.out.trans (hb3.mono HBM.out.size))
        clear hb3 c0 c1 c2 c3 e0 e1 e2 e3
        rcases FK.out with h | ⟨h, hf⟩
        · rw [pB_yes h]
          have HN2 := Lib.hid (HN.out h)
          clear h
          go_wp2_with fail
          go_roundw
          case rel => exact ⟨k + 1, by omega, by go_num, HN2.out, HB3.out⟩
          case measure => simp [intOf]; omega
        · rw [pB_no h]
          have HF := Lib.hid hf
          clear h hf
          go_wp2_with fail
          go_ret
          exact ⟨by rw [HF.out]; rfl, HB3.out⟩
      · have tk : decide (k < nm) = false := by simpa using hlt
        have HF := Lib.hid (FT.out fun i hi => hp i (by omega))
        clear hp hb
        go_wp2_with fail
        go_ret
        exact ⟨by rw [HF.out]; rfl, HB.out⟩
  · have HF := Lib.hid (pB_no (p := eqMs nm ms nn ns) fun h => hl h.1)
    have hne : ((nm : Int) != (nn : Int)) = true := by simp; omega
    clear h1 h2 hl hs1 hs2
    go_enter Tryd.func105, Tryd.ntmps105
    go_wp2_with fail
    go_ret
    exact ⟨by rw [HF.out]; rfl, Below.refl _ _⟩

set_option maxHeartbeats 4000000 in
set_option maxRecDepth 100000 in
theorem rsame_methods (w : World) (h1 : Prg w ca nc cc f ma nm mc ms) (h2 : Prg w cb nd cd g mb nn nc' ns) (hn : nm ≤ 1000) (hm : nn ≤ 1000) (hs1 : Sml nc f nm ms) (hs2 : Sml nd g nn ns) :
    Calls Tryd.prog 108 #[.slice ma nm mc, .slice mb nn nc'] w (SmB (pB (eqMs nm ms nn ns)) w) := by
  by_cases hl : nm = nn
  · subst hl
    have H1 := Lib.hid h1
    have H2 := Lib.hid h2
    have S1 := Lib.hid hs1
    have S2 := Lib.hid hs2
    have FT : Hid ((∀ i, i < nm → eqM (ms i) (ns i)) → pB (eqMs nm ms nm ns) = true) := Lib.hid fun h => pB_yes ⟨rfl, h⟩
    have FF : Hid (∀ i, i < nm → ¬ eqM (ms i) (ns i) → pB (eqMs nm ms nm ns) = false) := Lib.hid fun i hi h => pB_no fun h2 => h (h2.2 i hi)
    have R0 : Hid (SmRelB (fun i => eqM (ms i) (ns i)) nm w (.int .i64 ((0 : Nat) : Int)) w) := Lib.hid ⟨0, Nat.zero_le _, rfl, fun i h => absurd h (Nat.not_lt_zero _), Below.refl _ _⟩
    clear h1 h2 hs1 hs2
    go_enter Tryd.func108, Tryd.ntmps108
    go_wp2_with fail
    go_loopw [5] (fun si wr => SmRelB (fun i => eqM (ms i) (ns i)) nm w si wr) (fun si _ => nm - (intOf si).toNat)
    case atStart => exact R0.out
    case round =>
      clear R0
      obtain ⟨k, hk, rfl, hp, hb⟩ := hrel
      have HB := Lib.hid hb
      by_cases hlt : k < nm
      · have tk : decide (k < nm) = true := by simpa using hlt
        obtain ⟨lb, lo, rfl, hlb, hcl⟩ := Prg_at H1.out (by omega)
        obtain ⟨xb, xo, rfl, hxb, hdl⟩ := Prg_at H2.out (by omega)
        obtain ⟨a0, a1, a2, a3⟩ := hcl k hlt
        obtain ⟨b0, b1, b2, b3⟩ := hdl k hlt
        have c0 := (hb.cell (p := ⟨lb, lo + k * 4, none⟩) hlb).trans a0
        have c1 := (hb.cell (p := ⟨lb, lo + k * 4 + 1, none⟩) hlb).trans a1
        have c2 := (hb.cell (p := ⟨lb, lo + k * 4 + 2, none⟩) hlb).trans a2
        have c3 := (hb.cell (p := ⟨lb, lo + k * 4 + 3, none⟩) hlb).trans a3
        have d0 := (hb.cell (p := ⟨xb, xo + k * 4, none⟩) hxb).trans b0
        have d1 := (hb.cell (p := ⟨xb, xo + k * 4 + 1, none⟩) hxb).trans b1
        have d2 := (hb.cell (p := ⟨xb, xo + k * 4 + 2, none⟩) hxb).trans b2
        have d3 := (hb.cell (p := ⟨xb, xo + k * 4 + 3, none⟩) hxb).trans b3
        have HP := Lib.hid hp
        have FK : Hid (eqM (ms k) (ns k) ∨ (¬ eqM (ms k) (ns k) ∧ pB (eqMs nm ms nm ns) = false)) := Lib.hid (by
          by_cases h : eqM (ms k) (ns k)
          · exact .inl h
          · exact .inr ⟨h, FF.out k hlt h⟩)
        have HN : Hid (eqM (ms k) (ns k) → ∀ i, i < k + 1 → eqM (ms i) (ns i)) := Lib.hid fun h => sm_next (p := fun i => eqM (ms i) (ns i)) HP.out h
        have KS : Hid (∀ w', Below w.heap.size w w' → Calls Tryd.prog 158 #[.agg #[.string (ms k).ps, .string (ms k).ls, .string (ms k).rt, .slice (ms k).co (ms k).len (ms k).cp], .agg #[.string (ns k).ps, .string (ns k).ls, .string (ns k).rt, .slice (ns k).co (ns k).len (ns k).cp]] w' (SmB (pB (eqM (ms k) (ns k))) w')) := Lib.hid fun w' hb' =>
          rsameMethod_any _ _ _ _ _ _ _ _ _ _ _ _ _ _ w' ((H1.out.code k hlt).below hb') ((H2.out.code k hlt).below hb') (by have := S1.out.len k hlt; omega) (by have := S2.out.len k hlt; omega)
        have HBD := Lib.hid (below_drew hb)
        have q1 : (0 : Int) ≤ (k : Int) := by omega
        have q2 : (k : Int) < (nm : Int) := by omega
        clear hcl hdl hp hb a0 a1 a2 a3 b0 b1 b2 b3
        generalize eqM (ms k) (ns k) = P at *
        generalize (ms k).ps = p1 at *
        generalize (ms k).ls = l1 at *
        generalize (ms k).rt = r1 at *
        generalize (ms k).co = o1 at *
        generalize (ms k).len = n1 at *
        generalize (ms k).cp = k1 at *
        generalize (ns k).ps = p2 at *
        generalize (ns k).ls = l2 at *
        generalize (ns k).rt = r2 at *
        generalize (ns k).co = o2 at *
        generalize (ns k).len = n2 at *
        generalize (ns k).cp = k2 at *
        go_wp2_with fail
        go_still_tail 8, (by kernel_rfl)
        change wpList _ _ _ _ _ wr.drew
        clear c0 c1 c2 c3 d0 d1 d2 d3
        generalize wr.drew = w2 at *
        go_wp2_with fail
        refine (KS.out _ HBD.out).mono ?_
        rintro e w3 ⟨rfl, hb3⟩
        have HB3 : Hid (Below w.heap.size w w3) := Lib.hid (HBD.out.trans (hb3.mono HBD.out.size))
        clear hb3
        rcases FK.out with h | ⟨h, hf⟩
        · rw [pB_yes h]
          have HN2 := Lib.hid (HN.out h)
          clear h
          go_wp2_with fail
          go_roundw
          case rel => exact ⟨k + 1, by omega, by go_num, HN2.out, HB3.out⟩
          case measure => simp [intOf]; omega
        · rw [pB_no h]
          have HF := Lib.hid hf
          clear h hf
          go_wp2_with fail
          go_ret
          exact ⟨by rw [HF.out]; rfl, HB3.out⟩
      · have tk : decide (k < nm) = false := by simpa using hlt
        have HF := Lib.hid (FT.out fun i hi => hp i (by omega))
        clear hp hb
        go_wp2_with fail
        go_ret
        exact ⟨by rw [HF.out]; rfl, HB.out⟩
  · have HF := Lib.hid (pB_no (p := eqMs nm ms nn ns) fun h => hl h.1)
    have hne : ((nm : Int) != (nn : Int)) = true := by simp; omega
    clear h1 h2 hl hs1 hs2
    go_enter Tryd.func108, Tryd.ntmps108
    go_wp2_with fail
    go_ret
    exact ⟨by rw [HF.out]; rfl, Below.refl _ _⟩

def prog2 (ca : Option Addr) (nc cc : Nat) (ma : Option Addr) (nm mc : Nat) (cb : Option Addr) (nd cd : Nat) (mb : Option Addr) (nn nc' : Nat) (w : World) : World :=
  (w.alloc (.cells #[.slice ca nc cc, .slice ma nm mc] 46)).alloc (.cells #[.slice cb nd cd, .slice mb nn nc'] 46)
theorem prog2_below {w : World} : Below w.heap.size w (prog2 ca nc cc ma nm mc cb nd cd mb nn nc' w) := ((Below.refl _ _).alloc (Nat.le_refl _) _).alloc (by simp) _
theorem prog2_cells {w w' : World} (hb : Below (prog2 ca nc cc ma nm mc cb nd cd mb nn nc' w).heap.size (prog2 ca nc cc ma nm mc cb nd cd mb nn nc' w) w') : (w'.cell? ⟨w.heap.size, 0, none⟩ = some (.slice ca nc cc) ∧ w'.cell? ⟨w.heap.size, 1, none⟩ = some (.slice ma nm mc)) ∧ w'.cell? ⟨w.heap.size + 1, 0, none⟩ = some (.slice cb nd cd) ∧ w'.cell? ⟨w.heap.size + 1, 1, none⟩ = some (.slice mb nn nc') := by
  have e : (w.alloc (.cells #[.slice ca nc cc, .slice ma nm mc] 46)).heap.size = w.heap.size + 1 := by simp
  have e2 : (prog2 ca nc cc ma nm mc cb nd cd mb nn nc' w).heap.size = w.heap.size + 1 + 1 := by simp [prog2]
  have h1 : (prog2 ca nc cc ma nm mc cb nd cd mb nn nc' w).heap[w.heap.size]? = some (.cells #[.slice ca nc cc, .slice ma nm mc] 46 (0, 0)) := by
    unfold prog2
    rw [Below.heap_alloc _ _ _ (by simp)]
    exact heap_alloc_new w _
  have h2 : (prog2 ca nc cc ma nm mc cb nd cd mb nn nc' w).heap[w.heap.size + 1]? = some (.cells #[.slice cb nd cd, .slice mb nn nc'] 46 (0, 0)) := by
    have := heap_alloc_new (w.alloc (.cells #[.slice ca nc cc, .slice ma nm mc] 46)) (.cells #[.slice cb nd cd, .slice mb nn nc'] 46)
    rw [e] at this
    exact this
  have g1 := (hb.block w.heap.size (by omega)).trans h1
  have g2 := (hb.block (w.heap.size + 1) (by omega)).trans h2
  exact ⟨⟨(cell_of_row _ _ 0 _ 46 (0, 0) g1).trans rfl, (cell_of_row _ _ 1 _ 46 (0, 0) g1).trans rfl⟩, (cell_of_row _ _ 0 _ 46 (0, 0) g2).trans rfl, (cell_of_row _ _ 1 _ 46 (0, 0) g2).trans rfl⟩

set_option maxHeartbeats 4000000 in
set_option maxRecDepth 100000 in
theorem same_any (w : World) (h1 : Prg w ca nc cc f ma nm mc ms) (h2 : Prg w cb nd cd g mb nn nc' ns) (hc : nc ≤ 1000) (hd : nd ≤ 1000) (hn : nm ≤ 1000) (hm : nn ≤ 1000) (hs1 : Sml nc f nm ms) (hs2 : Sml nd g nn ns) :
    Calls Tryd.prog 38 #[.agg #[.slice ca nc cc, .slice ma nm mc], .agg #[.slice cb nd cd, .slice mb nn nc']] w (SmB (pB (eqC nc f nd g ∧ eqMs nm ms nn ns)) w) := by
  have hb := prog2_below (ca := ca) (nc := nc) (cc := cc) (ma := ma) (nm := nm) (mc := mc) (cb := cb) (nd := nd) (cd := cd) (mb := mb) (nn := nn) (nc' := nc') (w := w)
  have HB := Lib.hid hb
  have CM : Hid (∀ w', Below (prog2 ca nc cc ma nm mc cb nd cd mb nn nc' w).heap.size (prog2 ca nc cc ma nm mc cb nd cd mb nn nc' w) w' → _) := Lib.hid fun w' h => prog2_cells h
  have KC := Lib.hid (equal_classes ca cb nc cc nd cd f g _ (h1.cls.below hb) (h2.cls.below hb) (by omega) (by omega))
  have KM : Hid (∀ w', Below w.heap.size w w' → Calls Tryd.prog 105 #[.slice ma nm mc, .slice mb nn nc', .func (.func 106) #[] #[]] w' (SmB (pB (eqMs nm ms nn ns)) w')) := Lib.hid fun w' hb' => equal_methods w' (h1.below hb') (h2.below hb') hn hm hs1 hs2
  unfold prog2 at HB KC CM
  clear hb h1 h2 hs1 hs2
  rw [← pB_and]
  obtain ⟨b, hbb⟩ : ∃ b, pB (eqC nc f nd g) = b := ⟨_, rfl⟩
  obtain ⟨b2, hbb2⟩ : ∃ b, pB (eqMs nm ms nn ns) = b := ⟨_, rfl⟩
  rw [hbb, hbb2]
  rw [hbb] at KC
  rw [hbb2] at KM
  clear hbb hbb2
  cases b with
  | false =>
    go_enter Tryd.func38, Tryd.ntmps38
    go_wp2_with fail
    refine KC.out.mono ?_
    rintro e w' ⟨rfl, q, rfl⟩
    go_wp2_with fail
    go_ret
    exact ⟨rfl, below_drewN HB.out _⟩
  | true =>
    go_enter Tryd.func38, Tryd.ntmps38
    go_wp2_with fail
    refine KC.out.mono ?_
    rintro e w' ⟨rfl, q, rfl⟩
    have HB1 := Lib.hid (below_drewN HB.out q)
    obtain ⟨⟨m0, m1⟩, n0, n1⟩ := CM.out _ (below_drewN (Below.refl _ _) q)
    go_wp2_with (go_at_call 105; refine (KM.out _ HB1.out).mono ?_; rintro e w' ⟨rfl, hb2⟩)
    go_ret
    exact ⟨rfl, HB1.out.trans (hb2.mono HB1.out.size)⟩

set_option maxHeartbeats 4000000 in
set_option maxRecDepth 100000 in
theorem rsame_any (w : World) (h1 : Prg w ca nc cc f ma nm mc ms) (h2 : Prg w cb nd cd g mb nn nc' ns) (hc : nc ≤ 1000) (hd : nd ≤ 1000) (hn : nm ≤ 1000) (hm : nn ≤ 1000) (hs1 : Sml nc f nm ms) (hs2 : Sml nd g nn ns) :
    Calls Tryd.prog 39 #[.agg #[.slice ca nc cc, .slice ma nm mc], .agg #[.slice cb nd cd, .slice mb nn nc']] w (SmB (pB (eqC nc f nd g ∧ eqMs nm ms nn ns)) w) := by
  have hb := prog2_below (ca := ca) (nc := nc) (cc := cc) (ma := ma) (nm := nm) (mc := mc) (cb := cb) (nd := nd) (cd := cd) (mb := mb) (nn := nn) (nc' := nc') (w := w)
  have HB := Lib.hid hb
  have CM : Hid (∀ w', Below (prog2 ca nc cc ma nm mc cb nd cd mb nn nc' w).heap.size (prog2 ca nc cc ma nm mc cb nd cd mb nn nc' w) w' → _) := Lib.hid fun w' h => prog2_cells h
  have KC := Lib.hid (rsame_classes ca cb nc cc nd cd f g _ (h1.cls.below hb) (h2.cls.below hb) (by omega) (by omega))
  have KM : Hid (∀ w', Below w.heap.size w w' → Calls Tryd.prog 108 #[.slice ma nm mc, .slice mb nn nc'] w' (SmB (pB (eqMs nm ms nn ns)) w')) := Lib.hid fun w' hb' => rsame_methods w' (h1.below hb') (h2.below hb') hn hm hs1 hs2
  unfold prog2 at HB KC CM
  clear hb h1 h2 hs1 hs2
  rw [← pB_and]
  obtain ⟨b, hbb⟩ : ∃ b, pB (eqC nc f nd g) = b := ⟨_, rfl⟩
  obtain ⟨b2, hbb2⟩ : ∃ b, pB (eqMs nm ms nn ns) = b := ⟨_, rfl⟩
  rw [hbb, hbb2]
  rw [hbb] at KC
  rw [hbb2] at KM
  clear hbb hbb2
  go_enter Tryd.func39, Tryd.ntmps39
  go_wp2_with fail
  refine KC.out.mono ?_
  rintro e w1 ⟨rfl, hb1⟩
  have HB1 : Hid (Below w.heap.size w w1) := Lib.hid (HB.out.trans (hb1.mono HB.out.size))
  obtain ⟨⟨m0, m1⟩, n0, n1⟩ := CM.out _ hb1
  clear hb1
  go_wp2_with fail
  refine (KM.out _ HB1.out).mono ?_
  rintro e w2 ⟨rfl, hb2⟩
  have HB2 : Hid (Below w.heap.size w w2) := Lib.hid (HB1.out.trans (hb2.mono HB1.out.size))
  clear hb2 m0 m1 n0 n1
  cases b <;> cases b2
  all_goals
    go_wp2_with fail
    go_ret
    exact ⟨rfl, HB2.out⟩
end

end Go.Proofs.YtjffbojgdemooaaDoor

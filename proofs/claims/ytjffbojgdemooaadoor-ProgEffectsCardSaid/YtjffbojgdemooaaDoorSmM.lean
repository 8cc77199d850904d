/-
  Which methods, and which programs, are the same, both ways.
-/
import Derived.Test.YtjffbojgdemooaaDoorSmI
import Derived.Test.YtjffbojgdemooaaDoorRfC
namespace Go.Proofs.YtjffbojgdemooaaDoor
open Go.RowKit

def eqM (x y : Meth) : Prop := (x.ps = y.ps ∧ x.ls = y.ls ∧ x.rt = y.rt) ∧ eqI x.len x.gv y.len y.gv

/-- The first of three texts that differs. -/
theorem three_ways {a0 a1 a2 b0 b1 b2 : ByteArray} : (a0 = b0 ∧ a1 = b1 ∧ a2 = b2) ∨ ¬ a0 = b0 ∨ (a0 = b0 ∧ ¬ a1 = b1) ∨ (a0 = b0 ∧ a1 = b1 ∧ ¬ a2 = b2) := by
  by_cases h0 : a0 = b0
  · by_cases h1 : a1 = b1
    · by_cases h2 : a2 = b2
      · exact .inl ⟨h0, h1, h2⟩
      · exact .inr (.inr (.inr ⟨h0, h1, h2⟩))
    · exact .inr (.inr (.inl ⟨h0, h1⟩))
  · exact .inr (.inl h0)

def methB (p1 l1 r1 : ByteArray) (c1 : Option Addr) (n1 k1 : Nat) (p2 l2 r2 : ByteArray) (c2 : Option Addr) (n2 k2 : Nat) (w : World) : World :=
  (w.alloc (.cells #[.string p1, .string l1, .string r1, .slice c1 n1 k1] 62)).alloc (.cells #[.string p2, .string l2, .string r2, .slice c2 n2 k2] 62)
theorem methB_below (p1 l1 r1 : ByteArray) (c1 : Option Addr) (n1 k1 : Nat) (p2 l2 r2 : ByteArray) (c2 : Option Addr) (n2 k2 : Nat) (w : World) : Below w.heap.size w (methB p1 l1 r1 c1 n1 k1 p2 l2 r2 c2 n2 k2 w) := ((Below.refl _ _).alloc (Nat.le_refl _) _).alloc (by simp) _
theorem methB_cells {p1 l1 r1 : ByteArray} {c1 : Option Addr} {n1 k1 : Nat} {p2 l2 r2 : ByteArray} {c2 : Option Addr} {n2 k2 : Nat} {w w' : World} (hb : Below (methB p1 l1 r1 c1 n1 k1 p2 l2 r2 c2 n2 k2 w).heap.size (methB p1 l1 r1 c1 n1 k1 p2 l2 r2 c2 n2 k2 w) w') : MBox p1 l1 r1 c1 n1 k1 w.heap.size w' ∧ MBox p2 l2 r2 c2 n2 k2 (w.heap.size + 1) w' := by
  have e : (w.alloc (.cells #[.string p1, .string l1, .string r1, .slice c1 n1 k1] 62)).heap.size = w.heap.size + 1 := by simp
  have e2 : (methB p1 l1 r1 c1 n1 k1 p2 l2 r2 c2 n2 k2 w).heap.size = w.heap.size + 1 + 1 := by simp [methB]
  have h1 : (methB p1 l1 r1 c1 n1 k1 p2 l2 r2 c2 n2 k2 w).heap[w.heap.size]? = some (.cells #[.string p1, .string l1, .string r1, .slice c1 n1 k1] 62 (0, 0)) := by
    unfold methB
    rw [Below.heap_alloc _ _ _ (by simp)]
    exact heap_alloc_new w _
  have h2 : (methB p1 l1 r1 c1 n1 k1 p2 l2 r2 c2 n2 k2 w).heap[w.heap.size + 1]? = some (.cells #[.string p2, .string l2, .string r2, .slice c2 n2 k2] 62 (0, 0)) := by
    have := heap_alloc_new (w.alloc (.cells #[.string p1, .string l1, .string r1, .slice c1 n1 k1] 62)) (.cells #[.string p2, .string l2, .string r2, .slice c2 n2 k2] 62)
    rw [e] at this
    exact this
  have g1 := (hb.block w.heap.size (by omega)).trans h1
  have g2 := (hb.block (w.heap.size + 1) (by omega)).trans h2
  exact ⟨⟨(cell_of_row _ _ 0 _ 62 (0, 0) g1).trans rfl, (cell_of_row _ _ 1 _ 62 (0, 0) g1).trans rfl, (cell_of_row _ _ 2 _ 62 (0, 0) g1).trans rfl, (cell_of_row _ _ 3 _ 62 (0, 0) g1).trans rfl⟩,
    (cell_of_row _ _ 0 _ 62 (0, 0) g2).trans rfl, (cell_of_row _ _ 1 _ 62 (0, 0) g2).trans rfl, (cell_of_row _ _ 2 _ 62 (0, 0) g2).trans rfl, (cell_of_row _ _ 3 _ 62 (0, 0) g2).trans rfl⟩

set_option maxHeartbeats 4000000 in
set_option maxRecDepth 100000 in
theorem sameMethod_any (p1 l1 r1 : ByteArray) (c1 : Option Addr) (n1 k1 : Nat) (g1 : Nat → Nat → Int) (p2 l2 r2 : ByteArray) (c2 : Option Addr) (n2 k2 : Nat) (g2 : Nat → Nat → Int) (w : World) (h1 : Picks w c1 n1 k1 g1) (h2 : Picks w c2 n2 k2 g2) (hn : n1 ≤ 1000000) (hm : n2 ≤ 1000000) :
    Calls Tryd.prog 106 #[.agg #[.string p1, .string l1, .string r1, .slice c1 n1 k1], .agg #[.string p2, .string l2, .string r2, .slice c2 n2 k2]] w (SmB (pB ((p1 = p2 ∧ l1 = l2 ∧ r1 = r2) ∧ eqI n1 g1 n2 g2)) w) := by
  have hb := methB_below p1 l1 r1 c1 n1 k1 p2 l2 r2 c2 n2 k2 w
  have HB := Lib.hid hb
  have KE := Lib.hid (equal_instrs c1 c2 n1 k1 n2 k2 g1 g2 _ (h1.below hb) (h2.below hb) hn hm)
  unfold methB at HB KE
  clear hb h1 h2
  obtain ⟨b, hbb⟩ : ∃ b, pB (eqI n1 g1 n2 g2) = b := ⟨_, rfl⟩
  rcases three_ways (a0 := p1) (a1 := l1) (a2 := r1) (b0 := p2) (b1 := l2) (b2 := r2) with ⟨rfl, rfl, rfl⟩ | h | ⟨rfl, h⟩ | ⟨rfl, rfl, h⟩
  · have e : pB ((p1 = p1 ∧ l1 = l1 ∧ r1 = r1) ∧ eqI n1 g1 n2 g2) = b := by rw [← hbb, ← pB_and, pB_yes (p := p1 = p1 ∧ l1 = l1 ∧ r1 = r1) ⟨rfl, rfl, rfl⟩]; rfl
    rw [e]
    rw [hbb] at KE
    clear e hbb
    go_enter Tryd.func106, Tryd.ntmps106
    go_wp2_with (go_at_call 156; refine KE.out.mono ?_; rintro e w' ⟨rfl, q, rfl⟩)
    go_ret
    exact ⟨by cases b <;> rfl, below_drewN HB.out _⟩
  all_goals
    rw [pB_no (fun e => h (by simp [e]))]
    have hs := str_ne' h
    have hs2 : ¬ ByteArray.toList _ = ByteArray.toList _ := fun e => h (str_eq'.1 e)
    clear h hbb KE
    go_enter Tryd.func106, Tryd.ntmps106
    go_wp2_with fail
    go_ret
    exact ⟨by first | rfl | simp [hs2], HB.out⟩

set_option maxHeartbeats 4000000 in
set_option maxRecDepth 100000 in
theorem rsameMethod_any (p1 l1 r1 : ByteArray) (c1 : Option Addr) (n1 k1 : Nat) (g1 : Nat → Nat → Int) (p2 l2 r2 : ByteArray) (c2 : Option Addr) (n2 k2 : Nat) (g2 : Nat → Nat → Int) (w : World) (h1 : Picks w c1 n1 k1 g1) (h2 : Picks w c2 n2 k2 g2) (hn : n1 ≤ 1000000) (hm : n2 ≤ 1000000) :
    Calls Tryd.prog 158 #[.agg #[.string p1, .string l1, .string r1, .slice c1 n1 k1], .agg #[.string p2, .string l2, .string r2, .slice c2 n2 k2]] w (SmB (pB ((p1 = p2 ∧ l1 = l2 ∧ r1 = r2) ∧ eqI n1 g1 n2 g2)) w) := by
  have hb := methB_below p1 l1 r1 c1 n1 k1 p2 l2 r2 c2 n2 k2 w
  have HB := Lib.hid hb
  have CM : Hid (∀ w', Below (methB p1 l1 r1 c1 n1 k1 p2 l2 r2 c2 n2 k2 w).heap.size (methB p1 l1 r1 c1 n1 k1 p2 l2 r2 c2 n2 k2 w) w' → MBox p1 l1 r1 c1 n1 k1 w.heap.size w' ∧ MBox p2 l2 r2 c2 n2 k2 (w.heap.size + 1) w') := Lib.hid fun w' h => methB_cells h
  have KE := Lib.hid (rsame_instrs c1 c2 n1 k1 n2 k2 g1 g2 _ (h1.below hb) (h2.below hb) hn hm)
  unfold methB at HB KE CM
  clear hb h1 h2
  obtain ⟨b, hbb⟩ : ∃ b, pB (eqI n1 g1 n2 g2) = b := ⟨_, rfl⟩
  have hands : ∀ q : Prop, pB (q ∧ eqI n1 g1 n2 g2) = (pB q && b) := fun q => by rw [← hbb, pB_and]
  rw [hands]
  rw [hbb] at KE
  clear hbb hands
  rcases three_ways (a0 := p1) (a1 := l1) (a2 := r1) (b0 := p2) (b1 := l2) (b2 := r2) with ⟨rfl, rfl, rfl⟩ | h | ⟨rfl, h⟩ | ⟨rfl, rfl, h⟩
  · rw [pB_yes (p := p1 = p1 ∧ l1 = l1 ∧ r1 = r1) ⟨rfl, rfl, rfl⟩]
    go_enter Tryd.func158, Tryd.ntmps158
    go_wp2_with fail
    refine KE.out.mono ?_
    rintro e w' ⟨rfl, hb2⟩
    obtain ⟨⟨m0, m1, m2, m3⟩, n0, n1, n2, n3⟩ := CM.out w' hb2
    have HB2 := Lib.hid (HB.out.trans (hb2.mono HB.out.size))
    clear hb2 KE
    go_wp2_with fail
    go_ret
    exact ⟨by cases b <;> rfl, HB2.out⟩
  all_goals
    rw [pB_no (fun e => h (by simp [e]))]
    have hs := str_ne' h
    have hs2 : ¬ ByteArray.toList _ = ByteArray.toList _ := fun e => h (str_eq'.1 e)
    clear h
    go_enter Tryd.func158, Tryd.ntmps158
    go_wp2_with fail
    refine KE.out.mono ?_
    rintro e w' ⟨rfl, hb2⟩
    obtain ⟨⟨m0, m1, m2, m3⟩, n0, n1, n2, n3⟩ := CM.out w' hb2
    have HB2 := Lib.hid (HB.out.trans (hb2.mono HB.out.size))
    clear hb2 KE
    go_wp2_with fail
    go_ret
    exact ⟨by first | rfl | simp [hs2], HB2.out⟩

end Go.Proofs.YtjffbojgdemooaaDoor

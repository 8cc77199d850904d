/-
  Package prog: May of a program of which counts alone can be wrong.
-/
import Derived.Test.YtjcklfbpdjfibaaDoorPOne0
namespace Go.Proofs.YtjcklfbpdjfibaaDoor
open Go.RowKit

theorem icRet (nc nm lo : Nat) (f : Nat → ByteArray) (len : Nat) (gv : Nat → Nat → Int) (j : Nat) (h : gv j 0 = 33 ∧ gv j 1 = 0 ∧ gv j 2 = 0 ∧ gv j 3 = 0) : icOf nc nm lo f len gv j = 0 := by
  obtain ⟨h0, h1, h2, h3⟩ := h
  rw [icOf, h0, h1, h2, h3]
  have e : namedB nc nm lo (fun i => (f i).size) 33 0 0 = true := by simp [namedB]
  rw [e, instrC, if_neg (by omega), if_neg (by simp), if_neg (fun h => by omega), if_neg (fun h => by
    rcases h with ⟨_, h⟩ | ⟨_, h⟩ | ⟨_, h⟩ <;> exact h rfl)]

/-- One of a program's methods: what lies in its four cells. -/
structure MethAt (w : World) (mb mo m : Nat) (ps ls rt : ByteArray) (co : Option Addr) (len cp : Nat) : Prop where
  x0 : w.cell? ⟨mb, mo + m * 4, none⟩ = some (.string ps)
  x1 : w.cell? ⟨mb, mo + m * 4 + 1, none⟩ = some (.string ls)
  x2 : w.cell? ⟨mb, mo + m * 4 + 2, none⟩ = some (.string rt)
  x3 : w.cell? ⟨mb, mo + m * 4 + 3, none⟩ = some (.slice co len cp)

theorem MethAt.below {w w' : World} {mb mo m : Nat} {ps ls rt : ByteArray} {co : Option Addr} {len cp : Nat} (h : MethAt w mb mo m ps ls rt co len cp) (hb : Below w.heap.size w w') : MethAt w' mb mo m ps ls rt co len cp :=
  ⟨(hb.cell (World.block_lt_of_cell? w _ h.x0)).trans h.x0, (hb.cell (World.block_lt_of_cell? w _ h.x1)).trans h.x1, (hb.cell (World.block_lt_of_cell? w _ h.x2)).trans h.x2, (hb.cell (World.block_lt_of_cell? w _ h.x3)).trans h.x3⟩

theorem Cls.belowC {w w' : World} {a : Option Addr} {len cap : Nat} {f : Nat → ByteArray} (h : Cls w a len cap f) (hb : Below w.heap.size w w') : Cls w' a len cap f :=
  ⟨h.le, h.max, h.nil, fun ad had i hi => (hb.cell (World.block_lt_of_cell? w _ (h.cells ad had i hi))).trans (h.cells ad had i hi)⟩

/-- A method whose counts alone can be wrong. -/
structure MethFair (w : World) (mb mo m : Nat) (ps ls : ByteArray) (co : Option Addr) (len cp : Nat) : Prop where
  lies : MethAt w mb mo m ps ls ⟨#[]⟩ co len cp
  code : ∃ gv, Picks w co len cp gv ∧ ∀ j, j < len → gv j 0 = 33 ∧ gv j 1 = 0 ∧ gv j 2 = 0 ∧ gv j 3 = 0
  small : ps.size ≤ 1000000 ∧ ls.size ≤ 1000000 ∧ len ≤ 1000000
  fair : Fair ps ∧ Fair ls
  first : m = 0 → ps = ⟨#[]⟩

theorem may_counts (a : Nat → Addr) (ca : Option Addr) (nc cc : Nat) (mb mo nm mc : Nat) (f ps ls : Nat → ByteArray) (co : Nat → Option Addr) (len cp : Nat → Nat) (kc n : Nat) (w : World) (h : Sents a w)
    (h1 : nc ≤ 12) (h2 : 1 ≤ nm) (h3 : nm ≤ 12) (hF : Cls w ca nc cc f) (hfc : ∀ i, i < nc → Fair (f i) ∧ (f i).size ≤ 1000000)
    (hk : kc ≤ nc) (hok : ∀ i, i < kc → (f i).size ≤ 10) (hbad : kc < nc → 10 < (f kc).size)
    (hM : ∀ i, i < nm → MethFair w mb mo i (ps i) (ls i) (co i) (len i) (cp i))
    (hn : n ≤ nm) (gok : ∀ i, i < n → headC (ps i).size (ls i).size (len i) = 0) (gbad : n < nm → headC (ps n).size (ls n).size (len n) = 1) :
    Calls Tryd.prog 35 #[.agg #[.slice ca nc cc, .slice (some ⟨mb, mo, none⟩) nm mc]] w (WherePost a (if kc < nc then some (0, (kc : Int), -1) else if n < nm then some (0, (n : Int), -1) else none) w) := by
  have key := May_any a ca nc cc (some ⟨mb, mo, none⟩) nm mc f kc n (fun i => if 10 < (f i).size then 1 else 0) (fun i => if headC (ps i).size (ls i).size (len i) = 0 then none else some (0, (i : Int), -1)) w h1 h2 h3 hF
    (fun i hi w' hb => mayClass_any a (f i) w' (h.below hb) (hfc i hi).2 (hfc i hi).1)
    hk (fun i hi => if_neg (by have := hok i hi; omega)) (fun hlt => by
      show (if 10 < (f kc).size then 1 else 0) ≠ 0
      rw [if_pos (hbad hlt)]; decide)
    (fun i hi w' hb => by
      have hm := hM i hi
      obtain ⟨gv, hp, hr⟩ := hm.code
      have hl := hm.lies.below hb
      have r := meth_is a ca nc cc f mb mo nm mc i (ps i) (ls i) ⟨#[]⟩ (co i) (len i) (cp i) gv (len i) w' (h.below hb) hi (by omega) (by omega) hm.small.2.2 (hF.belowC hb) (hp.below hb)
        hl.x0 hl.x1 hl.x2 hl.x3 hm.small.1 hm.small.2.1 hm.fair.1 hm.fair.2 (.inl rfl) hm.first (Nat.le_refl _) (fun j hj => icRet _ _ _ _ _ _ _ (hr j hj)) (fun hh => absurd hh (Nat.lt_irrefl _))
      have e : methW (headC (ps i).size (ls i).size (len i)) i (len i) (len i) (icOf nc nm ((ps i).size + (ls i).size) f (len i) gv) = (if headC (ps i).size (ls i).size (len i) = 0 then none else some (0, (i : Int), -1)) := by
        have hc : headC (ps i).size (ls i).size (len i) = 0 ∨ headC (ps i).size (ls i).size (len i) = 1 := by
          unfold headC
          split
          · exact .inr rfl
          · exact .inl rfl
        rcases hc with hc | hc
        · rw [hc, methW, if_neg (by simp), if_neg (Nat.lt_irrefl _), if_pos rfl]
        · rw [hc, methW, if_pos (by simp), if_neg (by simp)]
      rw [e] at r
      exact r)
    hn (fun i hi => by
      show (if _ then _ else _) = none
      rw [if_pos (gok i hi)]) (fun hlt => by
      show (if _ then _ else _) ≠ none
      rw [if_neg (by rw [gbad hlt]; decide)]
      simp)
  have e : progW nc kc nm n (fun i => if 10 < (f i).size then 1 else 0) (fun i => if headC (ps i).size (ls i).size (len i) = 0 then none else some (0, (i : Int), -1)) = (if kc < nc then some (0, (kc : Int), -1) else if n < nm then some (0, (n : Int), -1) else none) := by
    unfold progW
    by_cases hk2 : kc < nc
    · rw [if_pos hk2, if_pos hk2]
      show some ((if 10 < (f kc).size then 1 else 0) - 1, (kc : Int), (-1 : Int)) = _
      rw [if_pos (hbad hk2)]
    · rw [if_neg hk2, if_neg hk2]
      by_cases hn2 : n < nm
      · rw [if_pos hn2, if_pos hn2]
        show (if _ then _ else _) = _
        rw [if_neg (by rw [gbad hn2]; decide)]
      · rw [if_neg hn2, if_neg hn2]
  rw [e] at key
  exact key

/-- Too many classes, or methods. -/
theorem may_toomany (a : Nat → Addr) (ca : Option Addr) (nc cc : Nat) (ma : Option Addr) (nm mc : Nat) (w : World) (h : Sents a w) (hs : nc ≤ 1000000 ∧ nm ≤ 1000000) (hm : 12 < nc ∨ 12 < nm) :
    Calls Tryd.prog 35 #[.agg #[.slice ca nc cc, .slice ma nm mc]] w fun e w' => e = .returned (.iface 211 (.pointer (some (a 0)))) ∧ Below w.heap.size w w' := by
  have hbl : Below w.heap.size w (w.alloc (.cells #[.slice ca nc cc, .slice ma nm mc] 46)) := (Below.refl _ _).alloc (Nat.le_refl _) _
  have c0 := (h.below hbl).c0
  have HB := Lib.hid hbl
  clear h hbl
  by_cases h1 : 12 < nc
  · have t1 : decide (12 < (nc : Int)) = true := by simp; omega
    clear hm h1
    go_enter Tryd.func35, Tryd.ntmps35
    go_wp2_with fail
    go_ret
    exact ⟨rfl, HB.out⟩
  · have t1 : decide (12 < (nc : Int)) = false := by simp; omega
    have t2 : ((nm : Int) == 0) = false := by simp; omega
    have t3 : decide (12 < (nm : Int)) = true := by simp; omega
    clear hm h1
    go_enter Tryd.func35, Tryd.ntmps35
    go_wp2_with fail
    go_ret
    exact ⟨rfl, HB.out⟩

theorem m0_of {w : World} {mb c1 c2 : Nat} (hm : w.heap[mb]? = some (.cells #[.string ⟨#[]⟩, .string ⟨#[]⟩, .string ⟨#[]⟩, .slice (some ⟨c1, 0, none⟩) 1 1, .string ⟨#[73]⟩, .string ⟨#[82]⟩, .string ⟨#[]⟩, .slice (some ⟨c2, 0, none⟩) 2 2] 62 (0, 0)))
    (hc : w.heap[c1]? = some (.cells #[.int .i64 33, .int .i64 0, .int .i64 0, .int .i64 0] 67 (0, 0))) : MethFair w mb 0 0 ⟨#[]⟩ ⟨#[]⟩ (some ⟨c1, 0, none⟩) 1 1 :=
  ⟨⟨(cell_of_row w mb 0 _ _ (0, 0) hm).trans rfl, (cell_of_row w mb 1 _ _ (0, 0) hm).trans rfl, (cell_of_row w mb 2 _ _ (0, 0) hm).trans rfl, (cell_of_row w mb 3 _ _ (0, 0) hm).trans rfl⟩,
   ⟨gvL [(33, 0, 0, 0)], picks_of hc (by omega) (fun i j hi hj => codeV_at [(33, 0, 0, 0)] i j hi hj), fun j hj => by
     obtain rfl : j = 0 := by omega
     exact ⟨rfl, rfl, rfl, rfl⟩⟩, ⟨Nat.zero_le _, Nat.zero_le _, by omega⟩, ⟨fair_nil, fair_nil⟩, fun _ => rfl⟩

theorem m1_of {w : World} {mb c1 c2 : Nat} (hm : w.heap[mb]? = some (.cells #[.string ⟨#[]⟩, .string ⟨#[]⟩, .string ⟨#[]⟩, .slice (some ⟨c1, 0, none⟩) 1 1, .string ⟨#[73]⟩, .string ⟨#[82]⟩, .string ⟨#[]⟩, .slice (some ⟨c2, 0, none⟩) 2 2] 62 (0, 0)))
    (hc : w.heap[c2]? = some (.cells #[.int .i64 33, .int .i64 0, .int .i64 0, .int .i64 0, .int .i64 33, .int .i64 0, .int .i64 0, .int .i64 0] 67 (0, 0))) : MethFair w mb 0 1 ⟨#[73]⟩ ⟨#[82]⟩ (some ⟨c2, 0, none⟩) 2 2 :=
  ⟨⟨(cell_of_row w mb 4 _ _ (0, 0) hm).trans rfl, (cell_of_row w mb 5 _ _ (0, 0) hm).trans rfl, (cell_of_row w mb 6 _ _ (0, 0) hm).trans rfl, (cell_of_row w mb 7 _ _ (0, 0) hm).trans rfl⟩,
   ⟨gvL [(33, 0, 0, 0), (33, 0, 0, 0)], picks_of hc (by omega) (fun i j hi hj => codeV_at [(33, 0, 0, 0), (33, 0, 0, 0)] i j hi hj), fun j hj => by
     have : j = 0 ∨ j = 1 := by omega
     rcases this with rfl | rfl <;> exact ⟨rfl, rfl, rfl, rfl⟩⟩, ⟨by decide, by decide, by omega⟩, ⟨fair_I, fair_R⟩, fun h => absurd h (by omega)⟩

theorem OneAt.m0 {w : World} {cb mb c1 c2 : Nat} (h : OneAt w cb mb c1 c2 33 0 0 0) : MethFair w mb 0 0 ⟨#[]⟩ ⟨#[]⟩ (some ⟨c1, 0, none⟩) 1 1 := m0_of h.mth h.co1
theorem OneAt.m1 {w : World} {cb mb c1 c2 : Nat} (h : OneAt w cb mb c1 c2 33 0 0 0) : MethFair w mb 0 1 ⟨#[73]⟩ ⟨#[82]⟩ (some ⟨c2, 0, none⟩) 2 2 := m1_of h.mth h.co2

theorem OneAt.ne {w : World} {cb mb c1 c2 : Nat} (h : OneAt w cb mb c1 c2 33 0 0 0) : cb ≠ mb ∧ cb ≠ c1 ∧ cb ≠ c2 ∧ mb ≠ c1 ∧ mb ≠ c2 ∧ c1 ≠ c2 := by
  obtain ⟨h1, h2, h3, h4⟩ := h
  refine ⟨fun e => ?_, fun e => ?_, fun e => ?_, fun e => ?_, fun e => ?_, fun e => ?_⟩
  · rw [e, h2] at h1; simp at h1
  · rw [e, h3] at h1; simp at h1
  · rw [e, h4] at h1; simp at h1
  · rw [e, h3] at h2; simp at h2
  · rw [e, h4] at h2; simp at h2
  · rw [e, h4] at h3; simp at h3

/-- Two things by number. -/
def two {α : Type} (x y : α) (i : Nat) : α := if i = 0 then x else y

/-- A program of two methods, whose counts alone can be wrong. -/
theorem may_pair (a : Nat → Addr) (ca : Option Addr) (nc cc : Nat) (mb : Nat) (f : Nat → ByteArray) (p1 l1 : ByteArray) (o0 o1 : Option Addr) (n0 n1 k0 k1 : Nat) (kc n : Nat) (w : World) (h : Sents a w)
    (h1 : nc ≤ 12) (hF : Cls w ca nc cc f) (hfc : ∀ i, i < nc → Fair (f i) ∧ (f i).size ≤ 1000000)
    (hk : kc ≤ nc) (hok : ∀ i, i < kc → (f i).size ≤ 10) (hbad : kc < nc → 10 < (f kc).size)
    (m0 : MethFair w mb 0 0 ⟨#[]⟩ ⟨#[]⟩ o0 n0 k0) (m1 : MethFair w mb 0 1 p1 l1 o1 n1 k1) (hh : headC 0 0 n0 = 0) (hn : n = 2 ∧ headC p1.size l1.size n1 = 0 ∨ n = 1 ∧ headC p1.size l1.size n1 = 1) :
    Calls Tryd.prog 35 #[.agg #[.slice ca nc cc, .slice (some ⟨mb, 0, none⟩) 2 2]] w (WherePost a (if kc < nc then some (0, (kc : Int), -1) else if n < 2 then some (0, (n : Int), -1) else none) w) := by
  refine may_counts a ca nc cc mb 0 2 2 f (two ⟨#[]⟩ p1) (two ⟨#[]⟩ l1) (two o0 o1) (two n0 n1) (two k0 k1) kc n w h h1 (by omega) (by omega) hF hfc hk hok hbad ?_ (by omega) ?_ ?_
  · intro i hi
    have : i = 0 ∨ i = 1 := by omega
    rcases this with rfl | rfl
    · exact m0
    · exact m1
  · intro i hi
    have : i = 0 ∨ i = 1 := by omega
    rcases this with rfl | rfl
    · exact hh
    · rcases hn with ⟨_, h2⟩ | ⟨h2, _⟩
      · exact h2
      · omega
  · intro hlt
    rcases hn with ⟨h2, _⟩ | ⟨h2, h3⟩
    · omega
    · subst h2
      exact h3

/-- As one_prog; and all its blocks are new. -/
def OnePostC (op A B N : Int) (w : World) (e : Ending) (w' : World) : Prop := ∃ cb mb c1 c2, e = .returned (.agg #[.slice (some ⟨cb, 0, none⟩) 2 2, .slice (some ⟨mb, 0, none⟩) 2 2]) ∧ OneAt w' cb mb c1 c2 op A B N ∧ w.heap.size ≤ cb ∧ w.heap.size ≤ mb ∧ w.heap.size ≤ c1 ∧ w.heap.size ≤ c2 ∧ Below w.heap.size w w'

set_option maxHeartbeats 2000000 in
theorem one_progC (op A B N : Int) (w : World) : Calls Tryd.prog 55 #[.agg #[.int .i64 op, .int .i64 A, .int .i64 B, .int .i64 N]] w (OnePostC op A B N w) := by
  obtain ⟨W, hW⟩ : ∃ W, allocs (oBlocks op A B N w.heap.size) w = W := ⟨_, rfl⟩
  have hat : ∀ i o, (oBlocks op A B N w.heap.size)[i]? = some o → W.heap[w.heap.size + i]? = some o := fun i o hi => by rw [← hW]; exact allocs_at _ w i o hi
  have hB : Below w.heap.size w W := by rw [← hW]; exact allocs_below _ w
  have a1 := hat 1 _ rfl
  have hO : OneAt W (w.heap.size + 1 + 1) (w.heap.size + 1 + 1 + 1 + 1 + 1) (w.heap.size + 1 + 1 + 1) (w.heap.size + 1 + 1 + 1 + 1) op A B N := ⟨hat 2 _ rfl, hat 5 _ rfl, hat 3 _ rfl, hat 4 _ rfl⟩
  have f0 := (cell_of_row _ _ 0 _ _ (0, 0) a1).trans rfl
  have f1 := (cell_of_row _ _ 1 _ _ (0, 0) a1).trans rfl
  have FIN : Hid (OnePostC op A B N w (.returned (.agg #[.slice (some ⟨w.heap.size + 1 + 1, 0, none⟩) 2 2, .slice (some ⟨w.heap.size + 1 + 1 + 1 + 1 + 1, 0, none⟩) 2 2])) W) := Lib.hid ⟨_, _, _, _, rfl, hO, by omega, by omega, by omega, by omega, hB⟩
  have HF0 := Lib.hid f0
  have HF1 := Lib.hid f1
  simp only [allocs, oBlocks, List.foldl_cons, List.foldl_nil] at hW
  clear hat hB a1 hO f0 f1
  subst hW
  go_enter Tryd.func55, Tryd.ntmps55
  go_wp2_with fail
  have f0 := HF0.out
  have f1 := HF1.out
  exact bodyPost_ret (v := .agg #[.slice (some ⟨w.heap.size + 1 + 1, 0, none⟩) 2 2, .slice (some ⟨w.heap.size + 1 + 1 + 1 + 1 + 1, 0, none⟩) 2 2]) (by simp [results, Tryd.results55, go_sem, f0, f1]) rfl FIN.out

end Go.Proofs.YtjcklfbpdjfibaaDoor

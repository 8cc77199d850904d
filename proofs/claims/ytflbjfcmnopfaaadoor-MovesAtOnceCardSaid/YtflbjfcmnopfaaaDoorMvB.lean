/-
  Moves: what stands in the boxes of moves.order; one walk along what nobody asks for any more.
-/
import Derived.Test.YtflbjfcmnopfaaaDoorMvL
import Derived.Test.YtflbjfcmnopfaaaDoorRchA
namespace Go.Proofs.YtflbjfcmnopfaaaDoor
open Go.RowKit

theorem moveinfo : (Tryd.prog.info? 108).map (fun i => (i.zero, i.size, i.bytes)) = some (some (.agg #[.int .i64 0, .int .i64 0]), 2, 16) := by kernel_rfl
theorem zero_intM : ∀ w, (zeroValue 3).run Tryd.prog w = .ok (.int .i64 0) w := fun w => by kernel_rfl
theorem cells_newM (w : World) (x y : Value) (T : TypeId) : ∀ j u, [x, y][j]? = some u → (w.alloc (.cells #[x, y] T)).cell? ((⟨w.heap.size, 0, none⟩ : Addr).add j) = some u := by
  intro j u hu
  have hj : j < 2 := by
    have := (List.getElem?_eq_some_iff.1 hu).1
    simpa using this
  rw [add_zeroC, cell_of_row _ w.heap.size j _ T (0, 0) (heap_alloc_new w _), ← hu]
  match j, hj with
  | 0, _ => rfl
  | 1, _ => rfl

/-- A map's value behind a guard that is decided. -/
theorem wpList_imap_getG {P : Program} (w : World) {ops : Array Oper} {rest : List Oper} {o : Oper} {a : Act} {Q : Exit → Act → World → Prop} (hg : Region.wanted o (yielded ops a.tmps) = true) (m x : Operand) (t : TypeId) (hop : o.op = Op.lookup t m x false) (kt et : TypeId) (hk : P.underlying kt = some (.int .i64)) (ht : P.underlying t = some (.map kt et)) (he : P.underlying et = some (.int .i64))
    (hz : (zeroValue et).run P w = .ok (.int .i64 0) w) (b n : Nat) (S : Int → Option Int) (hm : a.eval m = .map (some b)) (hown : IntMap P kt et b n S w) (X : Int) (hx : a.eval x = .int .i64 X) (hX : (Lit.int .i64 X).wf = true) (v : Int) (hv : (S X).getD 0 = v)
    (hK : wpList P ops Q rest (a.put o.dst (.int .i64 v)) w) : wpList P ops Q (o :: rest) a w := by
  obtain ⟨D, h1, h2⟩ := hown
  refine wpList_step fun K' hK' => ?_
  rw [if_pos hg]
  obtain ⟨c, hrun, hat, hwc⟩ := h1.lookup_int (Maps.int_keyed hk) ht he hz (Maps.keyOf_int_mk hk hX)
  rw [(h2 X).2, hv] at hat
  simp at hat
  subst hat
  unfold Oper.wp
  simp [execOp, hop, hm, hx, hrun, Result.andThen]
  exact hK' _ _ hK

theorem upd_getD {S : Int → Option Int} {A : Int → Int} {v z : Int} (h : ∀ x, (S x).getD 0 = A x) : ∀ x, (upd S v (some z) x).getD 0 = upd A v z x := by
  intro x
  unfold upd
  split
  · rfl
  · exact h x

/-- The cells of moves. -/
def mvCells (l : List (Int × Int)) : List Value := l.flatMap fun m => [.int .i64 m.1, .int .i64 m.2]
theorem mvCells_next (l : List (Int × Int)) (a b : Int) : mvCells (l ++ [(a, b)]) = mvCells l ++ [.int .i64 a, .int .i64 b] := by simp [mvCells]

/-- What stands in order's boxes. -/
structure Mv (N t6 t7 t10 mf ma K : Nat) (s : MSt) (w : World) : Prop where
  c6 : w.heap[t6]? = some (.cells #[.map (some mf)] 216 (0, 0))
  c7 : w.heap[t7]? = some (.cells #[.map (some ma)] 216 (0, 0))
  o : ∃ v, w.heap[t10]? = some (.cells #[v] 103 (0, 0)) ∧ w.ownsRow N 108 2 v s.out.length (mvCells s.out)
  f : IntMap Tryd.prog 3 3 mf K s.F w
  a : ∃ S, IntMap Tryd.prog 3 3 ma K S w ∧ ∀ x, (S x).getD 0 = s.A x
  l1 : mf < t6
  l2 : t6 < ma
  l3 : ma < t7
  l4 : t7 < t10
  l5 : t10 < N

theorem owns_stays {w w' : World} {N e k n : Nat} {v : Value} {xs : List Value} (h : w.ownsRow N e k v n xs) (hk : ∀ k, N ≤ k → k < w.heap.size → w'.heap[k]? = w.heap[k]?) : w'.ownsRow N e k v n xs := by
  refine ⟨h.1, ?_⟩
  rcases h.2 with h2 | ⟨g, cap, cur, hv, hb, hg, h3⟩
  · exact .inl h2
  · exact .inr ⟨g, cap, cur, hv, hb, (hk g hb (Array.getElem?_eq_some_iff.1 hg).1).trans hg, h3⟩

theorem own_shapeM {B : Nat} {w : World} {e size n : Nat} {v : Value} {xs : List Value} (h : w.ownsRow B e size v n xs) : ∃ a c, v = .slice a n c := by
  rcases h.2 with ⟨rfl, h1⟩ | ⟨g, cap, cur, h1, h2, h3⟩
  · exact ⟨none, 0, by rw [h1]⟩
  · exact ⟨_, _, h1⟩

section
variable {N t6 t7 t10 mf ma K : Nat} {s : MSt} {w : World}

theorem Mv.below (h : Mv N t6 t7 t10 mf ma K s w) {w' : World} (hb : Below w.heap.size w w') : Mv N t6 t7 t10 mf ma K s w' := by
  have lt : ∀ (i : Nat) (o : Obj), w.heap[i]? = some o → i < w.heap.size := fun i o hi => (Array.getElem?_eq_some_iff.1 hi).1
  obtain ⟨v, o1, o2⟩ := h.o
  obtain ⟨S, a1, a2⟩ := h.a
  exact ⟨(hb.block _ (lt _ _ h.c6)).trans h.c6, (hb.block _ (lt _ _ h.c7)).trans h.c7, ⟨v, (hb.block _ (lt _ _ o1)).trans o1, owns_stays o2 fun k _ hk => hb.block k hk⟩,
    h.f.kept (hb.block _ h.f.lt), ⟨S, a1.kept (hb.block _ a1.lt), a2⟩, h.l1, h.l2, h.l3, h.l4, h.l5⟩

theorem Mv.mono (h : Mv N t6 t7 t10 mf ma K s w) {K' : Nat} (hk : K ≤ K') : Mv N t6 t7 t10 mf ma K' s w := by
  obtain ⟨S, a1, a2⟩ := h.a
  exact ⟨h.c6, h.c7, h.o, h.f.mono hk, ⟨S, a1.mono hk, a2⟩, h.l1, h.l2, h.l3, h.l4, h.l5⟩
theorem Mv.at6 (h : Mv N t6 t7 t10 mf ma K s w) : w.cell? ⟨t6, 0, none⟩ = some (.map (some mf)) := by rw [cell_of_row w t6 0 _ _ (0, 0) h.c6]; rfl
theorem Mv.at7 (h : Mv N t6 t7 t10 mf ma K s w) : w.cell? ⟨t7, 0, none⟩ = some (.map (some ma)) := by rw [cell_of_row w t7 0 _ _ (0, 0) h.c7]; rfl
theorem Mv.at10 (h : Mv N t6 t7 t10 mf ma K s w) : ∃ a c, w.cell? ⟨t10, 0, none⟩ = some (.slice a s.out.length c) ∧ w.ownsRow N 108 2 (.slice a s.out.length c) s.out.length (mvCells s.out) := by
  obtain ⟨v, o1, o2⟩ := h.o
  obtain ⟨a, c, rfl⟩ := own_shapeM o2
  exact ⟨a, c, by rw [cell_of_row w t10 0 _ _ (0, 0) o1]; rfl, o2⟩
theorem Mv.lt (h : Mv N t6 t7 t10 mf ma K s w) : t10 < w.heap.size := by
  obtain ⟨v, o1, _⟩ := h.o
  exact (Array.getElem?_eq_some_iff.1 o1).1

/-- Behind the append and its store. -/
theorem mv_app (h : Mv N t6 t7 t10 mf ma K s w) (hN : N ≤ w.heap.size) {w5 : World} {v v5 : Value} {x y : Int} {o : Obj} (hv : w.ownsRow N 108 2 v s.out.length (mvCells s.out)) (hc : w.cell? ⟨t10, 0, none⟩ = some v)
    (h5 : (w.alloc o).grownBy w5 v.ownBlock) (ho : w5.ownsRow N 108 2 v5 (s.out.length + 1) (mvCells s.out ++ [.int .i64 x, .int .i64 y])) :
    w5.cell? ⟨t10, 0, none⟩ = some v ∧ w5.frozen? ⟨t10, 0, none⟩ = false ∧ Hid (Mv N t6 t7 t10 mf ma K ⟨s.F, s.A, s.out ++ [(x, y)]⟩ (w5.setCell ⟨t10, 0, none⟩ v5) ∧ Below mf w (w5.setCell ⟨t10, 0, none⟩ v5) ∧ ∀ k, k < w.heap.size → k ≠ t10 → some k ≠ v.ownBlock → (w5.setCell ⟨t10, 0, none⟩ v5).heap[k]? = w.heap[k]?) := by
  obtain ⟨u, o1, o2⟩ := h.o
  have lt : ∀ (i : Nat) (x : Obj), w.heap[i]? = some x → i < w.heap.size := fun i x hi => (Array.getElem?_eq_some_iff.1 hi).1
  have l1 := h.l1
  have l2 := h.l2
  have l3 := h.l3
  have l4 := h.l4
  have l5 := h.l5
  have z5 := h5.size
  rw [World.size_alloc] at z5
  have hvb : ∀ k, k < N → some k ≠ v.ownBlock := fun k hk e => by have := (hv.lt k e.symm).1; omega
  have k5 : ∀ k, k < N → w5.heap[k]? = w.heap[k]? := fun k hk => (h5.block k (by rw [World.size_alloc]; omega) (hvb k hk)).trans (Below.heap_alloc _ _ _ (by omega))
  have eu : u = v := by
    rw [cell_of_row w t10 0 _ _ (0, 0) o1] at hc
    simpa using hc
  subst eu
  have e5 : w5.heap[t10]? = some (.cells #[u] 103 (0, 0)) := (k5 t10 l5).trans o1
  have k9 : ∀ k, k ≠ t10 → (w5.setCell ⟨t10, 0, none⟩ v5).heap[k]? = w5.heap[k]? := fun k hk => heap_setCell_other w5 ⟨t10, 0, none⟩ k v5 (fun e => hk e)
  have hg9 := grown_store w5 t10 0 v5
  obtain ⟨S, a1, a2⟩ := h.a
  refine ⟨by rw [cell_of_row w5 t10 0 _ _ (0, 0) e5]; rfl, frozen_of_row w5 t10 0 _ _ e5, Lib.hid ⟨⟨?_, ?_, ⟨v5, ?_, ?_⟩, ?_, ⟨S, ?_, a2⟩, l1, l2, l3, l4, l5⟩, ?_, fun k hk h10 hkv => (k9 k h10).trans ((h5.block k (by rw [World.size_alloc]; omega) hkv).trans (Below.heap_alloc _ _ _ hk))⟩⟩
  · exact (k9 t6 (by omega)).trans ((k5 t6 (by omega)).trans h.c6)
  · exact (k9 t7 (by omega)).trans ((k5 t7 (by omega)).trans h.c7)
  · rw [heap_setCell_same w5 t10 0 _ 103 _ e5]; rfl
  · rw [mvCells_next, List.length_append]
    exact owns_stays ho fun k hk _ => k9 k (by omega)
  · exact h.f.kept ((k9 mf (by omega)).trans (k5 mf (by omega)))
  · exact a1.kept ((k9 ma (by omega)).trans (k5 ma (by omega)))
  · refine ⟨hg9.os.trans h5.os, hg9.tape.trans h5.tape, hg9.output.trans h5.output, ?_, fun k hk => (k9 k (by omega)).trans (k5 k (by omega))⟩
    have := hg9.size
    omega

/-- Behind a turn of what is to be laid. -/
theorem mv_turnF (h : Mv N t6 t7 t10 mf ma K s w) (hN : N ≤ w.heap.size) {w7 : World} {F : Int → Option Int} {K' : Nat} (hK : K ≤ K') (hF : IntMap Tryd.prog 3 3 mf K' F w7) (hT : w.mapTurned w7 mf) : Mv N t6 t7 t10 mf ma K' ⟨F, s.A, s.out⟩ w7 ∧ Below mf w w7 := by
  obtain ⟨u, o1, o2⟩ := h.o
  have l1 := h.l1
  have l2 := h.l2
  have l3 := h.l3
  have l4 := h.l4
  have l5 := h.l5
  have hg := hT.grown
  have k7 : ∀ k, k < w.heap.size → k ≠ mf → w7.heap[k]? = w.heap[k]? := fun k hk hne => hg.block k hk (by simp; exact hne)
  obtain ⟨S, a1, a2⟩ := h.a
  exact ⟨⟨(k7 t6 (by omega) (by omega)).trans h.c6, (k7 t7 (by omega) (by omega)).trans h.c7, ⟨u, (k7 t10 (by omega) (by omega)).trans o1, owns_stays o2 fun k hk hk2 => k7 k hk2 (by omega)⟩, hF, ⟨S, (a1.mono hK).kept (k7 ma (by omega) (by omega)), a2⟩, l1, l2, l3, l4, l5⟩,
    ⟨hg.os, hg.tape, hg.output, hg.size, fun k hk => k7 k (by omega) (by omega)⟩⟩

/-- Behind a turn of what is asked for. -/
theorem mv_turnA (h : Mv N t6 t7 t10 mf ma K s w) (hN : N ≤ w.heap.size) {w7 : World} {S : Int → Option Int} {A : Int → Int} {K' : Nat} (hK : K ≤ K') (hF : IntMap Tryd.prog 3 3 ma K' S w7) (hA : ∀ x, (S x).getD 0 = A x) (hT : w.mapTurned w7 ma) : Mv N t6 t7 t10 mf ma K' ⟨s.F, A, s.out⟩ w7 ∧ Below mf w w7 := by
  obtain ⟨u, o1, o2⟩ := h.o
  have l1 := h.l1
  have l2 := h.l2
  have l3 := h.l3
  have l4 := h.l4
  have l5 := h.l5
  have hg := hT.grown
  have k7 : ∀ k, k < w.heap.size → k ≠ ma → w7.heap[k]? = w.heap[k]? := fun k hk hne => hg.block k hk (by simp; exact hne)
  exact ⟨⟨(k7 t6 (by omega) (by omega)).trans h.c6, (k7 t7 (by omega) (by omega)).trans h.c7, ⟨u, (k7 t10 (by omega) (by omega)).trans o1, owns_stays o2 fun k hk hk2 => k7 k hk2 (by omega)⟩, (h.f.mono hK).kept (k7 mf (by omega) (by omega)), ⟨S, hF, hA⟩, l1, l2, l3, l4, l5⟩,
    ⟨hg.os, hg.tape, hg.output, hg.size, fun k hk => k7 k (by omega) (by omega)⟩⟩
end

/-- Plain bounds. -/
structure MOk (ks : List Int) (M L : Nat) (s : MSt) : Prop where
  k : ∀ x, (s.F x).isSome = true → x ∈ ks
  v : ∀ x v, s.F x = some v → -2000 ≤ v ∧ v ≤ 2000
  a : ∀ x, -((L : Int) + s.out.length) ≤ s.A x ∧ s.A x ≤ (L : Int) + s.out.length
  m : cnt ks s.F + s.out.length ≤ M

theorem mok_do {ks : List Int} {M L : Nat} {s : MSt} {tq at_ : Int} (h : MOk ks M L s) (hf : s.F tq = some at_) : MOk ks M L (doS s tq at_) := by
  have hs : (s.F tq).isSome = true := by rw [hf]; rfl
  have hc := cnt_del ks s.F tq (h.k tq hs) hs
  have hm := h.m
  refine ⟨fun x hx => ?_, fun x v hx => ?_, fun x => ?_, ?_⟩
  · by_cases e : x = tq
    · rw [e]; exact h.k tq hs
    · exact h.k x (by rw [← upd_other s.F none e]; exact hx)
  · by_cases e : x = tq
    · subst e
      have : upd s.F x none x = some v := hx
      rw [upd_same] at this
      cases this
    · exact h.v x v (by rw [← upd_other s.F none e]; exact hx)
  · have h1 := h.a x
    have h2 := h.a at_
    show -((L : Int) + ((s.out ++ [(tq, at_)]).length : Nat)) ≤ upd s.A at_ (s.A at_ - 1) x ∧ _
    have hl : (s.out ++ [(tq, at_)]).length = s.out.length + 1 := by simp
    show -((L : Int) + ((s.out ++ [(tq, at_)]).length : Nat)) ≤ upd s.A at_ (s.A at_ - 1) x ∧ upd s.A at_ (s.A at_ - 1) x ≤ (L : Int) + ((s.out ++ [(tq, at_)]).length : Nat)
    rw [hl]
    unfold upd
    split <;> constructor <;> omega
  · show cnt ks (upd s.F tq none) + (s.out ++ [(tq, at_)]).length ≤ M
    have hl : (s.out ++ [(tq, at_)]).length = s.out.length + 1 := by simp
    omega

def outLen (t10 : Nat) (w : World) : Nat := match w.cell? ⟨t10, 0, none⟩ with
  | some (.slice _ n _) => n
  | _ => 0

theorem Mv.outLen {N t6 t7 t10 mf ma K : Nat} {s : MSt} {w : World} (h : Mv N t6 t7 t10 mf ma K s w) : outLen t10 w = s.out.length := by
  obtain ⟨a, c, h1, _⟩ := h.at10
  unfold Go.Proofs.YtflbjfcmnopfaaaDoor.outLen
  rw [h1]

/-- What a walk leaves: some fuel that is enough makes the same of it. -/
def DoRel (ks : List Int) (N t6 t7 t10 mf ma L M : Nat) (w : World) (fin : MSt) (st : Value) (wr : World) : Prop :=
  ∃ (s : MSt) (tq : Int) (n : Nat), st = .int .i64 tq ∧ Mv N t6 t7 t10 mf ma (L + 2 * s.out.length) s wr ∧ MOk ks M L s ∧ cnt ks s.F ≤ n ∧ doF n s tq = fin ∧ -2000 ≤ tq ∧ tq ≤ 2000 ∧ Below mf w wr

def DoPost (ks : List Int) (N t6 t7 t10 mf ma L M : Nat) (w : World) (fin : MSt) (e : Ending) (w' : World) : Prop :=
  e = .returned (.tuple #[]) ∧ Mv N t6 t7 t10 mf ma (L + 2 * fin.out.length) fin w' ∧ MOk ks M L fin ∧ Below mf w w'

theorem doF_stop {n : Nat} {s : MSt} {tq v : Int} (hf : s.F tq = some v) (ha : 0 < s.A tq) : doF n s tq = s := by
  cases n with
  | zero => rfl
  | succ n => rw [doF, hf]; dsimp only; rw [if_pos ha]

theorem doF_go {ks : List Int} {n : Nat} {s : MSt} {tq v : Int} (hk : tq ∈ ks) (hf : s.F tq = some v) (ha : ¬ 0 < s.A tq) (hn : cnt ks s.F ≤ n) : ∃ k, n = k + 1 ∧ doF n s tq = doF k (doS s tq v) v ∧ cnt ks (doS s tq v).F ≤ k := by
  have hs : (s.F tq).isSome = true := by rw [hf]; rfl
  have hc := cnt_del ks s.F tq hk hs
  obtain ⟨k, rfl⟩ : ∃ k, n = k + 1 := ⟨n - 1, by omega⟩
  refine ⟨k, rfl, ?_, ?_⟩
  · rw [doF, hf]; dsimp only; rw [if_neg ha]
  · show cnt ks (upd s.F tq none) ≤ k
    omega

set_option maxHeartbeats 2000000 in
set_option maxRecDepth 100000 in
theorem do_any {ks : List Int} {N t6 t7 t10 mf ma L M n : Nat} (s0 : MSt) (to0 : Int) (w : World) (h0 : Mv N t6 t7 t10 mf ma (L + 2 * s0.out.length) s0 w) (hok0 : MOk ks M L s0) (hn : cnt ks s0.F ≤ n) (hL : L ≤ 1000) (hM : M ≤ 5000) (hN : N ≤ w.heap.size) (hto : -2000 ≤ to0 ∧ to0 ≤ 2000) :
    Calls Tryd.prog 166 #[.int .i64 to0, .pointer (some ⟨t6, 0, none⟩), .pointer (some ⟨t7, 0, none⟩), .pointer (some ⟨t10, 0, none⟩)] w (DoPost ks N t6 t7 t10 mf ma L M w (doF n s0 to0)) := by
  have R0 : Hid (DoRel ks N t6 t7 t10 mf ma L M w (doF n s0 to0) (.int .i64 to0) w) := Lib.hid ⟨s0, to0, n, rfl, h0, hok0, hn, rfl, hto.1, hto.2, Below.refl _ _⟩
  generalize doF n s0 to0 = fin at *
  obtain ⟨i0, hi, hz0, hz1, hz2⟩ := info_parts moveinfo
  have HI := Lib.hid hi
  have HZ0 := Lib.hid hz0
  have HZ1 := Lib.hid hz1
  have HZ2 := Lib.hid hz2
  have HN := Lib.hid hN
  clear h0 hok0 hn hto hi hz0 hz1 hz2 hN
  go_enter Tryd.func166, Tryd.ntmps166
  go_wp2_with fail
  go_loopw [0] (fun st wr => DoRel ks N t6 t7 t10 mf ma L M w fin st wr) (fun _ wr => M + 1 - outLen t10 wr)
  case atStart => exact R0.out
  case round =>
    clear R0
    obtain ⟨s, tq, n, rfl, hV, hok, hcn, hfin, lo, hi, hB⟩ := hrel
    have hwf := wf64 (x := tq) (by omega) (by omega)
    have c6 := hV.at6
    have HF := Lib.hid hV.f
    have HWF := Lib.hid hwf
    have HNR : N ≤ wr.heap.size := Nat.le_trans HN.out hB.size
    cases hf : s.F tq with
    | none =>
      have hF1 := Lib.hid (show (s.F tq).getD 0 = 0 by rw [hf]; rfl)
      have hF2 := Lib.hid (show (s.F tq).isSome = false by rw [hf]; rfl)
      rw [do_none n s tq hf] at hfin
      subst hfin
      have FIN : Hid (DoPost ks N t6 t7 t10 mf ma L M w s (.returned (.tuple #[])) wr) := Lib.hid ⟨rfl, hV, hok, hB⟩
      clear hf hV hok hB hcn
      go_wp2_with (at_lookup; refine wpList_imap_look _ rfl _ _ 216 rfl 3 3 Tryd.underlying3 Tryd.underlying216 Tryd.underlying3 (zero_intM _) mf (L + 2 * s.out.length) _ rfl HF.out tq rfl HWF.out 0 hF1.out false hF2.out ?_)
      (try simp only [Exit.inBlock, Exit.then])
      refine bodyPost_ret (results_none rfl _ _ _) rfl ?_
      exact FIN.out
    | some v =>
      have hF1 := Lib.hid (show (s.F tq).getD 0 = v by rw [hf]; rfl)
      have hF2 := Lib.hid (show (s.F tq).isSome = true by rw [hf]; rfl)
      have hv := hok.v tq v hf
      have c7 := hV.at7
      obtain ⟨S, a1, a2⟩ := hV.a
      have HA := Lib.hid a1
      have hA1 := Lib.hid (a2 tq)
      by_cases ha : 0 < s.A tq
      · rw [doF_stop hf ha] at hfin
        subst hfin
        have FIN : Hid (DoPost ks N t6 t7 t10 mf ma L M w s (.returned (.tuple #[])) wr) := Lib.hid ⟨rfl, hV, hok, hB⟩
        have t1 : decide (s.A tq > 0) = true := by simpa using ha
        clear hf hV hok hB hcn a1 a2 ha
        generalize s.A tq = z at *
        go_wp2_with (at_lookup; first | refine wpList_imap_look _ rfl _ _ 216 rfl 3 3 Tryd.underlying3 Tryd.underlying216 Tryd.underlying3 (zero_intM _) mf (L + 2 * s.out.length) _ rfl HF.out tq rfl HWF.out v hF1.out true hF2.out ?_ | refine wpList_imap_getG _ rfl _ _ 216 rfl 3 3 Tryd.underlying3 Tryd.underlying216 Tryd.underlying3 (zero_intM _) ma (L + 2 * s.out.length) _ rfl HA.out tq rfl HWF.out z hA1.out ?_)
        (try simp only [Exit.inBlock, Exit.then])
        refine bodyPost_ret (results_none rfl _ _ _) rfl ?_
        exact FIN.out
      · have t1 : decide (s.A tq > 0) = false := by simpa using ha
        obtain ⟨n', rfl, hfn, hcn'⟩ := doF_go (hok.k tq (by rw [hf]; rfl)) hf ha hcn
        rw [hfn] at hfin
        have HOK := Lib.hid (mok_do hok hf)
        obtain ⟨q, hq⟩ : ∃ q, s.out.length = q := ⟨_, rfl⟩
        have hqM : q ≤ M := by have := hok.m; omega
        obtain ⟨va, vc, c10, hown⟩ := hV.at10
        have HO := Lib.hid hown
        have C10 := Lib.hid c10
        have HV := Lib.hid hV
        have HQ := Lib.hid hq
        have HQM := Lib.hid hqM
        have HAQ := Lib.hid a2
        have hav := hok.a v
        have wv := Lib.hid (wf64 (x := v) (by omega) (by omega))
        have wa := Lib.hid (wf64 (x := s.A v - 1) (by omega) (by omega))
        have hsub : IntKind.i64.wrap (s.A v - 1) = s.A v - 1 := IntWalk.i64_in _ (by omega)
        have HV2 := Lib.hid (a2 v)
        have HM1 := Lib.hid (show s.out.length + 1 ≤ maxLen by unfold maxLen; omega)
        have HM2 := Lib.hid (show (s.out.length + 1) * 16 ≤ 140737488355328 by omega)
        have HM3 := Lib.hid (show L + 2 * s.out.length < maxLen by unfold maxLen; omega)
        have HB3 : Hid (N ≤ (wr.alloc (.cells #[.int .i64 tq, .int .i64 v] 108)).heap.size) := Lib.hid (by rw [World.size_alloc]; omega)
        have HNW := Lib.hid HNR
        have HBR := Lib.hid hB
        have HCN := Lib.hid hcn'
        have HFIN := Lib.hid hfin
        have HVV := Lib.hid hv
        clear hq hfn hcn' hok hf hV hB hcn a1 a2 hown hfin hav ha hv HNR hqM hwf lo hi
        generalize s.A tq = z at *
        generalize hzv : s.A v = zv at *
        have HZV := Lib.hid hzv
        clear hzv
        go_wp2_with (first | (at_lookup; first | refine wpList_imap_look _ rfl _ _ 216 rfl 3 3 Tryd.underlying3 Tryd.underlying216 Tryd.underlying3 (zero_intM _) mf (L + 2 * s.out.length) _ rfl HF.out tq rfl HWF.out v hF1.out true hF2.out ?_ | refine wpList_imap_get _ rfl _ _ 216 rfl 3 3 Tryd.underlying3 Tryd.underlying216 Tryd.underlying3 (zero_intM _) ma (L + 2 * s.out.length) _ rfl a7.out v rfl wv.out zv z7.out ?_ | refine wpList_imap_getG _ rfl _ _ 216 rfl 3 3 Tryd.underlying3 Tryd.underlying216 Tryd.underlying3 (zero_intM _) ma (L + 2 * s.out.length) _ rfl HA.out tq rfl HWF.out z hA1.out ?_) | (at_builtin; refine wpList_append_own _ rfl (.tmp 21) (.tmp 25) 103 rfl N 108 i0 (.agg #[.int .i64 0, .int .i64 0]) 2 16 Tryd.underlying103 HI.out HZ0.out HZ1.out HZ2.out rfl (by decide) (.slice va s.out.length vc) s.out.length (mvCells s.out) rfl (HO.out.alloc _) ⟨wr.heap.size, 0, none⟩ 1 1 [.int .i64 tq, .int .i64 v] rfl rfl (cells_newM _ _ _ _) (by simp [Value.oneCell']) HM1.out HM2.out HB3.out ?_; intro v5 w5 hown5 hgrow5 hnil5; obtain ⟨co5, fo5, FA⟩ := mv_app HV.out HNW.out HO.out C10.out hgrow5 hown5; obtain ⟨va5, vc5, rfl⟩ := own_shapeM hown5; have d6 := FA.out.1.at6; have HF6 := Lib.hid FA.out.1.f; have HN6 := Lib.hid (Nat.le_trans HNW.out FA.out.2.1.size); clear hown5 hgrow5 hnil5) | (at_delete; refine wpList_imap_del _ rfl _ _ 216 3 rfl 3 Tryd.underlying3 Tryd.underlying216 mf (L + 2 * s.out.length) _ rfl HF6.out tq rfl HWF.out ?_; intro w7 hM7 hT7; obtain ⟨V7, B7⟩ := mv_turnF FA.out.1 HN6.out (Nat.le_refl _) hM7 hT7; have d7 := V7.at7; have HN7 := Lib.hid (Nat.le_trans HN6.out B7.size); obtain ⟨S7, a7, b7⟩ := V7.a; have z7 := Lib.hid ((b7 v).trans HZV.out); replace a7 := Lib.hid a7; replace b7 := Lib.hid b7; replace V7 := Lib.hid V7; replace B7 := Lib.hid B7; clear hM7 hT7) | (at_mapUpdate; refine wpList_imap_put _ rfl _ _ _ 216 rfl 3 3 Tryd.underlying3 Tryd.underlying216 Tryd.underlying3 ma (L + 2 * s.out.length) _ rfl a7.out HM3.out v rfl wv.out (zv - 1) rfl wa.out ?_; intro w8 hM8 hT8; obtain ⟨V8, B8⟩ := mv_turnA (A := upd s.A v (zv - 1)) V7.out HN7.out (Nat.le_succ _) hM8 (upd_getD b7.out) hT8; replace V8 := Lib.hid V8; replace B8 := Lib.hid B8; clear hM8 hT8))
        go_roundw
        case rel => exact ⟨doS s tq v, v, n', rfl, by
          show Mv N t6 t7 t10 mf ma (L + 2 * (s.out ++ [(tq, v)]).length) ⟨upd s.F tq none, upd s.A v (s.A v - 1), s.out ++ [(tq, v)]⟩ _
          rw [List.length_append, HZV.out]
          exact V8.out.mono (show L + 2 * s.out.length + 1 ≤ L + 2 * (s.out.length + 1) by omega), HOK.out, HCN.out, HFIN.out, HVV.out.1, HVV.out.2, HBR.out.trans (FA.out.2.1.trans (B7.out.trans B8.out))⟩
        case measure =>
          rw [HV.out.outLen, V8.out.outLen]
          show M + 1 - (s.out ++ [(tq, v)]).length < _
          rw [List.length_append, HQ.out]
          have := HQM.out
          show M + 1 - (q + 1) < _
          omega

end Go.Proofs.YtflbjfcmnopfaaaDoor

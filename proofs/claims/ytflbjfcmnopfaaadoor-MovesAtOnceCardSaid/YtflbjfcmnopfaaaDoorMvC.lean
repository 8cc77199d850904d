/-
  Moves: what moves.order's three passes do, plainly and in the boxes.
-/
import Derived.Test.YtflbjfcmnopfaaaDoorMvB
namespace Go.Proofs.YtflbjfcmnopfaaaDoor
open Go.RowKit

/-- Rounds of the inner loop. -/
def stepsF : Nat → (Int → Option Int) → Int → Int → Nat
  | 0, _, _, _ => 0
  | n + 1, F, last, x => if (F last).getD 0 = x then 0 else 1 + stepsF n F ((F last).getD 0) x

theorem steps_more : ∀ (n : Nat) (F : Int → Option Int) (a x r : Int), chase n F a x = some r → ∀ m, n ≤ m → stepsF m F a x = stepsF n F a x
  | 0, _, _, _, _, h, _, _ => by cases h
  | n + 1, F, a, x, r, h, m, hm => by
    obtain ⟨k, rfl⟩ : ∃ k, m = k + 1 := ⟨m - 1, by omega⟩
    unfold chase at h
    unfold stepsF
    by_cases e : (F a).getD 0 = x
    · rw [if_pos e, if_pos e]
    · rw [if_neg e] at h
      rw [if_neg e, if_neg e, steps_more n F _ x r h k (by omega)]

def ChRel (n0 : Nat) (F : Int → Option Int) (x r : Int) (W : World) (st : Value) (wr : World) : Prop :=
  ∃ (a : Int) (n : Nat), st = .int .i64 a ∧ chase n F a x = some r ∧ n ≤ n0 ∧ -2000 ≤ a ∧ a ≤ 2000 ∧ W = wr

theorem chase_end {n : Nat} {F : Int → Option Int} {a x r : Int} (h : chase n F a x = some r) (e : (F a).getD 0 = x) : r = a := by
  cases n with
  | zero => cases h
  | succ n => unfold chase at h; rw [if_pos e] at h; cases h; rfl

theorem chase_on {n n0 : Nat} {F : Int → Option Int} {a x r : Int} (h : chase n F a x = some r) (hn : n ≤ n0) (e : ¬ (F a).getD 0 = x) : ∃ k, chase k F ((F a).getD 0) x = some r ∧ k ≤ n0 ∧ stepsF n0 F ((F a).getD 0) x < stepsF n0 F a x := by
  cases n with
  | zero => cases h
  | succ n =>
    have h2 := h
    unfold chase at h2
    rw [if_neg e] at h2
    refine ⟨n, h2, by omega, ?_⟩
    rw [steps_more n F _ x r h2 n0 (by omega), steps_more (n + 1) F a x r h n0 hn]
    conv => rhs; unfold stepsF
    rw [if_neg e]
    omega

theorem ringS_some {N : Nat} {spare : Int} {s s' : MSt} {c c' : Int} {m : Int × Int} (h : ringS N spare (some (s, c)) m = some (s', c')) :
    (s.F m.1 = none ∧ s' = s ∧ c' = c) ∨ ∃ v last lv, s.F m.1 = some v ∧ chase N s.F m.2 m.1 = some last ∧ s.F last = some lv ∧ s' = doF N ⟨upd s.F last (some spare), upd s.A m.1 (s.A m.1 - 1), s.out ++ [(spare, m.1)]⟩ m.1 ∧ c' = c + 1 := by
  unfold ringS at h
  dsimp only at h
  cases hf : s.F m.1 with
  | none =>
    rw [hf] at h
    cases h
    exact .inl ⟨rfl, rfl, rfl⟩
  | some v =>
    rw [hf] at h
    dsimp only at h
    cases hc : chase N s.F m.2 m.1 with
    | none => rw [hc] at h; cases h
    | some last =>
      rw [hc] at h
      dsimp only at h
      cases hl : s.F last with
      | none => rw [hl] at h; cases h
      | some lv =>
        rw [hl] at h
        cases h
        exact .inr ⟨v, last, lv, rfl, rfl, hl, rfl, rfl⟩

theorem take_next (l : List (Int × Int)) (i : Nat) (h : i < l.length) : l.take (i + 1) = l.take i ++ [l.getD i (0, 0)] := by rw [List.take_add_one]; simp [List.getD, h]

theorem ring_next {N : Nat} {spare : Int} {l : List (Int × Int)} {s0 : MSt × Int} {fin : MSt × Int} (h : l.foldl (ringS N spare) (some s0) = some fin) {i : Nat} (hi : i < l.length) {s : MSt} {c : Int} (hs : (l.take i).foldl (ringS N spare) (some s0) = some (s, c)) :
    ∃ s' c', ringS N spare (some (s, c)) (l.getD i (0, 0)) = some (s', c') ∧ (l.take (i + 1)).foldl (ringS N spare) (some s0) = some (s', c') := by
  have e : (l.take (i + 1)).foldl (ringS N spare) (some s0) = ringS N spare (some (s, c)) (l.getD i (0, 0)) := by
    rw [take_next l i hi, List.foldl_append, hs]
    rfl
  cases hr : ringS N spare (some (s, c)) (l.getD i (0, 0)) with
  | none =>
    rw [hr] at e
    rw [← List.take_append_drop (i + 1) l, List.foldl_append, e, ring_none] at h
    cases h
  | some q =>
    rw [hr] at e
    exact ⟨q.1, q.2, rfl, e⟩

theorem MOk.mono {ks : List Int} {M M' L : Nat} {s : MSt} (h : MOk ks M L s) (hm : M ≤ M') : MOk ks M' L s := ⟨h.k, h.v, h.a, Nat.le_trans h.m hm⟩

theorem mok_ring {ks : List Int} {M L : Nat} {s : MSt} {x last lv spare : Int} (h : MOk ks M L s) (hl : s.F last = some lv) (hs : -2000 ≤ spare ∧ spare ≤ 2000) : MOk ks (M + 1) L ⟨upd s.F last (some spare), upd s.A x (s.A x - 1), s.out ++ [(spare, x)]⟩ := by
  have hls : (s.F last).isSome = true := by rw [hl]; rfl
  have hlen : (s.out ++ [(spare, x)]).length = s.out.length + 1 := by simp
  refine ⟨fun y hy => ?_, fun y v hy => ?_, fun y => ?_, ?_⟩
  · by_cases e : y = last
    · rw [e]; exact h.k last hls
    · exact h.k y (by rw [← upd_other s.F (some spare) e]; exact hy)
  · by_cases e : y = last
    · subst e
      have : upd s.F y (some spare) y = some v := hy
      rw [upd_same] at this
      cases this
      exact hs
    · exact h.v y v (by rw [← upd_other s.F (some spare) e]; exact hy)
  · have h1 := h.a y
    have h2 := h.a x
    show -((L : Int) + ((s.out ++ [(spare, x)]).length : Nat)) ≤ upd s.A x (s.A x - 1) y ∧ upd s.A x (s.A x - 1) y ≤ (L : Int) + ((s.out ++ [(spare, x)]).length : Nat)
    rw [hlen]
    unfold upd
    split <;> constructor <;> omega
  · show cnt ks (upd s.F last (some spare)) + (s.out ++ [(spare, x)]).length ≤ M + 1
    have := h.m
    rw [cnt_put ks s.F last spare hls]
    omega

/-- The first pass' bounds. -/
structure BOk (ks : List Int) (i : Nat) (s : MSt) : Prop where
  k : ∀ x, (s.F x).isSome = true → x ∈ ks
  v : ∀ x v, s.F x = some v → -2000 ≤ v ∧ v ≤ 2000
  a : ∀ x, -(i : Int) ≤ s.A x ∧ s.A x ≤ i
  o : s.out = []

theorem bok_next {ks : List Int} {i : Nat} {s : MSt} {x y : Int} (h : BOk ks i s) (hx : x ∈ ks) (hy : -2000 ≤ y ∧ y ≤ 2000) : BOk ks (i + 1) (begS s (x, y)) := by
  unfold begS
  dsimp only
  split
  · exact ⟨h.k, h.v, fun z => by have := h.a z; constructor <;> omega, h.o⟩
  · refine ⟨fun z hz => ?_, fun z v hz => ?_, fun z => ?_, h.o⟩
    · by_cases e : z = x
      · rw [e]; exact hx
      · exact h.k z (by rw [← upd_other s.F (some y) e]; exact hz)
    · by_cases e : z = x
      · subst e
        have : upd s.F z (some y) z = some v := hz
        rw [upd_same] at this
        cases this
        exact hy
      · exact h.v z v (by rw [← upd_other s.F (some y) e]; exact hz)
    · have h1 := h.a z
      have h2 := h.a y
      show -((i + 1 : Nat) : Int) ≤ upd s.A y (s.A y + 1) z ∧ upd s.A y (s.A y + 1) z ≤ ((i + 1 : Nat) : Int)
      unfold upd
      split <;> constructor <;> omega

theorem BOk.mok {ks : List Int} {i : Nat} {s : MSt} (h : BOk ks i s) {L M : Nat} (hi : i ≤ L) (hM : ks.length ≤ M) : MOk ks M L s := by
  refine ⟨h.k, h.v, fun x => ?_, ?_⟩
  · have := h.a x
    rw [h.o]
    simp
    constructor <;> omega
  · rw [h.o]
    have := cnt_le ks s.F
    simp
    omega

/-- A list of moves that can be read. -/
structure MRow (w : World) (a : Option Addr) (len cap : Nat) (l : List (Int × Int)) : Prop where
  len_eq : l.length = len
  le : len ≤ cap
  max : cap ≤ maxLen
  at_ : 0 < len → ∃ b off, a = some ⟨b, off, none⟩ ∧ b < w.heap.size ∧ ∀ j, j < len → w.cell? ⟨b, off + (j * 2 + 0), none⟩ = some (.int .i64 (l.getD j (0, 0)).1) ∧ w.cell? ⟨b, off + (j * 2 + 1), none⟩ = some (.int .i64 (l.getD j (0, 0)).2)
  in_ : ∀ m ∈ l, (-2000 ≤ m.1 ∧ m.1 ≤ 2000) ∧ (-2000 ≤ m.2 ∧ m.2 ≤ 2000)

theorem MRow.below {w w' : World} {a : Option Addr} {len cap : Nat} {l : List (Int × Int)} (h : MRow w a len cap l) (hb : Below w.heap.size w w') : MRow w' a len cap l :=
  ⟨h.len_eq, h.le, h.max, fun h0 => by
    obtain ⟨b, off, e, hl, hc⟩ := h.at_ h0
    exact ⟨b, off, e, Nat.lt_of_lt_of_le hl hb.size, fun j hj => ⟨(hb.cell (p := ⟨b, off + (j * 2 + 0), none⟩) hl).trans (hc j hj).1, (hb.cell (p := ⟨b, off + (j * 2 + 1), none⟩) hl).trans (hc j hj).2⟩⟩, h.in_⟩

/-- The first pass' boxes. -/
structure Mb (t6 t7 mf ma K : Nat) (s : MSt) (w : World) : Prop where
  c6 : w.heap[t6]? = some (.cells #[.map (some mf)] 216 (0, 0))
  c7 : w.heap[t7]? = some (.cells #[.map (some ma)] 216 (0, 0))
  f : IntMap Tryd.prog 3 3 mf K s.F w
  a : ∃ S, IntMap Tryd.prog 3 3 ma K S w ∧ ∀ x, (S x).getD 0 = s.A x
  l1 : mf < t6
  l2 : t6 < ma
  l3 : ma < t7

section
variable {t6 t7 mf ma K : Nat} {s : MSt} {w : World}
theorem Mb.lt (h : Mb t6 t7 mf ma K s w) : t7 < w.heap.size := (Array.getElem?_eq_some_iff.1 h.c7).1
theorem Mb.below (h : Mb t6 t7 mf ma K s w) {w' : World} (hb : Below w.heap.size w w') : Mb t6 t7 mf ma K s w' := by
  have lt : ∀ (i : Nat) (o : Obj), w.heap[i]? = some o → i < w.heap.size := fun i o hi => (Array.getElem?_eq_some_iff.1 hi).1
  obtain ⟨S, a1, a2⟩ := h.a
  exact ⟨(hb.block _ (lt _ _ h.c6)).trans h.c6, (hb.block _ (lt _ _ h.c7)).trans h.c7, h.f.kept (hb.block _ h.f.lt), ⟨S, a1.kept (hb.block _ a1.lt), a2⟩, h.l1, h.l2, h.l3⟩
theorem Mb.mono (h : Mb t6 t7 mf ma K s w) {K' : Nat} (hk : K ≤ K') : Mb t6 t7 mf ma K' s w := by
  obtain ⟨S, a1, a2⟩ := h.a
  exact ⟨h.c6, h.c7, h.f.mono hk, ⟨S, a1.mono hk, a2⟩, h.l1, h.l2, h.l3⟩
theorem Mb.at6 (h : Mb t6 t7 mf ma K s w) : w.cell? ⟨t6, 0, none⟩ = some (.map (some mf)) := by rw [cell_of_row w t6 0 _ _ (0, 0) h.c6]; rfl
theorem Mb.at7 (h : Mb t6 t7 mf ma K s w) : w.cell? ⟨t7, 0, none⟩ = some (.map (some ma)) := by rw [cell_of_row w t7 0 _ _ (0, 0) h.c7]; rfl
theorem mb_turnF (h : Mb t6 t7 mf ma K s w) {w7 : World} {F : Int → Option Int} {K' : Nat} (hK : K ≤ K') (hF : IntMap Tryd.prog 3 3 mf K' F w7) (hT : w.mapTurned w7 mf) : Mb t6 t7 mf ma K' ⟨F, s.A, s.out⟩ w7 ∧ Below mf w w7 := by
  have l1 := h.l1
  have l2 := h.l2
  have l3 := h.l3
  have l4 := h.lt
  have hg := hT.grown
  have k7 : ∀ k, k < w.heap.size → k ≠ mf → w7.heap[k]? = w.heap[k]? := fun k hk hne => hg.block k hk (by simp; exact hne)
  obtain ⟨S, a1, a2⟩ := h.a
  exact ⟨⟨(k7 t6 (by omega) (by omega)).trans h.c6, (k7 t7 (by omega) (by omega)).trans h.c7, hF, ⟨S, (a1.mono hK).kept (k7 ma (by omega) (by omega)), a2⟩, l1, l2, l3⟩,
    ⟨hg.os, hg.tape, hg.output, hg.size, fun k hk => k7 k (by omega) (by omega)⟩⟩
theorem mb_turnA (h : Mb t6 t7 mf ma K s w) {w7 : World} {S : Int → Option Int} {A : Int → Int} {K' : Nat} (hK : K ≤ K') (hF : IntMap Tryd.prog 3 3 ma K' S w7) (hA : ∀ x, (S x).getD 0 = A x) (hT : w.mapTurned w7 ma) : Mb t6 t7 mf ma K' ⟨s.F, A, s.out⟩ w7 ∧ Below mf w w7 := by
  have l1 := h.l1
  have l2 := h.l2
  have l3 := h.l3
  have l4 := h.lt
  have hg := hT.grown
  have k7 : ∀ k, k < w.heap.size → k ≠ ma → w7.heap[k]? = w.heap[k]? := fun k hk hne => hg.block k hk (by simp; exact hne)
  exact ⟨⟨(k7 t6 (by omega) (by omega)).trans h.c6, (k7 t7 (by omega) (by omega)).trans h.c7, (h.f.mono hK).kept (k7 mf (by omega) (by omega)), ⟨S, hF, hA⟩, l1, l2, l3⟩,
    ⟨hg.os, hg.tape, hg.output, hg.size, fun k hk => k7 k (by omega) (by omega)⟩⟩
end

theorem turned_keeps {w w' : World} {m k : Nat} (h : w.mapTurned w' m) (hk : k < w.heap.size) (hne : k ≠ m) : w'.heap[k]? = w.heap[k]? := h.grown.block k hk (by simp; exact hne)

def orderW (w : World) : World := (((w.alloc (.map #[] 0)).alloc (.cells #[.map (some w.heap.size)] 216)).alloc (.map #[] 0)).alloc (.cells #[.map (some (w.heap.size + 1 + 1))] 216)

theorem orderW_mb (w : World) : Mb (w.heap.size + 1) (w.heap.size + 1 + 1 + 1) w.heap.size (w.heap.size + 1 + 1) 0 ⟨fun _ => none, fun _ => 0, []⟩ (orderW w) := by
  have h6 : (orderW w).heap[w.heap.size + 1]? = some (.cells #[.map (some w.heap.size)] 216 (0, 0)) := by
    unfold orderW
    rw [Below.heap_alloc _ _ _ (by simp <;> omega), Below.heap_alloc _ _ _ (by simp)]
    have := heap_alloc_new (w.alloc (.map #[] 0)) (.cells #[.map (some w.heap.size)] 216)
    rw [World.size_alloc] at this
    exact this
  have h7 : (orderW w).heap[w.heap.size + 1 + 1 + 1]? = some (.cells #[.map (some (w.heap.size + 1 + 1))] 216 (0, 0)) := by
    unfold orderW
    have := heap_alloc_new (((w.alloc (.map #[] 0)).alloc (.cells #[.map (some w.heap.size)] 216)).alloc (.map #[] 0)) (.cells #[.map (some (w.heap.size + 1 + 1))] 216)
    rw [World.size_alloc, World.size_alloc, World.size_alloc] at this
    exact this
  have hf : IntMap Tryd.prog 3 3 w.heap.size 0 (fun _ => none) (orderW w) :=
    (IntMap.made w Tryd.prog 3 3).kept (by
      unfold orderW
      rw [Below.heap_alloc _ _ _ (by simp <;> omega), Below.heap_alloc _ _ _ (by simp <;> omega), Below.heap_alloc _ _ _ (by simp)])
  have ha : IntMap Tryd.prog 3 3 (w.heap.size + 1 + 1) 0 (fun _ => none) (orderW w) := by
    have := IntMap.made ((w.alloc (.map #[] 0)).alloc (.cells #[.map (some w.heap.size)] 216)) Tryd.prog 3 3
    rw [World.size_alloc, World.size_alloc] at this
    exact this.kept (Below.heap_alloc _ _ _ (by simp))
  exact ⟨h6, h7, hf, ⟨_, ha, fun _ => rfl⟩, by omega, by omega, by omega⟩

theorem orderW_below (w : World) : Below w.heap.size w (orderW w) := ((((Below.refl _ _).alloc (Nat.le_refl _) _).alloc (by simp) _).alloc (by simp <;> omega) _).alloc (by simp <;> omega) _

/-- From the first pass' boxes to the others'. -/
theorem mb_mv {t6 t7 mf ma K : Nat} {s : MSt} {w : World} (h : Mb t6 t7 mf ma K s w) (ho : s.out = []) : Mv (w.heap.size + 1) t6 t7 w.heap.size mf ma K s (w.alloc (.cells #[.slice none 0 0] 103)) := by
  have h2 := h.below ((Below.refl _ _).alloc (Nat.le_refl _) (.cells #[.slice none 0 0] 103))
  exact ⟨h2.c6, h2.c7, ⟨_, heap_alloc_new _ _, by rw [ho]; exact World.ownsRow_nil _ _ _ _⟩, h2.f, h2.a, h.l1, h.l2, h.l3, h.lt, by omega⟩

end Go.Proofs.YtflbjfcmnopfaaaDoor

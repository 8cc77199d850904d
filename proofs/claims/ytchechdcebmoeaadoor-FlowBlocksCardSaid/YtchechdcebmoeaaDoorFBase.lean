/-
  What XFwA, XFwB, XFwC, XFwD, XFwE, XFwR, XFwO, XFwH, XFwL, XFwM, XFwN, XFwQ, XFwS, XFwT, XFam, XRws, XPSet, XPrdW, XAppK stand on.
-/
import Derived.Test.YtchechdcebmoeaaDoorKit
import Derived.Test.YtchechdcebmoeaaDoorMem
import Derived.Test.YtchechdcebmoeaaDoorMap
import Derived.Test.YtchechdcebmoeaaDoorSameI
import Derived.Test.YtchechdcebmoeaaDoorSrtL
import Derived.BigQuiet
import Derived.Deep.DeepCutAuto
import Derived.Deep.QuietTactic
import Derived.Deep.RegionLaw
import Derived.Deep.RegionWith
import Derived.IntWalk
import Derived.LaidEql
import Derived.LaidSub
import Derived.Laws.AppendOwnNone
import Derived.Laws.BitsAllLaws
import Derived.Laws.CopyOwn
import Derived.Lib.SliceRun
import Derived.Maps.AppendAt
import Derived.Outline
import Derived.StillTailTactics
import Derived.Stop.LaidErr
import Derived.WalkKit
import Derived.WalkSpells
namespace Go.Proofs.YtchechdcebmoeaaDoor
open Go.ChangeShapes Go.RowKit

/-- An arena: its box b, its words' block g. -/
structure An (B b g n : Nat) (zs : List Int) (w : World) : Prop where
  len : zs.length = n
  small : n ≤ 65536
  box : w.cell? ⟨b, 0, none⟩ = some (.slice (some ⟨g, 0, none⟩) n n)
  row : w.heap[g]? = some (.cells (zs.map (Value.int .i64)).toArray 2 (0, 0))
  ne : b ≠ g
  lo : B ≤ g

theorem An.cell {B b g n : Nat} {zs : List Int} {w : World} (h : An B b g n zs w) (j : Nat) (hj : j < n) : w.cell? ⟨g, j, none⟩ = some (.int .i64 (zs.getD j 0)) := by
  have hl := h.len
  rw [cell_of_row w g j _ 2 (0, 0) h.row]
  simp [List.getD, List.getElem?_eq_getElem (show j < zs.length by omega)]

theorem An.frozen {B b g n : Nat} {zs : List Int} {w : World} (h : An B b g n zs w) (j : Nat) : w.frozen? ⟨g, j, none⟩ = false := frozen_of_row w g j _ 2 h.row

/-- Another block's turn leaves it. -/
theorem An.kept {B b g n : Nat} {zs : List Int} {w w' : World} (h : An B b g n zs w) (hg : w'.heap[g]? = w.heap[g]?) (hb : w'.heap[b]? = w.heap[b]?) : An B b g n zs w' :=
  ⟨h.len, h.small, (World.cell?_of_block (a := ⟨b, 0, none⟩) hb).trans h.box, hg.trans h.row, h.ne, h.lo⟩

theorem An.stored {B b g n : Nat} {zs : List Int} {w : World} (h : An B b g n zs w) (j : Nat) (v : Int) : An B b g n (zs.set j v) (w.setCell ⟨g, j, none⟩ (.int .i64 v)) := by
  refine ⟨by simpa using h.len, h.small, ?_, ?_, h.ne, h.lo⟩
  · rw [World.cell?_of_block (w := w) (Below.heap_setCell w ⟨g, j, none⟩ _ b h.ne)]; exact h.box
  · rw [heap_setCell_same w g j _ 2 _ h.row]; simp [List.map_set]

theorem below_drew {B : Nat} {a w : World} (h : Below B a w) : Below B a w.drew := ⟨h.os, h.tape, h.output, h.size, h.block⟩

theorem boolinfo : (Tryd.prog.info? 4).map (fun i => (i.zero, i.size, i.bytes)) = some (some (.bool false), 1, 1) := by kernel_rfl

theorem add_zeroC (b k : Nat) : (⟨b, 0, none⟩ : Addr).add k = ⟨b, k, none⟩ := by
  unfold Addr.add
  split
  · rename_i h0; rw [h0]
  · simp

theorem An.base {B C b g n : Nat} {zs : List Int} {w : World} (h : An B b g n zs w) (hc : C ≤ B) : An C b g n zs w := ⟨h.len, h.small, h.box, h.row, h.ne, Nat.le_trans hc h.lo⟩

theorem cells_newM (w : World) (x y : Value) (T : TypeId) : ∀ j u, [x, y][j]? = some u → (w.alloc (.cells #[x, y] T)).cell? ((⟨w.heap.size, 0, none⟩ : Addr).add j) = some u := by
  intro j u hu
  have hj : j < 2 := by
    have := (List.getElem?_eq_some_iff.1 hu).1
    simpa using this
  rw [add_zeroC, cell_of_row _ w.heap.size j _ T (0, 0) (heap_alloc_new w _), ← hu]
  match j, hj with
  | 0, _ => rfl
  | 1, _ => rfl

theorem owns_stays {w w' : World} {N e k n : Nat} {v : Value} {xs : List Value} (h : w.ownsRow N e k v n xs) (hk : ∀ k, N ≤ k → k < w.heap.size → w'.heap[k]? = w.heap[k]?) : w'.ownsRow N e k v n xs := by
  refine ⟨h.1, ?_⟩
  rcases h.2 with h2 | ⟨g, cap, cur, hv, hb, hg, h3⟩
  · exact .inl h2
  · exact .inr ⟨g, cap, cur, hv, hb, (hk g hb (Array.getElem?_eq_some_iff.1 hg).1).trans hg, h3⟩

theorem own_shapeM {B : Nat} {w : World} {e size n : Nat} {v : Value} {xs : List Value} (h : w.ownsRow B e size v n xs) : ∃ a c, v = .slice a n c := by
  rcases h.2 with ⟨rfl, h1⟩ | ⟨g, cap, cur, h1, h2, h3⟩
  · exact ⟨none, 0, by rw [h1]⟩
  · exact ⟨_, _, h1⟩

theorem rowinfoM : (Tryd.prog.info? 26).map (fun i => (i.zero, i.size, i.bytes)) = some (some (.slice none 0 0), 1, 24) := by kernel_rfl

theorem own_typeM {w : World} {B e size n : Nat} {v : Value} {xs : List Value} (h : w.ownsRow B e size v n xs) {g : Nat} (hg : v.ownBlock = some g) : ∃ cur, w.heap[g]? = some (.cells cur e (0, 0)) := by
  rcases h.2 with ⟨rfl, _⟩ | ⟨g', cap, cur, rfl, _, h1, _⟩
  · cases hg
  · have : g' = g := Option.some.inj hg
    subst this
    exact ⟨cur, h1⟩

/-- Places and values in their rows. -/
structure KV (B : Nat) (bs : List Nat) (v : Value) (ks : List (Int × Int)) (w : World) : Prop where
  len : bs.length = ks.length
  nodup : bs.Nodup
  base : ∀ b ∈ bs, B ≤ b
  own : w.ownsRow B 26 1 v ks.length (bs.map fun b => .slice (some ⟨b, 0, none⟩) 2 2)
  at_ : ∀ j, j < ks.length → w.heap[bs.getD j 0]? = some (.cells #[.int .i64 (ks.getD j (0, 0)).1, .int .i64 (ks.getD j (0, 0)).2] 3 (0, 0))

theorem KV.nil (B : Nat) (w : World) : KV B [] (.slice none 0 0) [] w := ⟨rfl, List.nodup_nil, fun _ h => (by cases h), World.ownsRow_nil _ _ _ _, fun j h => absurd h (Nat.not_lt_zero _)⟩

theorem KV.kept {B : Nat} {bs : List Nat} {v : Value} {ks : List (Int × Int)} {w w' : World} (h : KV B bs v ks w) (hk : ∀ k, k < w.heap.size → w'.heap[k]? = w.heap[k]?) : KV B bs v ks w' :=
  ⟨h.len, h.nodup, h.base, owns_stays h.own fun k _ hk2 => hk k hk2, fun j hj => (hk _ (Array.getElem?_eq_some_iff.1 (h.at_ j hj)).1).trans (h.at_ j hj)⟩

theorem KV.cells {B : Nat} {bs : List Nat} {a : Option Addr} {n c : Nat} {ks : List (Int × Int)} {w : World} (h : KV B bs (.slice a n c) ks w) {i : Nat} (hi : i < n) :
    ∃ g b, a = some ⟨g, 0, none⟩ ∧ n = ks.length ∧ n ≤ c ∧ c ≤ maxLen ∧ bs.getD i 0 = b ∧ w.cell? ⟨g, i, none⟩ = some (.slice (some ⟨b, 0, none⟩) 2 2) ∧ w.cell? ⟨b, 0, none⟩ = some (.int .i64 (ks.getD i (0, 0)).1) ∧ w.cell? ⟨b, 1, none⟩ = some (.int .i64 (ks.getD i (0, 0)).2) := by
  rcases h.own.2 with ⟨e, h0⟩ | ⟨g, cap, cur, e, hb, hg, hnc, hcm, hcs, ht⟩
  · cases e; omega
  · cases e
    have hx := h.at_ i hi
    refine ⟨g, bs.getD i 0, rfl, rfl, hnc, hcm, rfl, ?_, ?_, ?_⟩
    · rw [h.own.cellAt i (by omega), List.getElem?_map]
      simp [List.getD, show i < bs.length by rw [h.len]; exact hi]
    · rw [cell_of_row w _ 0 _ _ (0, 0) hx]; rfl
    · rw [cell_of_row w _ 1 _ _ (0, 0) hx]; rfl

theorem KV.len_le {B : Nat} {bs : List Nat} {a : Option Addr} {n c : Nat} {ks : List (Int × Int)} {w : World} (h : KV B bs (.slice a n c) ks w) : n = ks.length ∧ n ≤ c ∧ c ≤ maxLen := by
  rcases h.own.2 with ⟨e, h0⟩ | ⟨g, cap, cur, e, hb, hg, hnc, hcm, hcs, ht⟩
  · cases e; exact ⟨h0.symm, Nat.le_refl _, Nat.zero_le _⟩
  · cases e; exact ⟨rfl, hnc, hcm⟩

/-- The same places at the same blocks, one value new. -/
theorem KV.stored {B : Nat} {bs : List Nat} {v : Value} {ks : List (Int × Int)} {w : World} (h : KV B bs v ks w) {i : Nat} (hi : i < ks.length) {p : Int} (hp : (ks.getD i (0, 0)).1 = p) (x : Int) : KV B bs v (ks.set i (p, x)) (w.setCell ⟨bs.getD i 0, 1, none⟩ (.int .i64 x)) := by
  have hib : i < bs.length := by rw [h.len]; exact hi
  have hbi := h.at_ i hi
  have hne : ∀ k, k ≠ bs.getD i 0 → (w.setCell ⟨bs.getD i 0, 1, none⟩ (.int .i64 x)).heap[k]? = w.heap[k]? := fun k hk => heap_setCell_other w ⟨bs.getD i 0, 1, none⟩ k _ (fun e => hk e)
  refine ⟨by rw [List.length_set]; exact h.len, h.nodup, h.base, ?_, fun j hj => ?_⟩
  · rw [List.length_set]
    refine ⟨h.own.1, ?_⟩
    rcases h.own.2 with h2 | ⟨g, cap, cur, hv, hb, hg, h3⟩
    · exact .inl h2
    · refine .inr ⟨g, cap, cur, hv, hb, (hne g (fun e => ?_)).trans hg, h3⟩
      rw [e, hbi] at hg
      cases hg
  · rw [List.length_set] at hj
    by_cases e : j = i
    · subst e
      rw [heap_setCell_same w (bs.getD j 0) 1 _ 3 _ hbi]
      have e2 : (ks.set j (p, x)).getD j (0, 0) = (p, x) := by simp [List.getD, hj]
      rw [e2, hp]
      rfl
    · have hjb : j < bs.length := by rw [h.len]; exact hj
      have e2 : (ks.set i (p, x)).getD j (0, 0) = ks.getD j (0, 0) := by simp [List.getD, show ¬ i = j from fun q => e q.symm]
      rw [e2, hne _ (fun q => ?_)]
      · exact h.at_ j hj
      · rw [show bs.getD j 0 = bs[j] by simp [List.getD, hjb], show bs.getD i 0 = bs[i] by simp [List.getD, hib]] at q
        rcases Nat.lt_or_gt_of_ne e with h1 | h1
        · exact List.pairwise_iff_getElem.1 h.nodup _ _ hjb hib h1 q
        · exact List.pairwise_iff_getElem.1 h.nodup _ _ hib hjb h1 q.symm

/-- One place more. -/
theorem KV.more {B : Nat} {bs : List Nat} {v v5 : Value} {ks : List (Int × Int)} {w w5 : World} {o2 : Obj} {p x : Int} (h : KV B bs v ks w) (hB : B ≤ w.heap.size)
    (h5 : ((w.alloc (.cells #[.int .i64 p, .int .i64 x] 3)).alloc o2).grownBy w5 v.ownBlock) (ho : w5.ownsRow B 26 1 v5 (ks.length + 1) ((bs.map fun b => .slice (some ⟨b, 0, none⟩) 2 2) ++ [.slice (some ⟨w.heap.size, 0, none⟩) 2 2])) :
    KV B (bs ++ [w.heap.size]) v5 (ks ++ [(p, x)]) w5 := by
  have hlt : ∀ b ∈ bs, b < w.heap.size := fun b hb => by
    obtain ⟨j, hj, rfl⟩ := List.getElem_of_mem hb
    have := h.at_ j (by rw [← h.len]; exact hj)
    rw [show bs.getD j 0 = bs[j] by simp [List.getD, hj]] at this
    exact (Array.getElem?_eq_some_iff.1 this).1
  have hk : ∀ (k : Nat) (c : Array Value), w.heap[k]? = some (Obj.cells c 3 (0, 0)) → w5.heap[k]? = some (Obj.cells c 3 (0, 0)) := fun k c hc => by
    have hl := (Array.getElem?_eq_some_iff.1 hc).1
    rw [h5.block k (by rw [World.size_alloc, World.size_alloc]; omega) (fun e => ?_), Below.heap_alloc _ _ _ (by rw [World.size_alloc]; omega), Below.heap_alloc _ _ _ hl]
    · exact hc
    · obtain ⟨cur, hcur⟩ := own_typeM h.own e.symm
      rw [hc] at hcur
      cases hcur
  refine ⟨by simp [h.len], ?_, fun b hb => ?_, ?_, fun j hj => ?_⟩
  · rw [List.nodup_append]
    refine ⟨h.nodup, by simp, fun a ha b hb e => ?_⟩
    simp at hb
    have := hlt a ha
    omega
  · rcases List.mem_append.1 hb with h1 | h1
    · exact h.base b h1
    · simp at h1
      omega
  · rw [List.map_append, List.length_append]
    exact ho
  · rw [List.length_append] at hj
    by_cases hjk : j < ks.length
    · have e1 : (bs ++ [w.heap.size]).getD j 0 = bs.getD j 0 := by simp [List.getD, List.getElem?_append, show j < bs.length by rw [h.len]; exact hjk]
      have e2 : (ks ++ [(p, x)]).getD j (0, 0) = ks.getD j (0, 0) := by simp [List.getD, List.getElem?_append, hjk]
      rw [e1, e2]
      exact hk _ _ (h.at_ j hjk)
    · have hj2 : j = ks.length := by simp at hj; omega
      subst hj2
      have e1 : (bs ++ [w.heap.size]).getD ks.length 0 = w.heap.size := by rw [← h.len]; simp [List.getD]
      have e2 : (ks ++ [(p, x)]).getD ks.length (0, 0) = (p, x) := by simp [List.getD]
      rw [e1, e2]
      rw [h5.block w.heap.size (by rw [World.size_alloc, World.size_alloc]; omega) (fun e => ?_), Below.heap_alloc _ _ _ (by rw [World.size_alloc]; omega)]
      · exact heap_alloc_new _ _
      · have := (h.own.lt _ e.symm).2
        omega

theorem least {P : Nat → Prop} (n : Nat) (h : P n) : ∃ m, m ≤ n ∧ P m ∧ ∀ i, i < m → ¬ P i := by
  induction n using Nat.strongRecOn with
  | _ n ih =>
    by_cases hx : ∃ i, i < n ∧ P i
    · obtain ⟨i, hi, hp⟩ := hx
      obtain ⟨m, h1, h2, h3⟩ := ih i hi hp
      exact ⟨m, by omega, h2, h3⟩
    · exact ⟨n, Nat.le_refl _, h, fun i hi hp => hx ⟨i, hi, hp⟩⟩

/-- Which places have been seen. -/
structure SeenAt (B g n : Nat) (S : Nat → Bool) (w : World) : Prop where
  row : w.heap[g]? = some (.cells ((List.range n).map fun k => Value.bool (S k)).toArray 4 (0, 0))
  lo : B ≤ g

section

variable {B g n : Nat} {S : Nat → Bool} {w : World}

theorem SeenAt.cell (h : SeenAt B g n S w) {j : Nat} (hj : j < n) : w.cell? ⟨g, j, none⟩ = some (.bool (S j)) := by
  rw [cell_of_row w g j _ 4 (0, 0) h.row]
  simp [hj]

theorem SeenAt.frozen (h : SeenAt B g n S w) (j : Nat) : w.frozen? ⟨g, j, none⟩ = false := frozen_of_row w g j _ 4 h.row

theorem SeenAt.lt (h : SeenAt B g n S w) : g < w.heap.size := (Array.getElem?_eq_some_iff.1 h.row).1

theorem SeenAt.stored (h : SeenAt B g n S w) (j : Nat) : SeenAt B g n (fun k => if k = j then true else S k) (w.setCell ⟨g, j, none⟩ (.bool true)) := by
  refine ⟨?_, h.lo⟩
  rw [heap_setCell_same w g j _ 4 _ h.row]
  have e : ((List.range n).map fun k => Value.bool (S k)).set j (.bool true) = (List.range n).map fun k => Value.bool (if k = j then true else S k) := by
    refine List.ext_getElem (by simp) fun i h1 h2 => ?_
    rw [List.getElem_set]
    simp only [List.getElem_map, List.getElem_range]
    by_cases q : j = i
    · subst q; simp
    · rw [if_neg q, if_neg (fun e => q e.symm)]
  simp [e]

theorem SeenAt.keep (h : SeenAt B g n S w) {w' : World} (hb : w'.heap[g]? = w.heap[g]?) : SeenAt B g n S w' := ⟨hb.trans h.row, h.lo⟩

end

theorem seenAt_made {w w' : World} {n : Nat} (h : w'.ownsRow w.heap.size 4 1 (.slice (some ⟨w.heap.size, 0, none⟩) n n) n (List.replicate n (.bool false))) : SeenAt w.heap.size w.heap.size n (fun _ => false) w' := by
  refine ⟨?_, Nat.le_refl _⟩
  rcases h.2 with ⟨hv, _⟩ | ⟨g, cap, cur, hv, hb, hg, hnc, hm, hcs, ht⟩
  · cases hv
  · cases hv
    rw [hg]
    have hl : cur.toList = List.replicate n (Value.bool false) := by
      rw [← ht, List.take_of_length_le (by simp only [Array.length_toList]; omega)]
    have hc : cur = (List.replicate n (Value.bool false)).toArray := by rw [← hl]
    rw [hc]
    congr 3
    refine List.ext_getElem (by simp) fun i h1 h2 => ?_
    simp

end Go.Proofs.YtchechdcebmoeaaDoor

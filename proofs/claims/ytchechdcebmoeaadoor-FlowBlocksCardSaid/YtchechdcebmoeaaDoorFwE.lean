/-
  flow.newWalk, by a contract: the walk.
-/
import Derived.Test.YtchechdcebmoeaaDoorFwD
import Derived.Test.YtchechdcebmoeaaDoorAppK
import Derived.Maps.AppendAt
import Derived.Deep.RegionLaw
namespace Go.Proofs.YtchechdcebmoeaaDoor
open Go.RowKit

theorem intinfoW : (Tryd.prog.info? 3).map (fun i => (i.zero, i.size, i.bytes)) = some (some (.int .i64 0), 1, 8) := by kernel_rfl
theorem stepinfoW : (Tryd.prog.info? 228).map (fun i => (i.zero, i.size, i.bytes)) = some (some (.agg #[.int .i64 0, .int .i64 0]), 2, 16) := by kernel_rfl

theorem zeros_made {w w' : World} {n : Nat} (h : w'.ownsRow w.heap.size 3 1 (.slice (some ⟨w.heap.size, 0, none⟩) n n) n (List.replicate n (.int .i64 0))) : w'.heap[w.heap.size]? = some (.cells ((List.range n).map fun k => Value.int .i64 (((fun _ => 0 : Nat → Nat) k : Nat) : Int)).toArray 3 (0, 0)) := by
  rcases h.2 with ⟨hv, _⟩ | ⟨g, cap, cur, hv, hb, hg, hnc, hm, hcs, ht⟩
  · cases hv
  · cases hv
    rw [hg]
    have hl : cur.toList = List.replicate n (Value.int .i64 0) := by
      rw [← ht, List.take_of_length_le (by simp only [Array.length_toList]; omega)]
    have hc : cur = (List.replicate n (Value.int .i64 0)).toArray := by rw [← hl]
    rw [hc]
    congr 3
    refine List.ext_getElem (by simp) fun i h1 h2 => ?_
    simp

/-- The boxes as the walk begins. -/
theorem begin_boxes {w w1 : World} {n : Nat} {ga : Option Addr} {gc : Nat} (h : w1.ownsRow w.heap.size 3 1 (.slice (some ⟨w.heap.size, 0, none⟩) n n) n (List.replicate n (.int .i64 0))) (hg : w.grownBy w1 none) :
    Wb w.heap.size w1.heap.size w.heap.size n (.slice ga n gc) ⟨fun _ => 0, [], [], []⟩ [] (.slice none 0 0) (.slice none 0 0) (w1.alloc (.cells #[.slice ga n gc, .slice (some ⟨w.heap.size, 0, none⟩) n n, .slice none 0 0, .slice none 0 0] 165)) := by
  have hz := zeros_made h
  have hlt := (Array.getElem?_eq_some_iff.1 hz).1
  exact ⟨heap_alloc_new _ _, (Below.heap_alloc _ _ _ hlt).trans hz, World.ownsRow_nil _ _ _ _, KV.nil _ _, by simp [Value.ownBlock], by simp, fun b hb => (by cases hb), hg.size, Nat.le_refl _⟩

def NewWPost (g : List (List Int)) (gv : Value) (w : World) (e : Ending) (w' : World) : Prop :=
  ∃ p q bs lv ov, e = .returned (.pointer (some ⟨p, 0, none⟩)) ∧ Wb w.heap.size p q g.length gv (walkW g) bs lv ov w' ∧ Below w.heap.size w w'

theorem begin_ok {g : List (List Int)} {N : Nat} (h0 : 0 < g.length) (hN : muW g beginW + 1 ≤ N) : OkW g N beginW :=
  ⟨fun p hp => by simp [beginW] at hp; subst hp; exact ⟨h0, Nat.zero_le _⟩, fun v => by unfold beginW setN; dsimp only; split <;> decide, fun v hv => by simp [beginW] at hv, fun e he => by simp [beginW] at he, by simp [beginW] at hN ⊢; omega⟩

theorem begin_done {g : List (List Int)} {N : Nat} (h0 : 0 < g.length) (hN : muW g beginW + 1 ≤ N) : DoneBy g beginW (walkW g) := by
  have hok := begin_ok h0 hN
  have more : ∀ (d f : Nat) (s : Wk), OkW g N s → muW g s ≤ f → f ≤ d → runW g d s = runW g f s := by
    intro d
    induction d with
    | zero =>
      intro f s _ _ h2
      obtain rfl : f = 0 := by omega
      rfl
    | succ d ih =>
      intro f s hs h1 h2
      cases hq : s.path.getLast? with
      | none =>
        have e : s.path = [] := by simpa using hq
        rw [runW_end e, runW_end e]
      | some x =>
        obtain ⟨v, k⟩ := x
        have hst := hs.step hq
        obtain ⟨f', rfl⟩ : ∃ f', f = f' + 1 := ⟨f - 1, by omega⟩
        rw [runW_next hq, runW_next hq]
        exact ih f' _ hst.1 (by omega) (by omega)
  intro f hf
  unfold walkW
  rw [if_neg (fun e => by rw [e] at h0; simp at h0)]
  exact more f _ _ hok (Nat.le_refl _) hf

theorem begin_rep {g : List (List Int)} {N n : Nat} {ga : Option Addr} {gc : Nat} {w w1 : World} (hn : g.length = n) (h0 : 0 < n)
    (hwb : Wb w.heap.size w1.heap.size w.heap.size n (.slice ga n gc) ⟨fun _ => 0, [], [], []⟩ [] (.slice none 0 0) (.slice none 0 0) (w1.alloc (.cells #[.slice ga n gc, .slice (some ⟨w.heap.size, 0, none⟩) n n, .slice none 0 0, .slice none 0 0] 165)))
    (hg : w.grownBy w1 none) (hN : muW g beginW + 1 ≤ N) :
    ∃ s, NwRep g N w.heap.size w1.heap.size w.heap.size ga gc (walkW g) w s (.slice (some ⟨w1.heap.size + 1, 0, none⟩) 1 1) (((w1.alloc (.cells #[.slice ga n gc, .slice (some ⟨w.heap.size, 0, none⟩) n n, .slice none 0 0, .slice none 0 0] 165)).setCell ⟨w.heap.size, 0, none⟩ (.int .i64 1)).alloc (.cells #[.int .i64 0, .int .i64 0] 228)) := by
  subst hn
  have hw := (hwb.entered 0 1).kept (w' := ((w1.alloc (.cells #[.slice ga g.length gc, .slice (some ⟨w.heap.size, 0, none⟩) g.length g.length, .slice none 0 0, .slice none 0 0] 165)).setCell ⟨w.heap.size, 0, none⟩ (.int .i64 1)).alloc (.cells #[.int .i64 0, .int .i64 0] 228)) fun k hk => Below.heap_alloc _ _ _ hk
  have hsz : ((w1.alloc (.cells #[.slice ga g.length gc, .slice (some ⟨w.heap.size, 0, none⟩) g.length g.length, .slice none 0 0, .slice none 0 0] 165)).setCell ⟨w.heap.size, 0, none⟩ (.int .i64 1)).heap.size = w1.heap.size + 1 := by rw [World.size_setCell, World.size_alloc]
  refine ⟨beginW, ⟨[], _, _, ⟨hw.cp, hw.cq, hw.left, hw.loops, hw.lq, hw.bq, hw.bl, hw.bp, hw.bq2⟩⟩, ?_, begin_ok h0 hN, begin_done h0 hN, ?_⟩
  · refine ⟨by simp [stepCells, beginW], .inr ⟨w1.heap.size + 1, 1, #[.int .i64 0, .int .i64 0], rfl, by have := hg.size; omega, ?_, Nat.le_refl _, by unfold maxLen; omega, rfl, rfl⟩⟩
    have := heap_alloc_new ((w1.alloc (.cells #[.slice ga g.length gc, .slice (some ⟨w.heap.size, 0, none⟩) g.length g.length, .slice none 0 0, .slice none 0 0] 165)).setCell ⟨w.heap.size, 0, none⟩ (.int .i64 1)) (.cells #[.int .i64 0, .int .i64 0] 228)
    rw [hsz] at this
    exact this
  · have b1 : Below w.heap.size w w1 := Below.grown (Below.refl _ w) hg (Nat.le_refl _) (by simp)
    exact ((b1.alloc b1.size _).setCell (Nat.le_refl _) _).alloc (by rw [hsz]; have := b1.size; omega) _

/-- The path's row is none of the walk's boxes. -/
theorem path_ne {B p q n m : Nat} {gv : Value} {s : Wk} {bs : List Nat} {lv ov pv : Value} {w : World} {xs : List Value} (h : Wb B p q n gv s bs lv ov w) (hp : w.ownsRow B 228 2 pv m xs) {k : Nat} (hk : pv.ownBlock = some k) : k ≠ p ∧ k ≠ q ∧ lv.ownBlock ≠ some k ∧ ov.ownBlock ≠ some k ∧ k ∉ bs := by
  obtain ⟨cur, hc⟩ := own_typeM hp hk
  have ty : ∀ {c : Array Value} {t : TypeId}, w.heap[k]? = some (.cells c t (0, 0)) → t = 228 := fun h2 => by
    rw [hc] at h2
    exact (Obj.cells.inj (Option.some.inj h2)).2.1.symm
  refine ⟨fun e => ?_, fun e => ?_, fun e => ?_, fun e => ?_, fun e => ?_⟩
  · exact absurd (ty (by rw [e]; exact h.cp)) (by decide)
  · exact absurd (ty (by rw [e]; exact h.cq)) (by decide)
  · obtain ⟨cur2, hc2⟩ := own_typeM h.left e
    exact absurd (ty hc2) (by decide)
  · obtain ⟨cur2, hc2⟩ := own_typeM h.loops.own e
    exact absurd (ty hc2) (by decide)
  · obtain ⟨j, hj, rfl⟩ := List.getElem_of_mem e
    have := h.loops.at_ j (by rw [← h.loops.len]; exact hj)
    rw [show bs.getD j 0 = bs[j] by simp [List.getD, hj]] at this
    exact absurd (ty this) (by decide)

structure LeftR (B p q n : Nat) (gv : Value) (s : Wk) (bs : List Nat) (lv ov pv : Value) (w wx : World) : Prop where
  b : Wb B p q n gv s bs lv ov wx
  p : wx.ownsRow B 228 2 pv s.path.length (stepCells s.path)
  bel : Below w.heap.size w wx

theorem left_state {B p q n : Nat} {gv : Value} {s : Wk} {bs : List Nat} {lv ov pv : Value} {w0 w : World} (h : LeftR B p q n gv s bs lv ov pv w0 w) (hB : w0.heap.size = B) (d v x : Nat) : LeftR B p q n gv ⟨setN s.st v x, s.left, s.loops, s.path⟩ bs lv ov pv w0 ((w.drewN d).setCell ⟨q, v, none⟩ (.int .i64 x)) := by
  have h2 := h.b.kept (w' := w.drewN d) fun _ _ => rfl
  refine ⟨h2.entered v x, ?_, (below_drewN h.bel d).setCell (by rw [hB]; exact h.b.bq2) _⟩
  exact owns_kept1 h.p fun k hk => heap_setCell_other _ _ _ _ (path_ne h.b h.p hk).2.1

/-- 'append' to what is the call's own, as one step of a region that draws its order. -/
theorem step_append_at {P : Program} {ops : Array Oper} {o : Oper} {a : Act} {w : World} {K : Act → World → Prop} {Q : Exit → Act → World → Prop} {E : Prop} (hgd : o.guard = none) (s x : Operand) (t : TypeId)
    (ho : o.op = .call { callee := .builtin .append, args := #[s, x], argTypes := #[t, t] })
    (base : Nat) (e : TypeId) (i : TypeInfo) (z : Value) (size bytes : Nat) (ht : P.underlying t = some (.slice e)) (hi : P.info? e = some i) (hz : i.zero = some z)
    (hsize : i.size = size) (hby : i.bytes = bytes) (hzs : z.cells.size = size) (hsz : 0 < size)
    (v : Value) (n : Nat) (xs : List Value) (hs : a.eval s = v) (hown : w.ownsRow base e size v n xs)
    (ad : Addr) (m c : Nat) (news : List Value) (hx : a.eval x = .slice (some ad) m c) (hl : news.length = m * size) (hnews : ∀ j u, news[j]? = some u → w.cell? (ad.add j) = some u) (h1 : ∀ u ∈ news, u.oneCell' = true)
    (h63 : n + m ≤ maxLen) (hbytes : (n + m) * bytes ≤ 140737488355328) (hbase : base ≤ w.heap.size)
    (h : ∀ v' w', w'.ownsRow base e size v' (n + m) (xs ++ news) → w.grownBy w' v.ownBlock → (v'.ownBlock = v.ownBlock ∨ v'.ownBlock = some w.heap.size) → K (a.put o.dst v') w') :
    if Region.wanted o (yielded ops a.tmps) = true then Oper.wp P o a w K Q else E := by
  have hw : Region.wanted o (yielded ops a.tmps) = true := by simp [Region.wanted, hgd]
  rw [if_pos hw]
  obtain ⟨v', w', hrun, r1, r2, _, r4⟩ := run_append_own_at (P := P) w base t o.type e i z size bytes ht hi hz hsize hby hzs hsz v n xs hown ad m c news hl hnews h1 h63 hbytes hbase
  unfold Oper.wp
  simp [execOp, ho, resolve, invoke, builtin, hs, hx, hrun, Result.andThen]
  exact h v' w' r1 r2 r4

theorem left_append {B p q n : Nat} {gv : Value} {s : Wk} {bs : List Nat} {lv ov pv : Value} {w0 w : World} (h : LeftR B p q n gv s bs lv ov pv w0 w) (hB : w0.heap.size = B) (v : Nat) {lv5 : Value} {w5 : World}
    (hown : w5.ownsRow B 3 1 lv5 (s.left.length + 1) ((s.left.map fun (v : Nat) => Value.int .i64 (v : Int)) ++ [.int .i64 (v : Int)])) (hg : (w.drew.alloc (.cells #[.int .i64 (v : Int)] 3)).grownBy w5 lv.ownBlock) (hat : lv5.ownBlock = lv.ownBlock ∨ lv5.ownBlock = some (w.drew.alloc (.cells #[.int .i64 (v : Int)] 3)).heap.size) :
    (w5.cell? ⟨p, 2, none⟩ = some lv ∧ w5.frozen? ⟨p, 2, none⟩ = false) ∧ LeftR B p q n gv ⟨s.st, s.left ++ [v], s.loops, s.path⟩ bs lv5 ov pv w0 (w5.setCell ⟨p, 2, none⟩ lv5) := by
  have hb := h.b
  have hsz : (w.drew.alloc (.cells #[.int .i64 (v : Int)] 3)).heap.size = w.heap.size + 1 := by rw [World.size_alloc]; rfl
  have old : ∀ k, k < w.heap.size → lv.ownBlock ≠ some k → w5.heap[k]? = w.heap[k]? := fun k hk hne => by
    rw [hg.block k (by rw [hsz]; omega) hne.symm, Below.heap_alloc _ _ _ (show k < w.drew.heap.size from hk)]
    rfl
  have hp5 := (old p hb.ltp fun e => (hb.lv_ne e).1 rfl).trans hb.cp
  have hset : ∀ k, k ≠ p → (w5.setCell ⟨p, 2, none⟩ lv5).heap[k]? = w5.heap[k]? := fun k hk => heap_setCell_other w5 ⟨p, 2, none⟩ k _ hk
  have hne5 : ∀ k, k < w.heap.size → lv.ownBlock ≠ some k → lv5.ownBlock ≠ some k := fun k hk hne e => by
    rcases hat with h1 | h1
    · exact hne (h1.symm.trans e)
    · rw [h1, hsz] at e
      have := Option.some.inj e
      omega
  refine ⟨⟨cell_of_row w5 p 2 _ 165 (0, 0) hp5, frozen_of_row w5 p 2 _ 165 hp5⟩, ⟨?_, ?_, ?_, ?_, ?_, hb.bq, fun b hb2 => ?_, hb.bp, hb.bq2⟩, ?_, ?_⟩
  · rw [heap_setCell_same w5 p 2 _ 165 _ hp5]
    rfl
  · rw [hset q hb.pq.symm, old q hb.ltq hb.lq]
    exact hb.cq
  · have e : (s.left ++ [v]).length = s.left.length + 1 := by simp
    show (w5.setCell ⟨p, 2, none⟩ lv5).ownsRow B 3 1 lv5 (s.left ++ [v]).length ((s.left ++ [v]).map fun (v : Nat) => Value.int .i64 (v : Int))
    rw [e, List.map_append]
    exact owns_kept1 hown fun k hk => hset k fun e2 => hne5 p hb.ltp (fun e => (hb.lv_ne e).1 rfl) (by rw [hk, e2])
  · refine kv_kept1 hb.loops (fun k hk => ?_) fun b hb2 => ?_
    · have h1 := hb.ov_ne hk
      obtain ⟨cur, hc⟩ := own_typeM hb.loops.own hk
      rw [hset k h1.1, old k (Array.getElem?_eq_some_iff.1 hc).1 h1.2.2.1]
    · have h1 := hb.bs_at hb2
      rw [hset b h1.1, old b h1.2.2 (hb.bl b hb2)]
  · exact hne5 q hb.ltq hb.lq
  · exact hne5 b (hb.bs_at hb2).2.2 (hb.bl b hb2)
  · refine owns_kept1 h.p fun k hk => ?_
    have h1 := path_ne hb h.p hk
    obtain ⟨cur, hc⟩ := own_typeM h.p hk
    rw [hset k h1.1, old k (Array.getElem?_eq_some_iff.1 hc).1 h1.2.2.1]
  · have b1 : Below w0.heap.size w0 w.drew := below_drew h.bel
    have b2 := (b1.alloc b1.size (.cells #[.int .i64 (v : Int)] 3)).grown hg (by rw [hsz]; have := h.bel.size; omega) (fun z hz => by have := (hb.left.lt z hz).1; omega)
    exact b2.setCell (show w0.heap.size ≤ p by have := hb.bp; omega) _

theorem path_pop {B n m pb pc : Nat} {w : World} {l : List (Nat × Nat)} {x : Nat × Nat} (h : w.ownsRow B 228 2 (.slice (some ⟨pb, 0, none⟩) (m + 1) pc) n (stepCells l)) (hl : l.getLast? = some x) (hm : l.length - 1 = m) :
    w.ownsRow B 228 2 (.slice (some ⟨pb, 0, none⟩) m pc) l.dropLast.length (stepCells l.dropLast) := by
  have hlen : l.length = l.dropLast.length + 1 := by
    conv => lhs; rw [last_split hl]
    simp
  have hdm : l.dropLast.length = m := by omega
  rw [hdm]
  refine ⟨by rw [stepCells_len, hdm], ?_⟩
  rcases h.2 with ⟨e, _⟩ | ⟨g, cap, cur, hv, hb, hg, hnc, hcm, hcs, ht⟩
  · cases e
  · have h1 := Value.slice.inj hv
    have hn : m + 1 = n := h1.2.1
    refine .inr ⟨g, cap, cur, by rw [h1.1, h1.2.2], hb, hg, by omega, hcm, hcs, ?_⟩
    have e : stepCells l = stepCells l.dropLast ++ [.int .i64 (x.1 : Int), .int .i64 (x.2 : Int)] := by
      conv => lhs; rw [last_split hl]
      rw [stepCells_app]
      rfl
    rw [e] at ht
    have h2 := congrArg (List.take (m * 2)) ht
    rw [List.take_take, Nat.min_eq_left (by omega), List.take_left' (by rw [stepCells_len, hdm])] at h2
    exact h2

theorem NwRep.of_left {g : List (List Int)} {N p q n : Nat} {ga : Option Addr} {gc : Nat} {fin : Wk} {W : World} {s : Wk} {bs : List Nat} {lv ov : Value} {pb pc m v k : Nat} {w : World} (hn : g.length = n) (h : LeftR W.heap.size p q n (.slice ga n gc) ⟨setN s.st v 2, s.left ++ [v], s.loops, s.path⟩ bs lv ov (.slice (some ⟨pb, 0, none⟩) (m + 1) pc) W w)
    (hp : s.path.getLast? = some (v, k)) (hm : s.path.length - 1 = m) (hk : k = degW g v) (ho : OkW g N (stepW g s v k)) (hf : DoneBy g (stepW g s v k) fin) : NwRep g N W.heap.size p q ga gc fin W (stepW g s v k) (.slice (some ⟨pb, 0, none⟩) m pc) w := by
  subst hn
  have e : stepW g s v k = ⟨setN s.st v 2, s.left ++ [v], s.loops, s.path.dropLast⟩ := by unfold stepW; rw [if_pos hk]
  refine ⟨?_, ?_, ho, hf, h.bel⟩
  · rw [e]
    exact ⟨bs, lv, ov, ⟨h.b.cp, h.b.cq, h.b.left, h.b.loops, h.b.lq, h.b.bq, h.b.bl, h.b.bp, h.b.bq2⟩⟩
  · rw [e]
    exact path_pop h.p hp hm

section
variable {B p q n : Nat} {gv : Value} {s : Wk} {bs : List Nat} {lv ov pv : Value} {w0 w : World}
theorem LeftR.drewN (h : LeftR B p q n gv s bs lv ov pv w0 w) (d : Nat) : LeftR B p q n gv s bs lv ov pv w0 (w.drewN d) :=
  ⟨h.b.kept fun _ _ => rfl, owns_stays h.p fun _ _ _ => rfl, below_drewN h.bel d⟩

theorem Wb.kept1 (h : Wb B p q n gv s bs lv ov w) {w' : World} (hp : w'.heap[p]? = w.heap[p]?) (hq : w'.heap[q]? = w.heap[q]?) (hl : ∀ k, lv.ownBlock = some k → w'.heap[k]? = w.heap[k]?) (ho : ∀ k, ov.ownBlock = some k → w'.heap[k]? = w.heap[k]?) (hb : ∀ b ∈ bs, w'.heap[b]? = w.heap[b]?) : Wb B p q n gv s bs lv ov w' :=
  ⟨hp.trans h.cp, hq.trans h.cq, owns_kept1 h.left hl, kv_kept1 h.loops ho hb, h.lq, h.bq, h.bl, h.bp, h.bq2⟩

/-- What leaves all blocks but the path's leaves the boxes. -/
theorem Wb.kept_path {k0 : Nat} {xs : List Value} {m : Nat} (h : Wb B p q n gv s bs lv ov w) (hp : w.ownsRow B 228 2 pv m xs) (hk0 : pv.ownBlock = some k0) {w' : World} (ho : ∀ k, k < w.heap.size → k ≠ k0 → w'.heap[k]? = w.heap[k]?) : Wb B p q n gv s bs lv ov w' := by
  have hne := path_ne h hp hk0
  refine h.kept1 (ho p h.ltp hne.1.symm) (ho q h.ltq hne.2.1.symm) (fun k hk => ?_) (fun k hk => ?_) fun b hb => ho b (h.bs_at hb).2.2 fun e => hne.2.2.2.2 (by rw [← e]; exact hb)
  · obtain ⟨cur, hc⟩ := own_typeM h.left hk
    exact ho k (Array.getElem?_eq_some_iff.1 hc).1 fun e => hne.2.2.1 (by rw [hk, e])
  · obtain ⟨cur, hc⟩ := own_typeM h.loops.own hk
    exact ho k (Array.getElem?_eq_some_iff.1 hc).1 fun e => hne.2.2.2.1 (by rw [hk, e])
end

/-- The path's last edge is counted. -/
theorem path_bump {B n m pb pc : Nat} {w : World} {l : List (Nat × Nat)} {v k : Nat} (h : w.ownsRow B 228 2 (.slice (some ⟨pb, 0, none⟩) (m + 1) pc) n (stepCells l)) (hl : l.getLast? = some (v, k)) (hm : l.length - 1 = m) :
    w.frozen? ⟨pb, m * 2 + 1, none⟩ = false ∧ (w.setCell ⟨pb, m * 2 + 1, none⟩ (.int .i64 ((k + 1 : Nat) : Int))).ownsRow B 228 2 (.slice (some ⟨pb, 0, none⟩) (m + 1) pc) n (stepCells (l.dropLast ++ [(v, k + 1)])) := by
  have hlen : l.length = l.dropLast.length + 1 := by
    conv => lhs; rw [last_split hl]
    simp
  have hdm : l.dropLast.length = m := by omega
  rcases h.2 with ⟨e, _⟩ | ⟨g, cap, cur, hv, hb, hg, hnc, hcm, hcs, ht⟩
  · cases e
  · have h1 := Value.slice.inj hv
    have hn : m + 1 = n := h1.2.1
    have h2 := h1.1
    simp only [Option.some.injEq, Addr.mk.injEq, and_true] at h2
    subst h2
    refine ⟨frozen_of_row w pb _ _ 228 hg, by rw [stepCells_len]; simp; omega, .inr ⟨pb, cap, cur.set! (m * 2 + 1) (.int .i64 ((k + 1 : Nat) : Int)), by rw [h1.2.2, ← hn], hb, ?_, hnc, hcm, ?_, ?_⟩⟩
    · rw [heap_setCell_same w pb _ _ 228 _ hg]
      rfl
    · simpa using hcs
    · have e : stepCells l = stepCells l.dropLast ++ [.int .i64 (v : Int), .int .i64 (k : Int)] := by
        conv => lhs; rw [last_split hl]
        rw [stepCells_app]
        rfl
      have e2 : stepCells (l.dropLast ++ [(v, k + 1)]) = stepCells l.dropLast ++ [.int .i64 (v : Int), .int .i64 ((k + 1 : Nat) : Int)] := by
        rw [stepCells_app]
        rfl
      have e3 : (cur.set! (m * 2 + 1) (.int .i64 ((k + 1 : Nat) : Int))).toList = cur.toList.set (m * 2 + 1) (.int .i64 ((k + 1 : Nat) : Int)) := by simp
      rw [e3, List.take_set, ht, e, e2, List.set_append_right _ _ (by rw [stepCells_len, hdm]; omega), stepCells_len, hdm, show m * 2 + 1 - m * 2 = 1 by omega]
      rfl

theorem meetW_path (n : Nat) (s : Wk) (v : Nat) (y : Int) : (meetW n s v y).1.path = s.path := by
  unfold meetW
  split
  · rfl
  · split
    · rfl
    · split <;> rfl
theorem meetW_true {n : Nat} {s : Wk} {v : Nat} {y : Int} (h : (meetW n s v y).2 = true) : 0 ≤ y := by
  unfold meetW at h
  split at h
  · cases h
  · omega

theorem LeftR.bump {B p q n : Nat} {gv : Value} {s : Wk} {bs : List Nat} {lv ov : Value} {pb pc m v k : Nat} {w0 w : World} (h : LeftR B p q n gv s bs lv ov (.slice (some ⟨pb, 0, none⟩) (m + 1) pc) w0 w) (hB : w0.heap.size = B) (hp : s.path.getLast? = some (v, k)) (hm : s.path.length - 1 = m) :
    w.frozen? ⟨pb, m * 2 + 1, none⟩ = false ∧ LeftR B p q n gv ⟨s.st, s.left, s.loops, s.path.dropLast ++ [(v, k + 1)]⟩ bs lv ov (.slice (some ⟨pb, 0, none⟩) (m + 1) pc) w0 (w.setCell ⟨pb, m * 2 + 1, none⟩ (.int .i64 ((k + 1 : Nat) : Int))) := by
  have h1 := path_bump h.p hp hm
  have hlen : s.path.length = s.path.dropLast.length + 1 := by
    conv => lhs; rw [last_split hp]
    simp
  have hb := h.b.kept_path h.p (k0 := pb) rfl (w' := w.setCell ⟨pb, m * 2 + 1, none⟩ (.int .i64 ((k + 1 : Nat) : Int))) fun k2 _ hk2 => heap_setCell_other w ⟨pb, m * 2 + 1, none⟩ k2 _ hk2
  refine ⟨h1.1, ⟨hb.cp, hb.cq, hb.left, hb.loops, hb.lq, hb.bq, hb.bl, hb.bp, hb.bq2⟩, ?_, h.bel.setCell (show w0.heap.size ≤ pb by rw [hB]; exact (h.p.lt pb rfl).1) _⟩
  have e : (s.path.dropLast ++ [(v, k + 1)]).length = s.path.length := by rw [hlen]; simp
  show (w.setCell ⟨pb, m * 2 + 1, none⟩ (.int .i64 ((k + 1 : Nat) : Int))).ownsRow B 228 2 (.slice (some ⟨pb, 0, none⟩) (m + 1) pc) (s.path.dropLast ++ [(v, k + 1)]).length _
  rw [e]
  exact h1.2

/-- An edge that is not gone along. -/
theorem NwRep.of_stay {g : List (List Int)} {N p q n : Nat} {ga : Option Addr} {gc : Nat} {fin : Wk} {W : World} {s t : Wk} {bs : List Nat} {lv ov : Value} {pv : Value} {v k : Nat} {y : Int} {w : World} (hn : g.length = n) (h : LeftR W.heap.size p q n (.slice ga n gc) t bs lv ov pv W w)
    (hk : k ≠ degW g v) (hy : edgeW g v k = y) (hm : meetW n ⟨s.st, s.left, s.loops, s.path.dropLast ++ [(v, k + 1)]⟩ v y = (t, false)) (ho : OkW g N (stepW g s v k)) (hf : DoneBy g (stepW g s v k) fin) : NwRep g N W.heap.size p q ga gc fin W (stepW g s v k) pv w := by
  subst hn
  have e : stepW g s v k = t := by unfold stepW; rw [if_neg hk, hy, hm]
  refine ⟨?_, ?_, ho, hf, h.bel⟩
  · rw [e]; exact ⟨bs, lv, ov, h.b⟩
  · rw [e]; exact h.p

/-- An edge to a new place. -/
theorem NwRep.of_go {g : List (List Int)} {N p q n : Nat} {ga : Option Addr} {gc : Nat} {fin : Wk} {W : World} {s t : Wk} {bs : List Nat} {lv ov : Value} {pv pv5 : Value} {v k : Nat} {y : Int} {w w5 : World} (hn : g.length = n) (h : LeftR W.heap.size p q n (.slice ga n gc) t bs lv ov pv W w)
    (hk : k ≠ degW g v) (hy : edgeW g v k = y) (hm : meetW n ⟨s.st, s.left, s.loops, s.path.dropLast ++ [(v, k + 1)]⟩ v y = (t, true)) (ho : OkW g N (stepW g s v k)) (hf : DoneBy g (stepW g s v k) fin) {k0 : Nat} (hk0 : pv.ownBlock = some k0)
    (hown : w5.ownsRow W.heap.size 228 2 pv5 (t.path.length + 1) (stepCells t.path ++ [.int .i64 y, .int .i64 0])) (hg : (w.alloc (.cells #[.int .i64 y, .int .i64 0] 228)).grownBy w5 pv.ownBlock) : NwRep g N W.heap.size p q ga gc fin W (stepW g s v k) pv5 w5 := by
  subst hn
  have hy0 : 0 ≤ y := meetW_true (by rw [hm])
  have e : stepW g s v k = ⟨t.st, t.left, t.loops, t.path ++ [(y.toNat, 0)]⟩ := by unfold stepW; rw [if_neg hk, hy, hm]
  have hw5 := h.b.kept_path h.p hk0 (w' := w5) fun k2 hk2 hne => by
    rw [hg.block k2 (by rw [World.size_alloc]; omega) (by rw [hk0]; intro e2; exact hne (Option.some.inj e2)), Below.heap_alloc _ _ _ hk2]
  refine ⟨?_, ?_, ho, hf, ?_⟩
  · rw [e]; exact ⟨bs, lv, ov, ⟨hw5.cp, hw5.cq, hw5.left, hw5.loops, hw5.lq, hw5.bq, hw5.bl, hw5.bp, hw5.bq2⟩⟩
  · rw [e]
    have e2 : stepCells (t.path ++ [(y.toNat, 0)]) = stepCells t.path ++ [.int .i64 y, .int .i64 0] := by
      rw [stepCells_app]
      show _ ++ [Value.int .i64 ((y.toNat : Nat) : Int), Value.int .i64 ((0 : Nat) : Int)] = _
      rw [Int.toNat_of_nonneg hy0]
      rfl
    show w5.ownsRow W.heap.size 228 2 pv5 (t.path ++ [(y.toNat, 0)]).length (stepCells (t.path ++ [(y.toNat, 0)]))
    rw [e2, List.length_append]
    exact hown
  · exact (h.bel.alloc h.bel.size _).grown hg (by rw [World.size_alloc]; have := h.bel.size; omega) (fun z hz => (h.p.lt z hz).1)

/-- Behind meet the path is where it was. -/
theorem LeftR.met {B p q n : Nat} {gv : Value} {s t : Wk} {bs bs' : List Nat} {lv ov ov' pv : Value} {w0 w w' : World} (h : LeftR B p q n gv s bs lv ov pv w0 w) (hB : w0.heap.size = B) (hb : Wb B p q n gv t bs' lv ov' w') (ho : Only B p q ov w w') (ht : t.path = s.path) : LeftR B p q n gv t bs' lv ov' pv w0 w' := by
  refine ⟨hb, ?_, ?_⟩
  · rw [ht]
    refine owns_kept1 h.p fun k hk => ?_
    have hne := path_ne h.b h.p hk
    obtain ⟨cur, hc⟩ := own_typeM h.p hk
    exact ho.block k (Array.getElem?_eq_some_iff.1 hc).1 hne.1 hne.2.1 hne.2.2.2.1
  · rw [hB]
    have h1 := h.bel
    rw [hB] at h1
    exact h1.trans ho.below

set_option maxHeartbeats 4000000 in
set_option maxRecDepth 100000 in
theorem newWalk_any (ga : Option Addr) (gc : Nat) (g : List (List Int)) (N : Nat) (w : World) (hg : Grf w ga g.length gc g) (hn : g.length ≤ 60) (hN : muW g beginW + 1 ≤ N) (hN2 : N ≤ 10000) (hd : ∀ v, degW g v ≤ 1000000) :
    Calls Tryd.prog 110 #[.slice ga g.length gc] w (NewWPost g (.slice ga g.length gc) w) := by
  have hle := hg.le
  have hmax := hg.max
  unfold maxLen at hmax
  have HG := Lib.hid hg
  have HN := Lib.hid hN
  have HN2 := Lib.hid hN2
  obtain ⟨n, hnn⟩ : ∃ n, g.length = n := ⟨_, rfl⟩
  have HNN := Lib.hid hnn
  obtain ⟨i0, hi, hz0, hz1, hz2⟩ := info_parts intinfoW
  have HI := Lib.hid hi
  have HZ0 := Lib.hid hz0
  have HZ1 := Lib.hid hz1
  have HZ2 := Lib.hid hz2
  have HM := Lib.hid (show n ≤ maxLen by unfold maxLen; omega)
  have HMB := Lib.hid (show 8 * n ≤ 281474976710656 by omega)
  rw [hnn] at hle hn
  rw [hnn]
  clear hi hz0 hz1 hz2 hg hN hN2 hnn
  go_enter Tryd.func110, Tryd.ntmps110
  by_cases h0 : n = 0
  · subst h0
    have hge : g = [] := List.length_eq_zero_iff.1 HNN.out
    have FW : Hid (walkW g = ⟨fun _ => 0, [], [], []⟩) := Lib.hid (by unfold walkW; rw [if_pos hge])
    clear hge
    go_wp2_with (at_make; refine wpList_make_len _ rfl (.tmp 10) (.tmp 10) 26 rfl w.heap.size 3 i0 (.int .i64 0) 8 Tryd.underlying26 HI.out HZ0.out HZ1.out HZ2.out rfl .i64 .i64 _ _ 0 0 rfl rfl (by simp) (by simp) (Nat.le_refl _) HMB.out HM.out (Nat.le_refl _) ?_; intro w1 hown1 hg1; have HB0 := Lib.hid (begin_boxes (ga := ga) (gc := gc) hown1 hg1); replace hg1 := Lib.hid hg1; clear hown1)
    go_ret
    refine ⟨w1.heap.size, w.heap.size, [], .slice none 0 0, .slice none 0 0, rfl, ?_, ?_⟩
    · rw [FW.out, HNN.out]; exact HB0.out
    · have b1 : Below w.heap.size w w1 := Below.grown (Below.refl _ w) hg1.out (Nat.le_refl _) (by simp)
      exact b1.alloc b1.size _
  · have t1 : (n == 0) = false := by simpa using h0
    have hn1 : 0 < n := by omega
    go_wp2_with (at_make; refine wpList_make_len _ rfl (.tmp 10) (.tmp 10) 26 rfl w.heap.size 3 i0 (.int .i64 0) 8 Tryd.underlying26 HI.out HZ0.out HZ1.out HZ2.out rfl .i64 .i64 _ _ n n rfl rfl (by simp) (by simp) (Nat.le_refl _) HMB.out HM.out (Nat.le_refl _) ?_; intro w1 hown1 hg1; have HB0 := Lib.hid (begin_boxes (ga := ga) (gc := gc) hown1 hg1); have cq := HB0.out.cell hn1; have fq := HB0.out.frozen 0; replace hg1 := Lib.hid hg1; clear hown1)
    have R0 : Hid (∃ s, NwRep g N w.heap.size w1.heap.size w.heap.size ga gc (walkW g) w s (.slice (some ⟨w1.heap.size + 1, 0, none⟩) 1 1) (((w1.alloc (.cells #[.slice ga n gc, .slice (some ⟨w.heap.size, 0, none⟩) n n, .slice none 0 0, .slice none 0 0] 165)).setCell ⟨w.heap.size, 0, none⟩ (.int .i64 1)).alloc (.cells #[.int .i64 0, .int .i64 0] 228))) := Lib.hid (begin_rep HNN.out hn1 HB0.out hg1.out HN.out)
    clear cq fq
    go_loopw [4] (fun s4 wr => ∃ s, NwRep g N w.heap.size w1.heap.size w.heap.size ga gc (walkW g) w s s4 wr) (fun s4 wr => leastM g fun s => NwRep g N w.heap.size w1.heap.size w.heap.size ga gc (walkW g) w s s4 wr)
    case atStart => exact R0.out
    case round =>
      clear R0
      obtain ⟨s, hrep, hmu⟩ := leastM_spec (g := g) hrel
      have HMU := Lib.hid hmu
      have HREL := Lib.hid hrel
      clear hmu hrel
      obtain ⟨⟨bs, lv, ov, hwb⟩, hpath, hok, hfin, hB⟩ := hrep
      cases hp : s.path.getLast? with
      | none =>
        have hpe : s.path = [] := by simpa using hp
        obtain ⟨pa, pc, rfl⟩ := own_shapeM hpath
        have FIN : Hid (NewWPost g (.slice ga n gc) w (.returned (.pointer (some ⟨w1.heap.size, 0, none⟩))) wr) := Lib.hid ⟨w1.heap.size, w.heap.size, bs, lv, ov, rfl, by
          have := hfin (muW g s) (Nat.le_refl _)
          rw [runW_end hpe] at this
          rw [← this, ← HNN.out]
          exact hwb, hB⟩
        have hl0 : s.path.length = 0 := by rw [hpe]; rfl
        rw [hl0]
        have t2 : decide ((0 : Int) > 0) = false := by decide
        clear hwb hpath hok hfin hB hpe hp hl0
        go_wp2_with fail
        go_ret
        exact FIN.out
      | some x =>
        obtain ⟨v, k⟩ := x
        obtain ⟨pb, pc, rfl, _, hpb, hpl, hpc, hpm, c0, c1⟩ := path_last hpath hp
        dsimp only at c0 c1
        have hlen : 0 < s.path.length := by
          cases hq : s.path with
          | nil => rw [hq] at hp; cases hp
          | cons _ _ => simp
        have hpl2 := hok.place (v, k) (by rw [last_split hp]; simp)
        dsimp only at hpl2
        have hvn : v < n := by rw [← HNN.out]; exact hpl2.1
        have hsz := hok.size
        have hN2 := HN2.out
        obtain ⟨m, hm⟩ : ∃ m, s.path.length - 1 = m := ⟨_, rfl⟩
        have hmb : m ≤ 10000 := by omega
        have hgr := HG.out.below hB
        obtain ⟨gb, go, rfl, _, hgc⟩ := hgr.at_ (by rw [HNN.out]; omega)
        obtain ⟨ra, rc, cg, hrow⟩ := hgc v hpl2.1
        have hrl := hrow.le
        have hrm := hrow.max
        have hdeg := hd v
        have HRW := Lib.hid hrow
        have HST := Lib.hid (hok.step hp)
        have HFS := Lib.hid (hfin.step hok hp)
        have HWB := Lib.hid hwb
        have hpath' := hpath
        rw [hm] at hpath'
        have HPA := Lib.hid hpath'
        have HB := Lib.hid hB
        have HOK := Lib.hid hok
        rw [hm] at c0 c1 hpc ⊢
        have HM := Lib.hid hm
        have cw1 : wr.cell? ⟨w1.heap.size, 1, none⟩ = some (.slice (some ⟨w.heap.size, 0, none⟩) n n) := by
          have := cell_of_row wr w1.heap.size 1 _ 165 (0, 0) hwb.cp
          rw [HNN.out] at this
          exact this
        have cw2 : wr.cell? ⟨w1.heap.size, 2, none⟩ = some lv := cell_of_row wr w1.heap.size 2 _ 165 (0, 0) hwb.cp
        have cst := hwb.cell hpl2.1
        have t2 : decide (((m + 1 : Nat) : Int) > 0) = true := by simp
        have t3 : IntKind.i64.wrap (((m + 1 : Nat) : Int) - 1) = (m : Int) := (IntWalk.i64_in _ (by omega)).trans (by omega)
        have t4 : IntKind.i64.wrap ((m : Int) + 1 - 1) = (m : Int) := (IntWalk.i64_in _ (by omega)).trans (by omega)
        have hwb' : Wb w.heap.size w1.heap.size w.heap.size n (.slice (some ⟨gb, go, none⟩) n gc) s bs lv ov wr := HNN.out ▸ hwb
        have HWN := Lib.hid hwb'
        clear hwb hwb' hpath hpath' hB hok hfin hrow hm hsz hN2 hlen hgc hgr
        by_cases hk : k = degW g v
        · have t5 : ((k : Int) == (degW g v : Int)) = true := by simp [hk]
          have HK := Lib.hid hk
          clear hk
          go_upto_region 9 with (fail)
          go_quiet (fail)
          go_upto_region 9 with (fail)
          have fq := HWB.out.frozen v
          have L0 := Lib.hid (LeftR.mk HWN.out HPA.out HB.out)
          go_cut [54] from 46 to 54 (fun _ wx => LeftR w.heap.size w1.heap.size w.heap.size n (.slice (some ⟨gb, go, none⟩) n gc) ⟨setN s.st v 2, s.left, s.loops, s.path⟩ bs lv ov (.slice (some ⟨pb, 0, none⟩) (m + 1) pc) w wx)
          case first =>
            go_wp2_with fail
            go_region_with (fail)
            all_goals
              go_wp2_with fail
              go_meet
              exact left_state L0.out rfl _ v 2
          case rest =>
          obtain ⟨la, lc, rfl⟩ := own_shapeM hcut.b.left
          have HL1 := Lib.hid hcut
          have cl2 : wc.cell? ⟨w1.heap.size, 2, none⟩ = some (.slice la s.left.length lc) := cell_of_row wc w1.heap.size 2 _ 165 (0, 0) hcut.b.cp
          obtain ⟨pb', pc', he, _, _, _, _, _, cp0, _⟩ := path_last hcut.p hp
          have e1 := (Value.slice.inj he).1
          simp only [Option.some.injEq, Addr.mk.injEq, and_true] at e1
          subst e1
          rw [HM.out] at cp0
          have hltp := HL1.out.b.ltp
          have cl2b : ((wc.alloc (.cells #[.int .i64 (v : Int)] 3)).drew).cell? ⟨w1.heap.size, 2, none⟩ = some (.slice la s.left.length lc) := ((World.grownBy_alloc wc (.cells #[.int .i64 (v : Int)] 3) none).cell cl2 (by simp))
          have cp0b : ((wc.alloc (.cells #[.int .i64 (v : Int)] 3)).drew).cell? ⟨pb, m * 2, none⟩ = some (.int .i64 (v : Int)) := ((World.grownBy_alloc wc (.cells #[.int .i64 (v : Int)] 3) none).cell cp0 (by simp))
          clear he hltp
          clear hcut cw1 cw2 cst c0 c1 cg
          have HOW := Lib.hid ((HL1.out.b.left.drew).alloc (.cells #[.int .i64 (v : Int)] 3))
          have HNW : Hid (∀ i u, ([.int .i64 (v : Int)] : List Value)[i]? = some u → (wc.drew.alloc (.cells #[.int .i64 (v : Int)] 3)).cell? ((⟨wc.heap.size, 0, none⟩ : Addr).add i) = some u) := Lib.hid fun i u hu => by
            rw [add_zeroC, cell_of_row _ wc.heap.size i _ 3 (0, 0) (heap_alloc_new wc.drew _)]
            simpa using hu
          have hoc : Hid (∀ u ∈ ([.int .i64 (v : Int)] : List Value), u.oneCell' = true) := Lib.hid (by simp [Value.oneCell'])
          have hsl := HOK.out.size
          have hn2 := HN2.out
          have hn1 : Hid (s.left.length + 1 ≤ maxLen) := Lib.hid (by unfold maxLen; omega)
          have hn3 : Hid ((s.left.length + 1) * 8 ≤ 140737488355328) := Lib.hid (by omega)
          have hsz : Hid (w.heap.size ≤ (wc.drew.alloc (.cells #[.int .i64 (v : Int)] 3)).heap.size) := Lib.hid (by have := HL1.out.bel.size; rw [World.size_alloc]; show w.heap.size ≤ wc.heap.size + 1; omega)
          clear hsl hn2
          go_upto_region 10 with (fail)
          go_cut [65] from 55 to 67 (fun _ wx => ∃ lv', LeftR w.heap.size w1.heap.size w.heap.size n (.slice (some ⟨gb, go, none⟩) n gc) ⟨setN s.st v 2, s.left ++ [v], s.loops, s.path⟩ bs lv' ov (.slice (some ⟨pb, 0, none⟩) (m + 1) pc) w wx)
          case first =>
            go_wp2_with fail
            go_region_law (refine step_append_at rfl (.tmp 59) (.tmp 64) 26 rfl w.heap.size 3 i0 (.int .i64 0) 1 8 Tryd.underlying26 HI.out HZ0.out HZ1.out HZ2.out rfl (by decide) (.slice la s.left.length lc) s.left.length _ (by simp [Act.eval]) HOW.out ⟨wc.heap.size, 0, none⟩ 1 1 [.int .i64 (v : Int)] (by simp [Act.eval]) rfl HNW.out hoc.out hn1.out hn3.out hsz.out ?_; intro v5 w5 hown5 hgrow5 hat5; have FIN := Lib.hid (left_append HL1.out rfl v hown5 hgrow5 hat5); obtain ⟨va, vc, rfl⟩ := own_shape1 hown5; have d0 := FIN.out.1.1; have e0 := FIN.out.1.2; clear hown5 hgrow5 hat5)
            all_goals
              go_wp2_with fail
              go_meet
              exact ⟨_, FIN.out.2⟩
          case rest =>
          obtain ⟨lv', hL2⟩ := hcut
          have HREP := Lib.hid (NwRep.of_left HNN.out hL2 hp HM.out HK.out HST.out.1 HFS.out)
          have HLT := Lib.hid HST.out.2
          clear hL2
          go_wp2_with fail
          go_roundw
          case rel => exact ⟨_, HREP.out⟩
          case measure => exact Nat.lt_of_le_of_lt (leastM_le HREP.out) (by have h := HMU.out; rw [HM.out] at h; rw [← h]; exact HLT.out)
        · have t5 : ((k : Int) == (degW g v : Int)) = false := by simp; omega
          have hkd : k < degW g v := by omega
          obtain ⟨rb, ro, rfl, hrc⟩ := Row_at HRW.out (by omega)
          have ck := hrc k hkd
          obtain ⟨y, hy⟩ : ∃ y, (g.getD v []).getD k 0 = y := ⟨_, rfl⟩
          rw [hy] at ck
          have HY : Hid (edgeW g v k = y) := Lib.hid hy
          have HK := Lib.hid hk
          have t6 : decide (k < degW g v) = true := by simpa using hkd
          have L0 := Lib.hid (LeftR.mk HWN.out HPA.out HB.out)
          clear hrc hy hk
          go_upto_region 8 with (fail)
          go_cut [45] from 33 to 45 (fun s wx => s = .bool false ∧ ∃ d, wx = wr.drewN d)
          case first =>
            go_wp2_with fail
            go_quiet (fail)
            all_goals
              go_wp2_with fail
              go_meet
              exact ⟨rfl, _, rfl⟩
          case rest =>
          obtain ⟨rfl, d, hd⟩ := hcut
          have cg2 : wc.cell? ⟨gb, go + v, none⟩ = some (.slice (some ⟨rb, ro, none⟩) (degW g v) rc) := by rw [hd]; exact cg
          have ck2 : wc.cell? ⟨rb, ro + k, none⟩ = some (.int .i64 y) := by rw [hd]; exact ck
          have c02 : wc.cell? ⟨pb, m * 2, none⟩ = some (.int .i64 (v : Int)) := by rw [hd]; exact c0
          have c12 : wc.cell? ⟨pb, m * 2 + 1, none⟩ = some (.int .i64 (k : Int)) := by rw [hd]; exact c1
          have L0' := Lib.hid (show LeftR w.heap.size w1.heap.size w.heap.size n (.slice (some ⟨gb, go, none⟩) n gc) s bs lv ov (.slice (some ⟨pb, 0, none⟩) (m + 1) pc) w wc by rw [hd]; exact L0.out.drewN d)
          clear hd cg ck c0 c1 cw1 cw2 cst
          go_upto_region 12 with (fail)
          go_cut [6, 7] from 73 to 89 (fun s6 s7 wx => s6 = .int .i64 (v : Int) ∧ s7 = .int .i64 y ∧ LeftR w.heap.size w1.heap.size w.heap.size n (.slice (some ⟨gb, go, none⟩) n gc) s bs lv ov (.slice (some ⟨pb, 0, none⟩) (m + 1) pc) w wx)
          case first =>
            go_wp2_with fail
            go_quiet (fail)
            all_goals
              go_wp2_with fail
              go_meet
              exact ⟨rfl, rfl, L0'.out.drewN _⟩
          case rest =>
          obtain ⟨rfl, rfl, hL1⟩ := hcut
          obtain ⟨hfz, hbump⟩ := hL1.bump rfl hp HM.out
          have cB : wc.cell? ⟨pb, m * 2 + 1, none⟩ = some (.int .i64 (k : Int)) := by
            obtain ⟨pb', pc', he, _, _, _, _, _, _, e1⟩ := path_last hL1.p hp
            have e2 := (Value.slice.inj he).1
            simp only [Option.some.injEq, Addr.mk.injEq, and_true] at e2
            subst e2
            rw [HM.out] at e1
            exact e1
          obtain ⟨⟨t, b8⟩, hmt⟩ : ∃ x, meetW n ⟨s.st, s.left, s.loops, s.path.dropLast ++ [(v, k + 1)]⟩ v y = x := ⟨_, rfl⟩
          have hsl := HOK.out.size
          have hn2 := HN2.out
          have KM := Lib.hid (meetW_any v y _ hbump.b (by have := hbump.bel.size; exact this) HOK.out.st3 (by show s.loops.length ≤ 100000; omega))
          unfold MeetWPost at KM
          rw [hmt] at KM
          have HMT := Lib.hid hmt
          have HBP := Lib.hid hbump
          have htp : t.path = s.path.dropLast ++ [(v, k + 1)] := by
            have := meetW_path n ⟨s.st, s.left, s.loops, s.path.dropLast ++ [(v, k + 1)]⟩ v y
            rw [hmt] at this
            exact this
          have HTP := Lib.hid htp
          have htl : t.path.length = m + 1 := by
            rw [htp]
            have := HM.out
            have e : s.path.length = s.path.dropLast.length + 1 := by
              conv => lhs; rw [last_split hp]
              simp
            simp
            omega
          have HTL := Lib.hid htl
          have hkb : (k : Int) ≤ 1000000 := by omega
          have s1 : IntKind.i64.wrap ((k : Int) + 1) = ((k + 1 : Nat) : Int) := (IntWalk.i64_in _ (by omega)).trans (by omega)
          have s2 : IntKind.i64.wrap ((k : Int) + 1) = (k : Int) + 1 := IntWalk.i64_in _ (by omega)
          clear hbump hL1 hmt htp htl hsl hn2
          obtain ⟨i2, hi2, hx0, hx1, hx2⟩ := info_parts stepinfoW
          have HI2 := Lib.hid hi2
          have HX0 := Lib.hid hx0
          have HX1 := Lib.hid hx1
          have HX2 := Lib.hid hx2
          have HA1 := Lib.hid (show t.path.length + 1 ≤ maxLen by have := HTL.out; unfold maxLen; omega)
          have HA2 := Lib.hid (show (t.path.length + 1) * 16 ≤ 140737488355328 by have := HTL.out; omega)
          clear hi2 hx0 hx1 hx2
          cases b8 with
          | false =>
            go_wp2_with (go_at_call 156; refine KM.out.mono ?_; rintro e w8 ⟨bs8, ov8, rfl, hb8, ho8⟩; have HL8 := Lib.hid (HBP.out.met rfl hb8 ho8 HTP.out); clear hb8 ho8)
            have HREP := Lib.hid (NwRep.of_stay HNN.out HL8.out HK.out HY.out HMT.out HST.out.1 HFS.out)
            go_roundw
            case rel => exact ⟨_, HREP.out⟩
            case measure => exact Nat.lt_of_le_of_lt (leastM_le HREP.out) (by have h := HMU.out; rw [HM.out] at h; rw [← h]; exact HST.out.2)
          | true =>
            go_wp2_with (first | (go_at_call 156; refine KM.out.mono ?_; rintro e w8 ⟨bs8, ov8, rfl, hb8, ho8⟩; have HL8 := Lib.hid (HBP.out.met rfl hb8 ho8 HTP.out); have HB8 := Lib.hid (show w.heap.size ≤ (w8.alloc (.cells #[.int .i64 y, .int .i64 0] 228)).heap.size by rw [World.size_alloc]; have := HL8.out.bel.size; omega); clear hb8 ho8) | (at_builtin; refine wpList_append_own _ rfl (.tmp 101) (.tmp 104) 229 rfl w.heap.size 228 i2 (.agg #[.int .i64 0, .int .i64 0]) 2 16 Tryd.underlying229 HI2.out HX0.out HX1.out HX2.out rfl (by decide) (.slice (some ⟨pb, 0, none⟩) (m + 1) pc) t.path.length _ rfl (HL8.out.p.alloc _) ⟨w8.heap.size, 0, none⟩ 1 1 [.int .i64 y, .int .i64 0] rfl rfl (cells_newM _ _ _ _) (by simp [Value.oneCell']) HA1.out HA2.out HB8.out ?_; intro v5 w5 hown5 hgrow5 hnil5; have HREP := Lib.hid (NwRep.of_go HNN.out HL8.out HK.out HY.out HMT.out HST.out.1 HFS.out rfl hown5 hgrow5); obtain ⟨va5, vc5, rfl⟩ := own_shapeM hown5; clear hown5 hgrow5 hnil5))
            go_roundw
            case rel => exact ⟨_, HREP.out⟩
            case measure => exact Nat.lt_of_le_of_lt (leastM_le HREP.out) (by have h := HMU.out; rw [HM.out] at h; rw [← h]; exact HST.out.2)

end Go.Proofs.YtchechdcebmoeaaDoor

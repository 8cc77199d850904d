/-
  flow.Loops, by a contract.
-/
import Derived.Test.YtchechdcebmoeaaDoorFwE
import Derived.Test.YtchechdcebmoeaaDoorFwQ
import Derived.Test.YtchechdcebmoeaaDoorPSet
import Derived.Maps.AppendAt
namespace Go.Proofs.YtchechdcebmoeaaDoor
open Go.RowKit Go.WideMaps

theorem arr2 : ArrKey Tryd.prog 170 3 2 := ⟨Tryd.underlying170, by kernel_rfl, by kernel_rfl, by kernel_rfl⟩
theorem typs1 : ∃ m, Tryd.prog.types.size = m + 1 := by
  have h : 0 < Tryd.prog.types.size := of_decide_eq_true (by kernel_rfl)
  exact ⟨Tryd.prog.types.size - 1, by omega⟩
theorem arrAt2 (a : Addr) (w : World) : (Instr.arrayAt 170 (.slice (some a) 2 2)).run Tryd.prog w = .ok (.pointer (some a)) w := by
  unfold Instr.arrayAt
  simp [run_underlying Tryd.underlying170, Result.andThen]
theorem zero_unitL (w : World) : (zeroValue 168).run Tryd.prog w = .ok (.agg #[]) w := by kernel_rfl

structure LopR (m i : Nat) (w2 : World) (l : List (Nat × Nat)) (bs bs' : List Nat) (s3 : Value) (wr : World) : Prop where
  ex : bs'.length = (dedE (l.take i)).length ∧ bs'.Nodup ∧ (∀ b ∈ bs', b ∈ bs.take i) ∧ wr.ownsRow w2.heap.size 26 1 s3 (dedE (l.take i)).length (bs'.map fun b => .slice (some ⟨b, 0, none⟩) 2 2) ∧
    ∀ j, j < bs'.length → w2.heap[bs'.getD j 0]? = some (.cells #[.int .i64 (((dedE (l.take i)).getD j (0, 0)).1 : Int), .int .i64 (((dedE (l.take i)).getD j (0, 0)).2 : Int)] 3 (0, 0))
  set : PairSet Tryd.prog 170 m i (dedE (l.take i)) wr
  keep : ∀ k, k < w2.heap.size → k ≠ m → wr.heap[k]? = w2.heap[k]?
  size : w2.heap.size ≤ wr.heap.size
  os : wr.os = w2.os ∧ wr.tape = w2.tape ∧ wr.output = w2.output

theorem PairSet.mono {P : Program} {kt : TypeId} {b n n' : Nat} {l : List (Nat × Nat)} {w : World} (h : PairSet P kt b n l w) (hn : n ≤ n') : PairSet P kt b n' l w := by
  obtain ⟨D, h1, h2⟩ := h
  exact ⟨D, h1.mono hn, h2⟩

section
variable {m i : Nat} {w2 : World} {l : List (Nat × Nat)} {bs bs' : List Nat} {s3 : Value} {wr : World}

/-- An edge that was told already. -/
theorem LopR.again (h : LopR m i w2 l bs bs' s3 wr) (hi : i < l.length) (he : l.getD i (0, 0) ∈ dedE (l.take i)) (o : Obj) : LopR m (i + 1) w2 l bs bs' s3 (wr.alloc o) := by
  obtain ⟨e1, e2, e3, e4, e5⟩ := h.ex
  have hd : dedE (l.take (i + 1)) = dedE (l.take i) := by rw [dedE_take l i hi, if_pos he]
  refine ⟨⟨by rw [hd]; exact e1, e2, fun b hb => by
    have h2 := e3 b hb
    rw [show i = min i (i + 1) by omega, ← List.take_take] at h2
    exact List.mem_of_mem_take h2, by rw [hd]; exact e4.alloc o, by rw [hd]; exact e5⟩, ?_, fun k hk hm => ?_, ?_, h.os⟩
  · rw [hd]
    exact (h.set.mono (Nat.le_succ _)).kept (Below.heap_alloc _ _ _ h.set.lt)
  · rw [Below.heap_alloc _ _ _ (Nat.lt_of_lt_of_le hk h.size)]
    exact h.keep k hk hm
  · rw [World.size_alloc]; have := h.size; omega

/-- A new one. -/
theorem LopR.new (h : LopR m i w2 l bs bs' s3 wr) (hi : i < l.length) (hbi : i < bs.length) (hnd : bs.Nodup) (hm : m < w2.heap.size) {X Y : Nat} (hl : l.getD i (0, 0) = (X, Y)) (he : l.getD i (0, 0) ∉ dedE (l.take i)) (hc : w2.heap[bs.getD i 0]? = some (.cells #[.int .i64 (X : Int), .int .i64 (Y : Int)] 3 (0, 0)))
    {o o2 : Obj} {w5 w6 : World} (hs : PairSet Tryd.prog 170 m (i + 1) (dedE (l.take i) ++ [(X, Y)]) w5) (ht : (wr.alloc o).mapTurned w5 m) {v6 : Value}
    (ho : w6.ownsRow w2.heap.size 26 1 v6 ((dedE (l.take i)).length + 1) ((bs'.map fun b => .slice (some ⟨b, 0, none⟩) 2 2) ++ [.slice (some ⟨bs.getD i 0, 0, none⟩) 2 2])) (hg : (w5.alloc o2).grownBy w6 s3.ownBlock) : LopR m (i + 1) w2 l bs (bs' ++ [bs.getD i 0]) v6 w6 := by
  obtain ⟨e1, e2, e3, e4, e5⟩ := h.ex
  have hd : dedE (l.take (i + 1)) = dedE (l.take i) ++ [(X, Y)] := by rw [dedE_take l i hi, if_neg he, hl]
  have hbs : bs.take (i + 1) = bs.take i ++ [bs.getD i 0] := by rw [List.take_add_one, List.getElem?_eq_getElem hbi]; simp [List.getD, hbi]
  have hnt := hnd.sublist (List.take_sublist (i + 1) bs)
  rw [hbs] at hnt
  have hnew : bs.getD i 0 ∉ bs' := fun hx => (List.nodup_append.1 hnt).2.2 _ (e3 _ hx) _ (by simp) rfl
  have hgt := ht.grown
  have h5 : ∀ k, k < w2.heap.size → k ≠ m → w5.heap[k]? = w2.heap[k]? := fun k hk hkm => by
    rw [hgt.block k (by rw [World.size_alloc]; have := h.size; omega) (fun e => hkm (Option.some.inj e)), Below.heap_alloc _ _ _ (Nat.lt_of_lt_of_le hk h.size), h.keep k hk hkm]
  have hsz5 : w2.heap.size ≤ w5.heap.size := by have := hgt.size; rw [World.size_alloc] at this; have := h.size; omega
  have hlo : ∀ k, s3.ownBlock = some k → w2.heap.size ≤ k := fun k hk => own_block_lt e4 k hk
  refine ⟨⟨by rw [hd, List.length_append, List.length_append, e1]; rfl, List.nodup_append.2 ⟨e2, by simp, fun a ha b hb e => ?_⟩, fun b hb => ?_, ?_, fun j hj => ?_⟩, ?_, fun k hk hkm => ?_, ?_, ?_⟩
  · have hb2 : b = bs.getD i 0 := by simpa using hb
    rw [hb2] at e
    rw [e] at ha
    exact hnew ha
  · rw [hbs]
    rcases List.mem_append.1 hb with h1 | h1
    · exact List.mem_append_left _ (e3 b h1)
    · exact List.mem_append_right _ h1
  · rw [hd, List.length_append, List.map_append]
    exact ho
  · rw [hd]
    by_cases hj2 : j < bs'.length
    · have g1 : (bs' ++ [bs.getD i 0]).getD j 0 = bs'.getD j 0 := by simp [List.getD, List.getElem?_append_left hj2]
      have g2 : (dedE (l.take i) ++ [(X, Y)]).getD j (0, 0) = (dedE (l.take i)).getD j (0, 0) := by simp [List.getD, List.getElem?_append_left (show j < (dedE (l.take i)).length by omega)]
      rw [g1, g2]
      exact e5 j hj2
    · have hj3 : j = bs'.length := by simp at hj; omega
      have g1 : (bs' ++ [bs.getD i 0]).getD j 0 = bs.getD i 0 := by simp [hj3, List.getD]
      have g2 : (dedE (l.take i) ++ [(X, Y)]).getD j (0, 0) = (X, Y) := by rw [hj3, e1]; simp [List.getD]
      rw [g1, g2]
      exact hc
  · rw [hd]
    have hmm : m < w5.heap.size := by omega
    exact hs.kept (by rw [hg.block m (by rw [World.size_alloc]; omega) (fun e => by have := hlo m e.symm; omega), Below.heap_alloc _ _ _ hmm])
  · rw [hg.block k (by rw [World.size_alloc]; omega) (fun e => by have := hlo k e.symm; omega), Below.heap_alloc _ _ _ (by omega), h5 k hk hkm]
  · have := hg.size; rw [World.size_alloc] at this; omega
  · exact ⟨hg.os.trans (hgt.os.trans h.os.1), hg.tape.trans (hgt.tape.trans h.os.2.1), hg.output.trans (hgt.output.trans h.os.2.2)⟩
end

theorem owns_keptL {w w' : World} {N e k n : Nat} {v : Value} {xs : List Value} (h : w.ownsRow N e k v n xs) (hk : ∀ k, v.ownBlock = some k → w'.heap[k]? = w.heap[k]?) : w'.ownsRow N e k v n xs := by
  refine ⟨h.1, ?_⟩
  rcases h.2 with h2 | ⟨g, cap, cur, hv, hb, hg, h3⟩
  · exact .inl h2
  · exact .inr ⟨g, cap, cur, hv, hb, (hk g (by rw [hv]; rfl)).trans hg, h3⟩
theorem cell_blk {w w' : World} (a : Addr) (h : w'.heap[a.block]? = w.heap[a.block]?) : w'.cell? a = w.cell? a := by
  unfold World.cell?
  rw [h]

def LoopsPost (g : List (List Int)) (w : World) (e : Ending) (w' : World) : Prop :=
  ∃ bs v, e = .returned v ∧ KV w.heap.size bs v (pairsZ (dedE (walkW g).loops)) w' ∧ Below w.heap.size w w'

def LopRel (m : Nat) (w2 : World) (l : List (Nat × Nat)) (bs : List Nat) (L : Nat) (s3 s16 : Value) (wr : World) : Prop :=
  ∃ (i : Nat) (bs' : List Nat), i ≤ L ∧ s16 = .int .i64 i ∧ LopR m i w2 l bs bs' s3 wr

theorem LopRel.done {m L : Nat} {w w2 : World} {l : List (Nat × Nat)} {bs bs' : List Nat} {s3 : Value} {wr : World} (h : LopR m L w2 l bs bs' s3 wr) (hL : L = l.length) (hbase : ∀ b ∈ bs, w.heap.size ≤ b) (hne : ∀ b ∈ bs, b ≠ m) (hm : m = w.heap.size) (hb : Below w.heap.size w w2) :
    KV w.heap.size bs' s3 (pairsZ (dedE l)) wr ∧ Below w.heap.size w wr := by
  obtain ⟨e1, e2, e3, e4, e5⟩ := h.ex
  rw [hL, List.take_length] at e1 e4 e5
  have hpl : (pairsZ (dedE l)).length = (dedE l).length := by simp [pairsZ]
  have hsub : ∀ b ∈ bs', b ∈ bs := fun b hb => List.mem_of_mem_take (e3 b hb)
  refine ⟨⟨by rw [hpl, e1], e2, fun b hb => hbase b (hsub b hb), ?_, fun j hj => ?_⟩, ⟨h.os.1.trans hb.os, h.os.2.1.trans hb.tape, h.os.2.2.trans hb.output, Nat.le_trans hb.size h.size, fun k hk => ?_⟩⟩
  · rw [hpl]
    refine ⟨e4.1, ?_⟩
    rcases e4.2 with h2 | ⟨g, cap, cur, hv, hb2, h3⟩
    · exact .inl h2
    · exact .inr ⟨g, cap, cur, hv, Nat.le_trans hb.size hb2, h3⟩
  · rw [hpl] at hj
    have hj2 : j < bs'.length := by omega
    have hx := e5 j hj2
    have hmem : bs'.getD j 0 ∈ bs := hsub _ (by simp [List.getD, hj2])
    rw [h.keep _ (Array.getElem?_eq_some_iff.1 hx).1 (hne _ hmem), hx]
    simp [pairsZ, List.getD, hj]
  · have := hb.size
    rw [h.keep k (by omega) (by omega), hb.block k hk]

set_option maxHeartbeats 4000000 in
set_option maxRecDepth 100000 in
theorem loops_any (ga : Option Addr) (gc : Nat) (g : List (List Int)) (N : Nat) (w : World) (hg : Grf w ga g.length gc g) (hn : g.length ≤ 60) (hN : muW g beginW + 1 ≤ N) (hN2 : N ≤ 10000) (hd : ∀ v, degW g v ≤ 1000000) (hok : g = [] ∨ OkW g N (walkW g)) :
    Calls Tryd.prog 55 #[.slice ga g.length gc] w (LoopsPost g w) := by
  have hB0 : Below w.heap.size w (w.alloc (.map #[] 0)) := (Below.refl _ _).alloc (Nat.le_refl _) _
  have K := Lib.hid (newWalk_any ga gc g N (w.alloc (.map #[] 0)) (hg.below hB0) hn hN hN2 hd)
  have S0 := Lib.hid (PairSet.made w Tryd.prog 170)
  unfold NewWPost at K
  have hlo : (walkW g).loops.length ≤ 10000 ∧ ∀ e ∈ (walkW g).loops, e.1 < 1000000 ∧ e.2 < 1000000 := by
    rcases hok with rfl | hok
    · exact ⟨by simp [walkW], fun e he => by simp [walkW] at he⟩
    · refine ⟨by have := hok.size; omega, fun e he => ?_⟩
      have := hok.lp e he
      omega
  unfold LoopsPost
  obtain ⟨n, hnn⟩ : ∃ n, g.length = n := ⟨_, rfl⟩
  rw [hnn] at K ⊢
  generalize walkW g = s at *
  have HB0 := Lib.hid hB0
  have HLO := Lib.hid hlo
  obtain ⟨i1, hj, hy0, hy1, hy2⟩ := info_parts rowinfoM
  have HJ := Lib.hid hj
  have HY0 := Lib.hid hy0
  have HY1 := Lib.hid hy1
  have HY2 := Lib.hid hy2
  have hmm := @run_makeMap Tryd.prog
  clear hg hn hN hN2 hd hok hB0 hlo hj hy0 hy1 hy2 hnn
  go_enter Tryd.func55, Tryd.ntmps55
  go_wp2_with fail
  refine K.out.mono ?_
  rintro e w2 ⟨p, q, bs, lv, ov, rfl, hwb, hB⟩
  have c3 : w2.cell? ⟨p, 3, none⟩ = some ov := cell_of_row w2 p 3 _ 165 (0, 0) hwb.cp
  have hkv := hwb.loops
  have hmap : ∃ es c, w2.heap[w.heap.size]? = some (.map es c) := by
    obtain ⟨es, c, h⟩ := S0.out.map
    exact ⟨es, c, (hB.block _ (by rw [World.size_alloc]; omega)).trans h⟩
  obtain ⟨oa, oc, rfl⟩ := own_shapeM hkv.own
  have hpl : (pairsZ s.loops).length = s.loops.length := by simp [pairsZ]
  obtain ⟨_, hloc, hocm⟩ := hkv.len_le
  unfold maxLen at hocm
  have HPL := Lib.hid hpl
  have HKV := Lib.hid hkv
  have HMAP := Lib.hid hmap
  have HB := Lib.hid hB
  obtain ⟨L, hL⟩ : ∃ L, (pairsZ s.loops).length = L := ⟨_, rfl⟩
  rw [hL] at HPL HKV c3 hloc
  have HLL := Lib.hid hL
  have R0 : Hid (LopRel w.heap.size w2 s.loops bs L (.slice none 0 0) (.int .i64 0) w2) := Lib.hid ⟨0, [], Nat.zero_le _, rfl, ⟨⟨rfl, List.nodup_nil, fun b hb => (by cases hb), World.ownsRow_nil _ _ _ _, fun j hj => absurd hj (Nat.not_lt_zero _)⟩, S0.out.kept (hB.block _ (by rw [World.size_alloc]; omega)), fun _ _ _ => rfl, Nat.le_refl _, rfl, rfl, rfl⟩⟩
  clear hwb hkv hmap hpl hB hL K S0
  go_wp2_with fail
  go_loopw [3, 16] (fun s3 s16 wr => LopRel w.heap.size w2 s.loops bs L s3 s16 wr) (fun _ s16 _ => L - (intOf s16).toNat)
  case atStart => exact R0.out
  case round =>
    clear R0
    obtain ⟨i, bs', hi, rfl, hR⟩ := hrel
    by_cases hlt : i < L
    · have t1 : decide (i < L) = true := by simpa using hlt
      obtain ⟨gk, b, rfl, h1, h2, h3, hbi, cg, c0, c1⟩ := HKV.out.cells hlt
      clear h1 h2 h3
      have hat := HKV.out.at_ i (by rw [HLL.out]; exact hlt)
      rw [hbi] at hat
      obtain ⟨es, mc, hm⟩ := HMAP.out
      have hbm : b ≠ w.heap.size := fun e => by rw [e, hm] at hat; cases hat
      have hgm : gk ≠ w.heap.size := fun e => by
        obtain ⟨cur, hc⟩ := own_typeM HKV.out.own (g := gk) rfl
        rw [e, hm] at hc; cases hc
      have hbl := (Array.getElem?_eq_some_iff.1 hat).1
      have hgl : gk < w2.heap.size := by
        obtain ⟨cur, hc⟩ := own_typeM HKV.out.own (g := gk) rfl
        exact (Array.getElem?_eq_some_iff.1 hc).1
      have hil : i < s.loops.length := by rw [← HPL.out]; exact hlt
      obtain ⟨X, Y, hXY⟩ : ∃ X Y, s.loops.getD i (0, 0) = (X, Y) := ⟨_, _, rfl⟩
      have hpz : (pairsZ s.loops).getD i (0, 0) = ((X : Int), (Y : Int)) := by
        simp only [List.getD, List.getElem?_eq_getElem hil, Option.getD_some] at hXY
        simp [pairsZ, List.getD, hil, hXY]
      rw [hpz] at c0 c1 hat
      have hb2 := HLO.out.2 (X, Y) (by rw [← hXY]; simp [List.getD, hil])
      dsimp only at hb2 c0 c1 hat
      have hX := hb2.1
      have hY := hb2.2
      have ca := (cell_blk ⟨gk, i, none⟩ (hR.keep gk hgl hgm)).trans cg
      have cb0 := (cell_blk ⟨b, 0, none⟩ (hR.keep b hbl hbm)).trans c0
      have cb1 := (cell_blk ⟨b, 1, none⟩ (hR.keep b hbl hbm)).trans c1
      have E1 := Lib.hid (arrAt2 ⟨b, 0, none⟩)
      have HS := Lib.hid hR.set
      have HR := Lib.hid hR
      have HAT := Lib.hid hat
      have HBW := Lib.hid (show b < wr.heap.size ∧ b ≠ w.heap.size from ⟨Nat.lt_of_lt_of_le hbl hR.size, hbm⟩)
      have HBI := Lib.hid hbi
      have HLM := Lib.hid (show w.heap.size < w2.heap.size from (Array.getElem?_eq_some_iff.1 hm).1)
      clear hat hm hbm hgm cg c0 c1 hb2 hpz hR hbi
      by_cases hmem : (X, Y) ∈ dedE (s.loops.take i)
      · have HF := Lib.hid (show decide ((X, Y) ∈ dedE (s.loops.take i)) = true by simpa using hmem)
        have FIN := Lib.hid (HR.out.again hil (by rw [hXY]; exact hmem) (.cells #[] 168))
        clear hmem
        go_wp2_with (first | (rw [E1.out]) | (at_lookup; refine wpList_pset_look arr2 Tryd.underlying3 typs1 _ rfl _ _ 167 rfl 168 Tryd.underlying167 (zero_unitL _) w.heap.size i _ rfl HS.out X Y rfl hX hY true HF.out ?_))
        go_roundw
        case rel => exact ⟨i + 1, bs', by omega, by go_num, FIN.out⟩
        case measure => simp [intOf]; omega
      · have HF := Lib.hid (show decide ((X, Y) ∈ dedE (s.loops.take i)) = false by simpa using hmem)
        have hs0 : PairSet Tryd.prog 170 w.heap.size i (dedE (s.loops.take i)) (wr.alloc (.cells #[] 168)) := HS.out.kept (Below.heap_alloc _ _ _ HS.out.lt)
        have HS0 := Lib.hid hs0
        have hown := HR.out.ex.2.2.2.1
        obtain ⟨sa, sc, rfl⟩ := own_shapeM hown
        have hdl := dedE_len (s.loops.take i)
        have htl : (s.loops.take i).length ≤ s.loops.length := by simp; omega
        have hll := HLO.out.1
        obtain ⟨q, hq⟩ : ∃ q, (dedE (s.loops.take i)).length = q := ⟨_, rfl⟩
        have hsz := HR.out.size
        have hown2 := hown
        rw [hq] at hown2 hdl
        have FIN : Hid (∀ w5, PairSet Tryd.prog 170 w.heap.size (i + 1) (dedE (s.loops.take i) ++ [(X, Y)]) w5 → (wr.alloc (.cells #[] 168)).mapTurned w5 w.heap.size →
            (w5.cell? ⟨b, 0, none⟩ = some (.int .i64 (X : Int)) ∧ w5.cell? ⟨b, 1, none⟩ = some (.int .i64 (Y : Int)) ∧ w5.ownsRow w2.heap.size 26 1 (.slice sa q sc) q (bs'.map fun b => .slice (some ⟨b, 0, none⟩) 2 2) ∧ w2.heap.size ≤ w5.heap.size) ∧
            ∀ va vc w6, w6.ownsRow w2.heap.size 26 1 (.slice va (q + 1) vc) (q + 1) ((bs'.map fun b => .slice (some ⟨b, 0, none⟩) 2 2) ++ [.slice (some ⟨b, 0, none⟩) 2 2]) → (w5.alloc (.cells #[.slice (some ⟨b, 0, none⟩) 2 2] 26)).grownBy w6 (Value.slice sa q sc).ownBlock →
            LopR w.heap.size (i + 1) w2 s.loops bs (bs' ++ [b]) (.slice va (q + 1) vc) w6) := Lib.hid fun w5 h5 ht => by
          have hgt := ht.grown
          have hk5 : ∀ k, k < wr.heap.size → k ≠ w.heap.size → w5.heap[k]? = wr.heap[k]? := fun k hk hkm => by
            rw [hgt.block k (by rw [World.size_alloc]; omega) (fun e => hkm (Option.some.inj e)), Below.heap_alloc _ _ _ hk]
          have hbw : b < wr.heap.size ∧ b ≠ w.heap.size := HBW.out
          have hs5 := hgt.size
          rw [World.size_alloc] at hs5
          refine ⟨⟨(cell_blk ⟨b, 0, none⟩ (hk5 b hbw.1 hbw.2)).trans cb0, (cell_blk ⟨b, 1, none⟩ (hk5 b hbw.1 hbw.2)).trans cb1, ?_, by omega⟩, fun va vc w6 ho hg => ?_⟩
          · refine owns_keptL hown2 fun k hk => ?_
            obtain ⟨cur, hc⟩ := own_typeM hown2 hk
            have := (Array.getElem?_eq_some_iff.1 hc).1
            have h2 := own_block_lt hown2 k hk
            have h3 := HLM.out
            exact hk5 k this (by omega)
          · have := HR.out.new (v6 := .slice va (q + 1) vc) hil (by rw [HKV.out.len, HLL.out]; exact hlt) HKV.out.nodup HLM.out hXY (by rw [hXY]; exact hmem) (by rw [HBI.out]; exact HAT.out) h5 ht (by rw [HBI.out, hq]; exact ho) (by rw [hq]; exact hg)
            rw [HBI.out] at this
            exact this
        have HNW : Hid (∀ w5 : World, ∀ j u, ([.slice (some ⟨b, 0, none⟩) 2 2] : List Value)[j]? = some u → (w5.alloc (.cells #[.slice (some ⟨b, 0, none⟩) 2 2] 26)).cell? ((⟨w5.heap.size, 0, none⟩ : Addr).add j) = some u) := Lib.hid fun w5 => cell_one_new w5 (.slice (some ⟨b, 0, none⟩) 2 2) 26
        have HMI := Lib.hid (show i < maxLen by unfold maxLen; omega)
        have HM1 := Lib.hid (show q + 1 ≤ maxLen by unfold maxLen; omega)
        have HM2 := Lib.hid (show (q + 1) * 24 ≤ 140737488355328 by omega)
        have ce0 := (cell_blk ⟨b, 0, none⟩ (Below.heap_alloc wr (.cells #[] 168) b HBW.out.1)).trans cb0
        have ce1 := (cell_blk ⟨b, 1, none⟩ (Below.heap_alloc wr (.cells #[] 168) b HBW.out.1)).trans cb1
        rw [hq] at *
        clear hmem hown hown2 hs0 hdl htl hll hsz
        go_wp2_with (first | (rw [E1.out]) | (at_lookup; refine wpList_pset_look arr2 Tryd.underlying3 typs1 _ rfl _ _ 167 rfl 168 Tryd.underlying167 (zero_unitL _) w.heap.size i _ rfl HS.out X Y rfl hX hY false HF.out ?_) | (at_mapUpdate; refine wpList_pset_put arr2 Tryd.underlying3 typs1 _ rfl _ _ _ 167 rfl 168 Tryd.underlying167 w.heap.size i _ rfl HS0.out HMI.out X Y rfl hX hY rfl ?_; intro w5 h5 ht5; have F5 := Lib.hid (FIN.out w5 h5 ht5); have d0 := F5.out.1.1; have d1 := F5.out.1.2.1; have H5 := Lib.hid (show w2.heap.size ≤ (w5.alloc (.cells #[.slice (some ⟨b, 0, none⟩) 2 2] 26)).heap.size by have := F5.out.1.2.2.2; rw [World.size_alloc]; omega); clear h5 ht5) | (at_builtin; refine wpList_append_own _ rfl (.tmp 35) (.tmp 37) 80 rfl w2.heap.size 26 i1 (.slice none 0 0) 1 24 Tryd.underlying80 HJ.out HY0.out HY1.out HY2.out rfl (by decide) (.slice sa q sc) q _ rfl (F5.out.1.2.2.1.alloc _) ⟨w5.heap.size, 0, none⟩ 1 1 [.slice (some ⟨b, 0, none⟩) 2 2] rfl rfl (HNW.out w5) (by simp [Value.oneCell']) HM1.out HM2.out H5.out ?_; intro v6 w6 hown6 hgrow6 hnil6; obtain ⟨va6, vc6, rfl⟩ := own_shapeM hown6; have F6 := Lib.hid (F5.out.2 va6 vc6 w6 hown6 hgrow6); clear hown6 hgrow6 hnil6))
        go_roundw
        case rel => exact ⟨i + 1, _, by omega, by go_num, F6.out⟩
        case measure => simp [intOf]; omega
    · obtain rfl : i = L := by omega
      have t1 : decide (i < i) = false := by simp
      have FIN := Lib.hid (LopRel.done (w := w) hR HPL.out (fun b hb => by have := HKV.out.base b hb; rw [World.size_alloc] at this; omega) (fun b hb e => by
        obtain ⟨es, mc, hm⟩ := HMAP.out
        obtain ⟨j, hj, rfl⟩ := List.getElem_of_mem hb
        have := HKV.out.at_ j (by rw [← HKV.out.len]; exact hj)
        rw [show bs.getD j 0 = bs[j] by simp [List.getD, hj], e, hm] at this
        cases this) rfl (HB0.out.trans (HB.out.mono (by rw [World.size_alloc]; omega))))
      obtain ⟨sa, sc, rfl⟩ := own_shapeM hR.ex.2.2.2.1
      clear hR
      go_wp2_with fail
      go_ret
      exact ⟨_, _, rfl, FIN.out.1, FIN.out.2⟩

end Go.Proofs.YtchechdcebmoeaaDoor

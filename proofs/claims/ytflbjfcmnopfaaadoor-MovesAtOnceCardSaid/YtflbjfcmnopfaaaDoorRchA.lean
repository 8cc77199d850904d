/-
  A heap's Reach: what stands in its boxes; one reference met.
-/
import Derived.Test.YtflbjfcmnopfaaaDoorHpG
import Derived.Test.YtflbjfcmnopfaaaDoorMap
import Derived.Test.YtflbjfcmnopfaaaDoorRchL
import Derived.Laws.AppendOwnNone
import Derived.Maps.AppendAt
import Derived.StillTailTactics
namespace Go.Proofs.YtflbjfcmnopfaaaDoor
open Go.RowKit

theorem intinfoR : (Tryd.prog.info? 3).map (fun i => (i.zero, i.size, i.bytes)) = some (some (.int .i64 0), 1, 8) := by kernel_rfl
theorem own_newR (w : World) (x : Int) (B : Nat) (hB : B ≤ w.heap.size) : (w.alloc (.cells #[.int .i64 x] 3)).ownsRow B 3 1 (.slice (some ⟨w.heap.size, 0, none⟩) 1 1) 1 [.int .i64 x] :=
  ⟨rfl, .inr ⟨w.heap.size, 1, #[.int .i64 x], rfl, hB, heap_alloc_new w _, Nat.le_refl _, by unfold maxLen; omega, rfl, rfl⟩⟩

/-- What stands in Reach's boxes; X: blocks that the list told does not lie in. -/
structure Rch (X : Nat → Prop) (hb N bm bh bt bo mb : Nat) (out : List Int) (w : World) : Prop where
  m : w.heap[bm]? = some (.cells #[.map (some mb)] 233 (0, 0))
  h : w.heap[bh]? = some (.cells #[.pointer (some ⟨hb, 0, none⟩)] 91 (0, 0))
  t : w.heap[bt]? = some (.cells #[.func (.func 149) #[] #[]] 31 (0, 0))
  o : ∃ v, w.heap[bo]? = some (.cells #[v] 26 (0, 0)) ∧ w.ownsRow N 3 1 v out.length (out.map (Value.int .i64)) ∧ (out = [] → v = .slice none 0 0) ∧ ∀ k, X k → v.ownBlock ≠ some k
  x : ∀ k, X k → N ≤ k ∧ k < w.heap.size
  s : IntSet Tryd.prog 3 mb out.length (fun x => out.contains x) w
  n1 : bm ≠ bo
  n2 : bh ≠ bo
  n3 : bt ≠ bo
  n4 : mb ≠ bo
  n5 : mb ≠ bm
  n6 : mb ≠ bh
  n7 : mb ≠ bt
  l1 : bm < N
  l2 : bh < N
  l3 : bt < N
  l4 : bo < N
  l5 : mb < N

theorem ownsRow_stays {w w' : World} {N e n : Nat} {v : Value} {xs : List Value} (h : w.ownsRow N e 1 v n xs) (hk : ∀ k, N ≤ k → k < w.heap.size → w'.heap[k]? = w.heap[k]?) : w'.ownsRow N e 1 v n xs := by
  refine ⟨h.1, ?_⟩
  rcases h.2 with h2 | ⟨g, cap, cur, hv, hb, hg, h3⟩
  · exact .inl h2
  · exact .inr ⟨g, cap, cur, hv, hb, (hk g hb (Array.getElem?_eq_some_iff.1 hg).1).trans hg, h3⟩

theorem Rch.below {X : Nat → Prop} {hb N bm bh bt bo mb : Nat} {out : List Int} {w w' : World} (h : Rch X hb N bm bh bt bo mb out w) (hb' : Below w.heap.size w w') : Rch X hb N bm bh bt bo mb out w' := by
  have lt : ∀ (i : Nat) (o : Obj), w.heap[i]? = some o → i < w.heap.size := fun i o hi => (Array.getElem?_eq_some_iff.1 hi).1
  obtain ⟨v, o1, o2, o3, o4⟩ := h.o
  exact ⟨(hb'.block _ (lt _ _ h.m)).trans h.m, (hb'.block _ (lt _ _ h.h)).trans h.h, (hb'.block _ (lt _ _ h.t)).trans h.t, ⟨v, (hb'.block _ (lt _ _ o1)).trans o1, ownsRow_stays o2 (fun k _ hk => hb'.block k hk), o3, o4⟩, fun k hk => ⟨(h.x k hk).1, Nat.lt_of_lt_of_le (h.x k hk).2 hb'.size⟩,
    h.s.kept (hb'.block _ h.s.lt), h.n1, h.n2, h.n3, h.n4, h.n5, h.n6, h.n7, h.l1, h.l2, h.l3, h.l4, h.l5⟩

theorem take_any (r : Int) (w : World) : Calls Tryd.prog 149 #[.int .i64 r] w fun e w' => e = .returned (.bool true) ∧ w = w' := by
  go_enter Tryd.func149, Tryd.ntmps149
  go_wp2
  go_ret
  exact ⟨rfl, rfl⟩

theorem zero_unit : ∀ w, (zeroValue 155).run Tryd.prog w = .ok (.agg #[]) w := fun w => by kernel_rfl

def IsPost (c : Bool) (w : World) (e : Ending) (w' : World) : Prop := ∃ a b : Int, e = .returned (.tuple #[.int .i64 a, .int .i64 b, .bool c]) ∧ w = w'

def MeetPost (X : Nat → Prop) (hb N bm bh bt bo mb : Nat) (B : Nat) (out : List Int) (w : World) (e : Ending) (w' : World) : Prop :=
  e = .returned (.bool true) ∧ Rch X hb N bm bh bt bo mb out w' ∧ Below B w w' ∧ ∀ k, X k → w'.heap[k]? = w.heap[k]?

/-- Behind the map's turn. -/
theorem rch_put {X : Nat → Prop} {hb N bm bh bt bo mb : Nat} {out : List Int} {w w2 : World} {v : Value} {o : Obj} (h : Rch X hb N bm bh bt bo mb out w) (o1 : w.heap[bo]? = some (.cells #[v] 26 (0, 0))) (o2 : w.ownsRow N 3 1 v out.length (out.map (Value.int .i64))) (hN : N ≤ w.heap.size)
    (hT : (w.alloc o).mapTurned w2 mb) : w2.cell? ⟨bo, 0, none⟩ = some v ∧ w2.frozen? ⟨bo, 0, none⟩ = false ∧ bo < w2.heap.size ∧ Hid (w2.ownsRow N 3 1 v out.length (out.map (Value.int .i64))) ∧ Hid ((w.alloc o).grownBy w2 (some mb)) ∧ Hid (w.heap.size + 1 ≤ w2.heap.size) := by
  have hg := hT.grown
  have l4 := h.l4
  have hz := hg.size
  rw [World.size_alloc] at hz
  have e1 : w2.heap[bo]? = some (.cells #[v] 26 (0, 0)) := (hg.block bo (by rw [World.size_alloc]; omega) (by simp; exact fun e => h.n4 e.symm)).trans ((Below.heap_alloc _ _ _ (by omega)).trans o1)
  refine ⟨?_, frozen_of_row w2 bo 0 _ _ e1, by omega, Lib.hid ?_, Lib.hid hg, Lib.hid hz⟩
  · rw [cell_of_row w2 bo 0 _ _ (0, 0) e1]; rfl
  · refine (o2.alloc o).kept hg ?_
    by_cases hv : v.ownBlock = none
    · exact .inl hv
    · refine .inr fun e => ?_
      have := (o2.lt mb e).1
      have := h.l5
      omega

/-- Behind the append. -/
theorem rch_app {X : Nat → Prop} {hb N bm bh bt bo mb : Nat} {out : List Int} {w w2 w5 : World} {v v5 : Value} {r : Int} {o o2 : Obj} (h : Rch X hb N bm bh bt bo mb out w) (hN : N ≤ w.heap.size) (hS : IntSet Tryd.prog 3 mb (out.length + 1) (upd (fun x => out.contains x) r true) w2)
    (hg : (w.alloc o).grownBy w2 (some mb)) (hv : w2.ownsRow N 3 1 v out.length (out.map (Value.int .i64))) (h5 : (w2.alloc o2).grownBy w5 v.ownBlock) (ho : w5.ownsRow N 3 1 v5 (out.length + 1) (out.map (Value.int .i64) ++ [.int .i64 r])) (hat : v5.ownBlock = v.ownBlock ∨ v5.ownBlock = some (w2.alloc o2).heap.size)
    (hco : w2.cell? ⟨bo, 0, none⟩ = some v) (_hfo : w2.frozen? ⟨bo, 0, none⟩ = false) (B : Nat) (hB : B ≤ bm ∧ B ≤ bh ∧ B ≤ bt ∧ B ≤ bo ∧ B ≤ mb ∧ B ≤ w.heap.size) :
    w5.cell? ⟨bo, 0, none⟩ = some v ∧ w5.frozen? ⟨bo, 0, none⟩ = false ∧ Hid (MeetPost X hb N bm bh bt bo mb B (out ++ [r]) w (.returned (.bool true)) (w5.setCell ⟨bo, 0, none⟩ v5)) := by
  have lt : ∀ (i : Nat) (x : Obj), w.heap[i]? = some x → i < w.heap.size := fun i x hi => (Array.getElem?_eq_some_iff.1 hi).1
  obtain ⟨u, o1, _, _, o4⟩ := h.o
  have z1 := hg.size
  have z2 := h5.size
  rw [World.size_alloc] at z1 z2
  have l4 := h.l4
  have l5 := h.l5
  have hvb : ∀ k, k < N → some k ≠ v.ownBlock := fun k hk e => by have := (hv.lt k e.symm).1; omega
  have k2 : ∀ k, k < w.heap.size → k ≠ mb → w2.heap[k]? = w.heap[k]? := fun k hk hne => (hg.block k (by rw [World.size_alloc]; omega) (by simp; exact hne)).trans (Below.heap_alloc _ _ _ hk)
  have k5 : ∀ k, k < N → k ≠ mb → w5.heap[k]? = w.heap[k]? := fun k hk hne => (h5.block k (by rw [World.size_alloc]; omega) (hvb k hk)).trans ((Below.heap_alloc _ _ _ (by omega)).trans (k2 k (by omega) hne))
  have kB : ∀ k, k < B → w5.heap[k]? = w.heap[k]? := fun k hk => k5 k (by omega) (by omega)
  have e5 : w5.heap[bo]? = some (.cells #[u] 26 (0, 0)) := (k5 bo l4 (fun e => h.n4 e.symm)).trans o1
  have eu : u = v := by
    have e2 : w2.heap[bo]? = some (.cells #[u] 26 (0, 0)) := (k2 bo (by omega) (fun e => h.n4 e.symm)).trans o1
    rw [cell_of_row w2 bo 0 _ _ (0, 0) e2] at hco
    simpa using hco
  subst eu
  have hg9 := grown_store w5 bo 0 v5
  have k9 : ∀ k, k ≠ bo → (w5.setCell ⟨bo, 0, none⟩ v5).heap[k]? = w5.heap[k]? := fun k hk => heap_setCell_other w5 ⟨bo, 0, none⟩ k v5 (fun e => hk e)
  refine ⟨?_, frozen_of_row w5 bo 0 _ _ e5, Lib.hid ⟨rfl, ⟨?_, ?_, ?_, ⟨v5, ?_, ?_, ?_, fun k hk => ?_⟩, fun k hk => ⟨(h.x k hk).1, ?_⟩, ?_, h.n1, h.n2, h.n3, h.n4, h.n5, h.n6, h.n7, h.l1, h.l2, h.l3, h.l4, h.l5⟩, ?_, fun k hk => ?_⟩⟩
  · rw [cell_of_row w5 bo 0 _ _ (0, 0) e5]; rfl
  · exact (k9 bm h.n1).trans ((k5 bm h.l1 (fun e => h.n5 e.symm)).trans h.m)
  · exact (k9 bh h.n2).trans ((k5 bh h.l2 (fun e => h.n6 e.symm)).trans h.h)
  · exact (k9 bt h.n3).trans ((k5 bt h.l3 (fun e => h.n7 e.symm)).trans h.t)
  · rw [heap_setCell_same w5 bo 0 _ 26 _ e5]; rfl
  · rw [List.length_append, List.map_append]
    exact ownsRow_stays ho (fun k hk _ => k9 k (by omega))
  · intro e; simp at e
  · intro e
    rcases hat with h1 | h1
    · exact o4 k hk (h1.symm.trans e)
    · rw [h1, World.size_alloc] at e
      have := Option.some.inj e
      have := (h.x k hk).2
      omega
  · have := (h.x k hk).2
    have := hg9.size
    omega
  · have hm5 : w5.heap[mb]? = w2.heap[mb]? := (h5.block mb (by rw [World.size_alloc]; omega) (hvb mb l5)).trans (Below.heap_alloc _ _ _ (by omega))
    rw [List.length_append]
    refine ((hS.kept hm5).kept (k9 mb h.n4)).congr fun x => ?_
    unfold upd
    rw [Bool.eq_iff_iff]
    by_cases hx : x = r
    · simp [hx]
    · simp [hx]
  · refine ⟨hg9.os.trans (h5.os.trans hg.os), hg9.tape.trans (h5.tape.trans hg.tape), hg9.output.trans (h5.output.trans hg.output), ?_, fun k hk => (k9 k (by omega)).trans (kB k hk)⟩
    have := hg9.size
    omega
  · have hx := h.x k hk
    exact (k9 k (by omega)).trans ((h5.block k (by rw [World.size_alloc]; omega) (fun e => o4 k hk e.symm)).trans ((Below.heap_alloc _ _ _ (by omega)).trans (k2 k hx.2 (by omega))))

set_option maxHeartbeats 1000000 in
set_option maxRecDepth 100000 in
theorem meet_any {X : Nat → Prop} {hb N bm bh bt bo mb B : Nat} (is : Int → Bool) (out : List Int) (r : Int) (w : World) (h : Rch X hb N bm bh bt bo mb out w) (hr : (Lit.int .i64 r).wf = true) (hlen : out.length ≤ 65536)
    (hB : B ≤ bm ∧ B ≤ bh ∧ B ≤ bt ∧ B ≤ bo ∧ B ≤ mb ∧ B ≤ w.heap.size) (hN : N ≤ w.heap.size)
    (KI : ∀ w', Below w.heap.size w w' → Calls Tryd.prog 60 #[.pointer (some ⟨hb, 0, none⟩), .int .i64 r] w' (IsPost (is r) w')) :
    Calls Tryd.prog 182 #[.int .i64 r, .pointer (some ⟨bm, 0, none⟩), .pointer (some ⟨bh, 0, none⟩), .pointer (some ⟨bt, 0, none⟩), .pointer (some ⟨bo, 0, none⟩)] w
      (MeetPost X hb N bm bh bt bo mb B (meetF is out r) w) := by
  have lt : ∀ (i : Nat) (o : Obj), w.heap[i]? = some o → i < w.heap.size := fun i o hi => (Array.getElem?_eq_some_iff.1 hi).1
  obtain ⟨v, o1, o2, o3, o4⟩ := h.o
  have cm : w.cell? ⟨bm, 0, none⟩ = some (.map (some mb)) := by rw [cell_of_row w bm 0 _ _ (0, 0) h.m]; rfl
  have ch : w.cell? ⟨bh, 0, none⟩ = some (.pointer (some ⟨hb, 0, none⟩)) := by rw [cell_of_row w bh 0 _ _ (0, 0) h.h]; rfl
  have ct : w.cell? ⟨bt, 0, none⟩ = some (.func (.func 149) #[] #[]) := by rw [cell_of_row w bt 0 _ _ (0, 0) h.t]; rfl
  have co : w.cell? ⟨bo, 0, none⟩ = some v := by rw [cell_of_row w bo 0 _ _ (0, 0) o1]; rfl
  have fo : w.frozen? ⟨bo, 0, none⟩ = false := frozen_of_row w bo 0 _ _ o1
  have l1 := lt _ _ h.m
  have l2 := lt _ _ h.h
  have l3 := lt _ _ h.t
  have l4 := lt _ _ o1
  have HS := Lib.hid h.s
  have H := Lib.hid h
  have HR := Lib.hid hr
  have O1 := Lib.hid o1
  have O2 := Lib.hid o2
  have O3 := Lib.hid o3
  have KI1 : Hid (Calls Tryd.prog 60 #[.pointer (some ⟨hb, 0, none⟩), .int .i64 r] (w.alloc (.cells #[] 155)) (IsPost (is r) (w.alloc (.cells #[] 155)))) := Lib.hid (KI _ ((Below.refl _ _).alloc (Nat.le_refl _) _))
  have HBB := Lib.hid hB
  clear h hr KI lt o1 o2 o3 o4 hB
  cases his : is r with
  | false =>
    rw [his] at KI1
    have hm : meetF is out r = out := by unfold meetF; rw [his]; rfl
    rw [hm]
    clear his hm
    obtain ⟨c, hc⟩ : ∃ c, out.contains r = c := ⟨_, rfl⟩
    have HC := Lib.hid hc
    clear hc
    go_enter Tryd.func182, Tryd.ntmps182
    go_wp2_with (at_lookup; refine wpList_iset_look _ rfl _ _ 233 rfl 3 155 Tryd.underlying3 Tryd.underlying233 (zero_unit _) mb out.length _ rfl HS.out r rfl HR.out c HC.out ?_)
    refine KI1.out.mono ?_
    rintro e w' ⟨a, b, rfl, rfl⟩
    go_wp2_with fail
    go_ret
    exact ⟨rfl, H.out.below ((Below.refl _ _).alloc (Nat.le_refl _) _), ((Below.refl _ _).alloc (Nat.le_refl _) _).mono HBB.out.2.2.2.2.2, fun k hk => Below.heap_alloc _ _ _ (H.out.x k hk).2⟩
  | true =>
    rw [his] at KI1
    cases hc : out.contains r with
    | true =>
      have hm : meetF is out r = out := by unfold meetF; rw [his, hc]; rfl
      rw [hm]
      have HC := Lib.hid hc
      clear his hm hc
      go_enter Tryd.func182, Tryd.ntmps182
      go_wp2_with (at_lookup; refine wpList_iset_look _ rfl _ _ 233 rfl 3 155 Tryd.underlying3 Tryd.underlying233 (zero_unit _) mb out.length _ rfl HS.out r rfl HR.out true HC.out ?_)
      refine KI1.out.mono ?_
      rintro e w' ⟨a, b, rfl, rfl⟩
      go_wp2_with fail
      go_ret
      exact ⟨rfl, H.out.below ((Below.refl _ _).alloc (Nat.le_refl _) _), ((Below.refl _ _).alloc (Nat.le_refl _) _).mono HBB.out.2.2.2.2.2, fun k hk => Below.heap_alloc _ _ _ (H.out.x k hk).2⟩
    | false =>
      have hm : meetF is out r = out ++ [r] := by unfold meetF; rw [his, hc]; rfl
      rw [hm]
      have HC := Lib.hid hc
      clear his hm hc
      go_enter Tryd.func182, Tryd.ntmps182
      go_wp2_with (at_lookup; refine wpList_iset_look _ rfl _ _ 233 rfl 3 155 Tryd.underlying3 Tryd.underlying233 (zero_unit _) mb out.length _ rfl HS.out r rfl HR.out false HC.out ?_)
      refine KI1.out.mono ?_
      rintro e w' ⟨a, b, rfl, rfl⟩
      have HS1 := Lib.hid (HS.out.kept (w' := w.alloc (.cells #[] 155)) (Below.heap_alloc _ _ _ HS.out.lt))
      have HLEN : Hid (out.length < maxLen) := Lib.hid (by unfold maxLen; omega)
      obtain ⟨i0, hi, hz0, hz1, hz2⟩ := info_parts intinfoR
      have HI := Lib.hid hi
      have HZ0 := Lib.hid hz0
      have HZ1 := Lib.hid hz1
      have HZ2 := Lib.hid hz2
      have HM1 := Lib.hid (show out.length + 1 ≤ maxLen by unfold maxLen; omega)
      have HM2 := Lib.hid (show (out.length + 1) * 8 ≤ 140737488355328 by omega)
      have HNN := Lib.hid hN
      clear hi hz0 hz1 hz2
      go_wp2_with (first | (go_at_call 149; refine (take_any r _).mono ?_; rintro e w' ⟨rfl, rfl⟩) | (at_mapUpdate; refine wpList_iset_put _ rfl _ _ _ 233 rfl 3 155 Tryd.underlying3 Tryd.underlying233 mb out.length _ rfl HS1.out HLEN.out r rfl HR.out rfl ?_; intro w2 hS2 hT2; obtain ⟨co2, fo2, lo2, OB, HG2, HZ⟩ := rch_put H.out O1.out O2.out HNN.out hT2; have HS2 := Lib.hid hS2; have HB3 : Hid (N ≤ (w2.alloc (.cells #[.int .i64 r] 3)).heap.size) := Lib.hid (by have := HNN.out; have := HZ.out; rw [World.size_alloc]; omega); clear hS2 hT2) | (at_builtin; refine wpList_append_own_at _ rfl (.tmp 38) (.tmp 40) 26 rfl N 3 i0 (.int .i64 0) 1 8 Tryd.underlying26 HI.out HZ0.out HZ1.out HZ2.out rfl (by decide) _ out.length (out.map (Value.int .i64)) rfl (OB.out.alloc _) ⟨w2.heap.size, 0, none⟩ 1 1 [.int .i64 r] rfl rfl (cell_one_new _ _ _) (by simp [Value.oneCell']) HM1.out HM2.out HB3.out ?_; intro v5 w5 hown5 hgrow5 hnil5 hat5; obtain ⟨co5, fo5, FIN⟩ := rch_app H.out HNN.out HS2.out HG2.out OB.out hgrow5 hown5 hat5 co2 fo2 B HBB.out; obtain ⟨g5, c5, rfl⟩ := own_form hown5 (Nat.succ_pos _); clear hown5 hgrow5 hnil5 hat5))
      go_ret
      exact FIN.out

end Go.Proofs.YtflbjfcmnopfaaaDoor

/-
  A heap's mark; Put, where an old object gets a young one.
-/
import Derived.Test.YtjffbojgdemooaaDoorHpG
import Derived.Test.YtjffbojgdemooaaDoorRchA
namespace Go.Proofs.YtjffbojgdemooaaDoor
open Go.RowKit

theorem owns_staysH {w w' : World} {N e k n : Nat} {v : Value} {xs : List Value} (h : w.ownsRow N e k v n xs) (hk : ∀ k, N ≤ k → k < w.heap.size → w'.heap[k]? = w.heap[k]?) : w'.ownsRow N e k v n xs := by
  refine ⟨h.1, ?_⟩
  rcases h.2 with h2 | ⟨g, cap, cur, hv, hb, hg, h3⟩
  · exact .inl h2
  · exact .inr ⟨g, cap, cur, hv, hb, (hk g hb (Array.getElem?_eq_some_iff.1 hg).1).trans hg, h3⟩

theorem own_shapeK {B : Nat} {w : World} {e size n : Nat} {v : Value} {xs : List Value} (h : w.ownsRow B e size v n xs) : ∃ a c, v = .slice a n c := by
  rcases h.2 with ⟨rfl, h1⟩ | ⟨g, cap, cur, h1, h2, h3⟩
  · exact ⟨none, 0, by rw [h1]⟩
  · exact ⟨_, _, h1⟩

/-- What a mark turns. -/
structure Mks (hb gb bg : Nat) (mk mk' : Value) (w w' : World) : Prop where
  os : w'.os = w.os
  tape : w'.tape = w.tape
  output : w'.output = w.output
  size : w.heap.size ≤ w'.heap.size
  block : ∀ k, k < w.heap.size → k ≠ hb → k ≠ gb → k ≠ bg → some k ≠ mk.ownBlock → w'.heap[k]? = w.heap[k]?
  own : mk'.ownBlock = mk.ownBlock ∨ ∃ k, w.heap.size ≤ k ∧ mk'.ownBlock = some k

theorem Mks.of_tri {hb gb bg : Nat} {mk : Value} {w w' : World} (h : Tri hb gb bg w w') : Mks hb gb bg mk mk w w' := ⟨h.os, h.tape, h.output, h.size, fun k hk h1 h2 h3 _ => h.block k hk h1 h2 h3, .inl rfl⟩
theorem Mks.trans {hb gb bg : Nat} {m1 m2 m3 : Value} {w w1 w2 : World} (h : Mks hb gb bg m1 m2 w w1) (h2 : Mks hb gb bg m2 m3 w1 w2) : Mks hb gb bg m1 m3 w w2 := by
  refine ⟨h2.os.trans h.os, h2.tape.trans h.tape, h2.output.trans h.output, Nat.le_trans h.size h2.size, fun k hk a b c d => (h2.block k (Nat.lt_of_lt_of_le hk h.size) a b c (fun e => ?_)).trans (h.block k hk a b c d), ?_⟩
  · rcases h.own with h3 | ⟨k', h3, h4⟩
    · exact d (e.trans h3)
    · rw [h4] at e
      have := Option.some.inj e
      omega
  · rcases h2.own with h3 | ⟨k', h3, h4⟩
    · rcases h.own with h5 | ⟨k', h5, h6⟩
      · exact .inl (h3.trans h5)
      · exact .inr ⟨k', h5, h3.trans h6⟩
    · exact .inr ⟨k', Nat.le_trans h.size h3, h4⟩

section
variable {B hb ab gb bg : Nat} {cp : Option Addr} {cl cc : Nat} {cf : Nat → ByteArray} {n : Nat} {yt yp hp ht f1 t1 p1 : Int} {wd : Nat → Int} {bd : Nat → Bool} {mk : Value} {w : World} {N : Nat}

/-- Marks told in a row of their own, behind the heap's blocks. -/
structure Mkr (N hb ab gb bg : Nat) (cp : Option Addr) (mk : Value) (ns : List Int) (w : World) : Prop where
  own : w.ownsRow N 3 1 mk ns.length (ns.map (Value.int .i64))
  lt : hb < N ∧ ab < N ∧ gb < N ∧ bg < N ∧ N ≤ w.heap.size
  cls : ∀ ad, cp = some ad → ad.block < N

theorem Mkr.ne {ns : List Int} (h : Mkr N hb ab gb bg cp mk ns w) {k : Nat} (hk : k < N) : some k ≠ mk.ownBlock := fun e => by
  have := (h.own.lt k e.symm).1
  omega

theorem Mkr.grown {ns : List Int} (h : Mkr N hb ab gb bg cp mk ns w) {w' : World} {g : Nat} (hg : w.grownBy w' (some g)) (hgN : g < N) : Mkr N hb ab gb bg cp mk ns w' := by
  refine ⟨h.own.kept hg ?_, ⟨h.lt.1, h.lt.2.1, h.lt.2.2.1, h.lt.2.2.2.1, Nat.le_trans h.lt.2.2.2.2 hg.size⟩, h.cls⟩
  by_cases hv : mk.ownBlock = none
  · exact .inl hv
  · exact .inr fun e => h.ne hgN e.symm

/-- Behind the append and its store. -/
theorem mk_app {ns : List Int} {w5 : World} {v5 : Value} {o : Obj} {r : Int} (h : Hp B hb ab gb bg cp cl cc cf n yt yp hp ht f1 t1 p1 wd bd mk w) (hm : Mkr N hb ab gb bg cp mk ns w)
    (h5 : (w.alloc o).grownBy w5 mk.ownBlock) (ho : w5.ownsRow N 3 1 v5 (ns.length + 1) (ns.map (Value.int .i64) ++ [.int .i64 r])) (hat : v5.ownBlock = mk.ownBlock ∨ v5.ownBlock = some (w.alloc o).heap.size) :
    w5.cell? ⟨hb, 14, none⟩ = some mk ∧ w5.frozen? ⟨hb, 14, none⟩ = false ∧ Hid (Hp B hb ab gb bg cp cl cc cf n yt yp hp ht f1 t1 p1 wd bd v5 (w5.setCell ⟨hb, 14, none⟩ v5) ∧ Mkr N hb ab gb bg cp v5 (ns ++ [r]) (w5.setCell ⟨hb, 14, none⟩ v5) ∧ Mks hb gb bg mk v5 w (w5.setCell ⟨hb, 14, none⟩ v5)) := by
  obtain ⟨l1, l2, l3, l4, l5⟩ := hm.lt
  have z5 := h5.size
  rw [World.size_alloc] at z5
  have k5 : ∀ k, k < w.heap.size → some k ≠ mk.ownBlock → w5.heap[k]? = w.heap[k]? := fun k hk hne => (h5.block k (by rw [World.size_alloc]; omega) hne).trans (Below.heap_alloc _ _ _ hk)
  have kN : ∀ k, k < N → w5.heap[k]? = w.heap[k]? := fun k hk => k5 k (by omega) (hm.ne hk)
  have e5 := (kN hb l1).trans h.row
  have k9 : ∀ k, k ≠ hb → (w5.setCell ⟨hb, 14, none⟩ v5).heap[k]? = w5.heap[k]? := fun k hk => heap_setCell_other w5 ⟨hb, 14, none⟩ k v5 (fun e => hk e)
  have hg9 := grown_store w5 hb 14 v5
  refine ⟨(cell_of_row w5 hb 14 _ _ (0, 0) e5).trans rfl, frozen_of_row w5 hb 14 _ _ e5, Lib.hid ⟨⟨?_, h.ar.kept ((k9 gb (fun e => h.d2 e.symm)).trans (kN gb l3)) ((k9 ab (fun e => h.d1 e.symm)).trans (kN ab l2)), ((k9 bg (fun e => h.d3 e.symm)).trans (kN bg l4)).trans h.beg, h.cls.apart (fun ad had _ => (k9 _ (h.cne ad had).1).trans (kN _ (hm.cls ad had))), h.cne, h.d1, h.d2, h.d3, h.d4, h.d5, h.lo, h.y0, h.y1, h.y2, h.y3, h.y4, h.sm, h.f0⟩, ⟨?_, ⟨l1, l2, l3, l4, ?_⟩, hm.cls⟩, ⟨hg9.os.trans h5.os, hg9.tape.trans h5.tape, hg9.output.trans h5.output, ?_, fun k hk a _ _ d => (k9 k a).trans (k5 k hk d), ?_⟩⟩⟩
  · rw [heap_setCell_same w5 hb 14 _ 183 _ e5]
    rfl
  · rw [List.length_append, List.map_append]
    exact owns_staysH ho fun k hk _ => k9 k (by omega)
  · have := hg9.size
    omega
  · have := hg9.size
    omega
  · rcases hat with h1 | h1
    · exact .inl h1
    · rw [World.size_alloc] at h1
      exact .inr ⟨_, by omega, h1⟩

set_option maxHeartbeats 1000000 in
set_option maxRecDepth 100000 in
theorem mark_new {ns : List Int} (p : Nat) (w : World) (h : Hp B hb ab gb bg cp cl cc cf n yt yp hp ht f1 t1 p1 wd bd mk w) (hm : Mkr N hb ab gb bg cp mk ns w) (hp1 : p + 1 < n) (hw : wd (p + 1) = 0) (hns : ns.length ≤ 65536) :
    Calls Tryd.prog 136 #[.pointer (some ⟨hb, 0, none⟩), .int .i64 ((p : Int) + 1)] w
      fun e w' => ∃ mk', e = .returned (.tuple #[]) ∧ Hp B hb ab gb bg cp cl cc cf n yt yp hp ht f1 t1 p1 (putW wd (p + 1) 1) bd mk' w' ∧ Mkr N hb ab gb bg cp mk' (ns ++ [(p : Int) + 1]) w' ∧ Mks hb gb bg mk mk' w w' := by
  have KL := Lib.hid (loadI ((p : Int) + 1) (p + 1) 0 w h.ar (by omega) hp1 hw)
  have KS := Lib.hid (storeI ((p : Int) + 1) (p + 1) 1 w h.ar (by omega) hp1)
  have c2 : w.cell? ⟨hb, 2, none⟩ = some (.pointer (some ⟨ab, 0, none⟩)) := h.cell 2
  obtain ⟨i0, hi, hz0, hz1, hz2⟩ := info_parts intinfoR
  have HI := Lib.hid hi
  have HZ0 := Lib.hid hz0
  have HZ1 := Lib.hid hz1
  have HZ2 := Lib.hid hz2
  have H := Lib.hid h
  have HM := Lib.hid hm
  have HM1 := Lib.hid (show ns.length + 1 ≤ maxLen by unfold maxLen; omega)
  have HM2 := Lib.hid (show (ns.length + 1) * 8 ≤ 140737488355328 by omega)
  have HP1 : Hid (∀ w2, AnF B ab gb n (fun j => if j = p + 1 then 1 else wd j) w2 → w.grownBy w2 (some gb) → Hp B hb ab gb bg cp cl cc cf n yt yp hp ht f1 t1 p1 (putW wd (p + 1) 1) bd mk w2) := Lib.hid fun w2 ha hg => h.words _ ha hg
  generalize (p : Int) + 1 = r at *
  clear h hm hi hz0 hz1 hz2 hw hp1
  go_enter Tryd.func136, Tryd.ntmps136
  go_wp2_with fail
  refine KL.out.mono ?_
  rintro e w' ⟨rfl, rfl⟩
  go_wp2_with fail
  refine KS.out.mono ?_
  rintro e w2 ⟨rfl, hA, hg⟩
  have h2 := HP1.out w2 hA hg
  have hm2 := HM.out.grown hg HM.out.lt.2.2.1
  obtain ⟨va, vc, hmk⟩ := own_shapeK hm2.own
  have c14 : w2.cell? ⟨hb, 14, none⟩ = some mk := h2.cell 14
  have H2 := Lib.hid h2
  have HM22 := Lib.hid hm2
  have HB3 : Hid (N ≤ (w2.alloc (.cells #[.int .i64 r] 3)).heap.size) := Lib.hid (by rw [World.size_alloc]; have := hm2.lt.2.2.2.2; omega)
  have HT := Lib.hid (Mks.of_tri (mk := mk) (Tri.of_grown (a := hb) (b := gb) (c := bg) hg (.inr (.inl rfl))))
  subst hmk
  clear KL KS HP1 h2 hm2 hA hg c2
  go_wp2_with (at_builtin; refine wpList_append_own_at _ rfl (.tmp 27) (.tmp 29) 26 rfl N 3 i0 (.int .i64 0) 1 8 Tryd.underlying26 HI.out HZ0.out HZ1.out HZ2.out rfl (by decide) (.slice va ns.length vc) ns.length (ns.map (Value.int .i64)) rfl (HM22.out.own.alloc _) ⟨w2.heap.size, 0, none⟩ 1 1 [.int .i64 r] rfl rfl (cell_one_new _ _ _) (by simp [Value.oneCell']) HM1.out HM2.out HB3.out ?_; intro v5 w5 hown5 hgrow5 hnil5 hat5; obtain ⟨co5, fo5, FA⟩ := mk_app H2.out HM22.out hgrow5 hown5 hat5; obtain ⟨va5, vc5, rfl⟩ := own_shapeK hown5; clear hown5 hgrow5 hnil5 hat5)
  (try simp only [Exit.inBlock, Exit.then])
  refine bodyPost_end (results_none rfl _ _ _) rfl ?_
  exact ⟨_, rfl, FA.out.1, FA.out.2.1, HT.out.trans FA.out.2.2⟩

theorem Mkr.tri {ns : List Int} (h : Mkr N hb ab gb bg cp mk ns w) {w' : World} (ht : Tri hb gb bg w w') : Mkr N hb ab gb bg cp mk ns w' := by
  obtain ⟨l1, l2, l3, l4, l5⟩ := h.lt
  exact ⟨owns_staysH h.own fun k hk hk2 => ht.block k hk2 (by omega) (by omega) (by omega), ⟨l1, l2, l3, l4, Nat.le_trans l5 ht.size⟩, h.cls⟩

set_option maxHeartbeats 1000000 in
set_option maxRecDepth 100000 in
theorem put_mark {ns : List Int} (p : Nat) (kl : Int) (m i q : Nat) (kq : Int) (mq : Nat) (w : World) (h : Hp B hb ab gb bg cp cl cc cf n yt yp hp ht f1 t1 p1 wd bd mk w) (hmk : Mkr N hb ab gb bg cp mk ns w) (hw : wd (p + 1) = 0) (hns : ns.length ≤ 65536) (ho : Obj1 n wd bd cl cf p kl m) (hi : i < m) (hr : refK cf kl i = true)
    (hq : Obj1 n wd bd cl cf q kq mq) (hqy : (q : Int) < yp) (hpy : ¬ (p : Int) < yp) :
    Calls Tryd.prog 75 #[.pointer (some ⟨hb, 0, none⟩), .int .i64 ((p : Int) + 1), .int .i64 i, .int .i64 ((q : Int) + 1)] w
      fun e w' => ∃ mk', e = .returned (.bool true) ∧ Hp B hb ab gb bg cp cl cc cf n yt yp hp ht f1 t1 p1 (putW (putW wd (p + 1) 1) (p + 2 + i) ((q : Int) + 1)) bd mk' w' ∧ Mkr N hb ab gb bg cp mk' (ns ++ [(p : Int) + 1]) w' ∧ Mks hb gb bg mk mk' w w' := by
  have KP := Lib.hid (place_yes p kl m i w h ho hi)
  rw [hr] at KP
  have c2 : w.cell? ⟨hb, 2, none⟩ = some (.pointer (some ⟨ab, 0, none⟩)) := h.cell 2
  have c13 : w.cell? ⟨hb, 13, none⟩ = some (.slice (some ⟨bg, 0, none⟩) n n) := h.cell 13
  have sm := h.sm
  have hql := hq.lt
  have bq := h.bcell q hql
  rw [hq.beg] at bq
  have d1 : decide ((q : Int) + 1 < 0) = false := by simp; omega
  have d2 : decide ((n : Int) < (q : Int) + 1) = false := by simp; omega
  have d3 : ((q : Int) + 1 == 0) = false := by simp; omega
  have d4 : ((q : Int) + 1 != 0) = true := by simp; omega
  have s1 : IntKind.i64.wrap ((q : Int) + 1 - 1) = (q : Int) := by rw [IntWalk.i64_in _ (by omega)]; omega
  have s2 : (q : Int) + 1 - 1 = (q : Int) := by omega
  have KQ := Lib.hid (inYoung_yes q kq mq w h hq)
  have KR := Lib.hid (inYoung_yes p kl m w h ho)
  have hyq : takenB q 0 yp = true := by simp [takenB]; omega
  have hyp : takenB p 0 yp = false := by simp [takenB]; omega
  rw [hyq] at KQ
  rw [hyp] at KR
  have hpf := ho.fit
  have KM := Lib.hid (mark_new p w h hmk (by omega) hw hns)
  have KS : Hid (∀ w1 mk', Hp B hb ab gb bg cp cl cc cf n yt yp hp ht f1 t1 p1 (putW wd (p + 1) 1) bd mk' w1 → Calls Tryd.prog 137 #[.pointer (some ⟨ab, 0, none⟩), .int .i64 ((p + 2 + i : Nat) : Int), .int .i64 ((q : Int) + 1)] w1 (ArnPost B ab gb n (putW (putW wd (p + 1) 1) (p + 2 + i) ((q : Int) + 1)) w1)) :=
    Lib.hid fun w1 mk' h1 => storeI ((p + 2 + i : Nat) : Int) (p + 2 + i) (v := (q : Int) + 1) w1 h1.ar rfl (by omega)
  generalize ((p + 2 + i : Nat) : Int) = z at *
  clear h ho hq hqy hpy hr hyq hyp hmk hw hpf
  go_enter Tryd.func75, Tryd.ntmps75
  go_wp2_with fail
  refine KP.out.mono ?_
  rintro e w' ⟨rfl, rfl⟩
  go_wp2_with fail
  refine KQ.out.mono ?_
  rintro e w' ⟨rfl, rfl⟩
  go_wp2_with fail
  refine KR.out.mono ?_
  rintro e w' ⟨rfl, rfl⟩
  go_wp2_with fail
  refine KM.out.mono ?_
  rintro e w1 ⟨mk', rfl, h1, m1, q1⟩
  have e2 : w1.cell? ⟨hb, 2, none⟩ = some (.pointer (some ⟨ab, 0, none⟩)) := h1.cell 2
  have KS1 := Lib.hid (KS.out w1 mk' h1)
  have H1 := Lib.hid h1
  have M1 := Lib.hid m1
  have Q1 := Lib.hid q1
  clear h1 m1 q1 KS KM c2 c13 bq
  go_wp2_with fail
  refine KS1.out.mono ?_
  rintro e w2 ⟨rfl, hA, hg⟩
  go_wp2_with fail
  go_ret
  exact ⟨mk', rfl, H1.out.words _ hA hg, M1.out.grown hg M1.out.lt.2.2.1, Q1.out.trans (Mks.of_tri (Tri.of_grown hg (.inr (.inl rfl))))⟩
end

end Go.Proofs.YtjffbojgdemooaaDoor

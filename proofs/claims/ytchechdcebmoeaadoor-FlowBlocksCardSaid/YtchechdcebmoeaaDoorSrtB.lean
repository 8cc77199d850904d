/-
  What  stand on.
-/
import Derived.Test.YtchechdcebmoeaaDoorProg
import Derived.Test.YtchechdcebmoeaaDoorKit
import Derived.Test.YtchechdcebmoeaaDoorMem
import Derived.Test.YtchechdcebmoeaaDoorSrtL
import Derived.BigQuiet
import Derived.Deep.DeepCutAuto
import Derived.Deep.QuietTactic
import Derived.Deep.RegionLaw
import Derived.LaidEql
import Derived.LaidSub
import Derived.Laws.AppendOwnNone
import Derived.Maps.AppendAt
import Derived.Outline
import Derived.Stop.LaidErr
namespace Go.Proofs.YtchechdcebmoeaaDoor
open Go.ChangeShapes Go.RowKit

/-- 'append' of a nil slice as one step of a region that draws its order. -/
theorem step_append_none {P : Program} {ops : Array Oper} {o : Oper} {a : Act} {w : World} {K : Act → World → Prop} {Q : Exit → Act → World → Prop} {E : Prop} (hgd : o.guard = none) (s x : Operand) (t : TypeId)
    (ho : o.op = .call { callee := .builtin .append, args := #[s, x], argTypes := #[t, t] })
    (base : Nat) (e : TypeId) (i : TypeInfo) (size : Nat) (ht : P.underlying t = some (.slice e)) (hi : P.info? e = some i)
    (v : Value) (n : Nat) (xs : List Value) (hs : a.eval s = v) (hown : w.ownsRow base e size v n xs) (hx : a.eval x = .slice none 0 0)
    (h : K (a.put o.dst v) w) :
    if Region.wanted o (yielded ops a.tmps) = true then Oper.wp P o a w K Q else E := by
  have hw : Region.wanted o (yielded ops a.tmps) = true := by simp [Region.wanted, hgd]
  rw [if_pos hw]
  have hrun := run_append_owned_none (P := P) (w := w) base t o.type e i size ht hi v n xs hown
  unfold Oper.wp
  simp [execOp, ho, resolve, invoke, builtin, hs, hx, hrun, Result.andThen]
  exact h

theorem intinfo3 : (Tryd.prog.info? 3).map (fun i => (i.zero, i.size, i.bytes)) = some (some (.int .i64 0), 1, 8) := by kernel_rfl

/-- 'append' to what is the call's own, as one step of a region that draws its order. -/
theorem stepS_append_own {P : Program} {ops : Array Oper} {o : Oper} {a : Act} {w : World} {K : Act → World → Prop} {Q : Exit → Act → World → Prop} {E : Prop} (hgd : o.guard = none) (s x : Operand) (t : TypeId)
    (ho : o.op = .call { callee := .builtin .append, args := #[s, x], argTypes := #[t, t] })
    (base : Nat) (e : TypeId) (i : TypeInfo) (z : Value) (size bytes : Nat) (ht : P.underlying t = some (.slice e)) (hi : P.info? e = some i) (hz : i.zero = some z)
    (hsize : i.size = size) (hby : i.bytes = bytes) (hzs : z.cells.size = size) (hsz : 0 < size)
    (v : Value) (n : Nat) (xs : List Value) (hs : a.eval s = v) (hown : w.ownsRow base e size v n xs)
    (ad : Addr) (m c : Nat) (news : List Value) (hx : a.eval x = .slice (some ad) m c) (hl : news.length = m * size) (hnews : ∀ j u, news[j]? = some u → w.cell? (ad.add j) = some u) (h1 : ∀ u ∈ news, u.oneCell' = true)
    (h63 : n + m ≤ maxLen) (hbytes : (n + m) * bytes ≤ 140737488355328) (hbase : base ≤ w.heap.size)
    (h : ∀ v' w', w'.ownsRow base e size v' (n + m) (xs ++ news) → w.grownBy w' v.ownBlock → K (a.put o.dst v') w') :
    if Region.wanted o (yielded ops a.tmps) = true then Oper.wp P o a w K Q else E := by
  have hw : Region.wanted o (yielded ops a.tmps) = true := by simp [Region.wanted, hgd]
  rw [if_pos hw]
  obtain ⟨v', w', hrun, r1, r2, _⟩ := run_append_own (P := P) w base t o.type e i z size bytes ht hi hz hsize hby hzs hsz v n xs hown ad m c news hl hnews h1 h63 hbytes hbase
  unfold Oper.wp
  simp [execOp, ho, resolve, invoke, builtin, hs, hx, hrun, Result.andThen]
  exact h v' w' r1 r2

theorem mk_sort (q : Nat) (h : q ≤ 65536) (w : World) : (Instr.makeSlice 26 (.int .i64 0) (.int .i64 ((q : Int) + 1))).run Tryd.prog w = .ok (.slice (some ⟨w.heap.size, 0, none⟩) 0 (q + 1)) (w.alloc (.cells (madeCells #[.int .i64 0] (q + 1)) 3)) := by
  obtain ⟨i0, hi, hz0, hz1, hz2⟩ := info_parts intinfo3
  have h1 := run_make (P := Tryd.prog) w 26 3 i0 _ Tryd.underlying26 hi hz0 .i64 .i64 0 ((q : Int) + 1) (by omega) (by omega) (by rw [hz2]; omega) (by omega)
  rw [h1, hz1, show ((q : Int) + 1).toNat = q + 1 by omega, Nat.mul_one]
  rfl

theorem own_made (w : World) (B q : Nat) (hB : B ≤ w.heap.size) (hq : q ≤ 65536) : (w.alloc (.cells (madeCells #[.int .i64 0] (q + 1)) 3)).ownsRow B 3 1 (.slice (some ⟨w.heap.size, 0, none⟩) 0 (q + 1)) 0 [] :=
  ⟨rfl, .inr ⟨w.heap.size, q + 1, _, rfl, hB, heap_alloc_new w _, Nat.zero_le _, by unfold maxLen; omega, by rw [size_madeCells]; omega, rfl⟩⟩

theorem own_baseS {B B' : Nat} {w : World} {e size n : Nat} {v : Value} {xs : List Value} (h : w.ownsRow B e size v n xs) (hb : B' ≤ B) : w.ownsRow B' e size v n xs := by
  refine ⟨h.1, ?_⟩
  rcases h.2 with h1 | ⟨g, cap, cur, h1, h2, h3⟩
  · exact .inl h1
  · exact .inr ⟨g, cap, cur, h1, Nat.le_trans hb h2, h3⟩

theorem srt_made {wo w6 : World} {n k0 q : Nat} {v6 : Value} {news : List Value} {X : Obj} (hg : ((wo.drewN n).alloc X).grownBy w6 (Value.ownBlock (.slice (some ⟨(wo.drewN n).heap.size, 0, none⟩) 0 (q + 1)))) (ho : w6.ownsRow wo.heap.size 3 1 v6 (0 + k0) ([] ++ news)) :
    Hid (∀ z, z < wo.heap.size → w6.heap[z]? = wo.heap[z]?) ∧ Hid (wo.heap.size < w6.heap.size) ∧ Hid (w6.ownsRow wo.heap.size 3 1 v6 k0 news) ∧ Hid (w6.os = wo.os ∧ w6.tape = wo.tape ∧ w6.output = wo.output) := by
  refine ⟨Lib.hid (fun z hz => ?_), Lib.hid ?_, Lib.hid (by simpa using ho), Lib.hid ⟨hg.os, hg.tape, hg.output⟩⟩
  · refine (hg.block z (by rw [World.size_alloc]; show z < wo.heap.size + 1; omega) (fun e => ?_)).trans (Below.heap_alloc (wo.drewN n) X z hz)
    have : z = (wo.drewN n).heap.size := Option.some.inj e
    have : z = wo.heap.size := this
    omega
  · have := hg.size
    rw [World.size_alloc] at this
    exact this

theorem srt_one {wo w6 w7 : World} {k0 : Nat} {v6 : Value} {news : List Value} {X : Obj} (h6 : w6.ownsRow wo.heap.size 3 1 v6 k0 news) (hk : ∀ z, z < wo.heap.size → w6.heap[z]? = wo.heap[z]?) (hz : wo.heap.size < w6.heap.size) (hs : w6.os = wo.os ∧ w6.tape = wo.tape ∧ w6.output = wo.output) (hg : (w6.alloc X).grownBy w7 v6.ownBlock) :
    Hid (∀ z, z < wo.heap.size → w7.heap[z]? = wo.heap[z]?) ∧ Hid (wo.heap.size ≤ w7.heap.size) ∧ Hid (w7.os = wo.os ∧ w7.tape = wo.tape ∧ w7.output = wo.output) := by
  refine ⟨Lib.hid (fun z hzz => ?_), Lib.hid ?_, Lib.hid ⟨hg.os.trans hs.1, hg.tape.trans hs.2.1, hg.output.trans hs.2.2⟩⟩
  · refine (hg.block z (by rw [World.size_alloc]; omega) (fun e => ?_)).trans ((Below.heap_alloc w6 X z (by omega)).trans (hk z hzz))
    have := (h6.lt z e.symm).1
    omega
  · have := hg.size
    rw [World.size_alloc] at this
    omega

theorem srt_below {w wo w7 w8 : World} {m : Nat} {v7 : Value} {news : List Value} (hB : Below w.heap.size w wo) (h7 : w7.ownsRow wo.heap.size 3 1 v7 m news) (hk : ∀ z, z < wo.heap.size → w7.heap[z]? = wo.heap[z]?) (hz : wo.heap.size ≤ w7.heap.size) (hos : w7.os = wo.os ∧ w7.tape = wo.tape ∧ w7.output = wo.output) (hg : w7.grownBy w8 v7.ownBlock) : Below w.heap.size w w8 := by
  have hs := hB.size
  refine ⟨hg.os.trans (hos.1.trans hB.os), hg.tape.trans (hos.2.1.trans hB.tape), hg.output.trans (hos.2.2.trans hB.output), Nat.le_trans (Nat.le_trans hs hz) hg.size, fun z hzz => ?_⟩
  refine (hg.block z (by omega) (fun e => ?_)).trans ((hk z (by omega)).trans (hB.block z hzz))
  have := (h7.lt z e.symm).1
  omega

theorem srt_tail {wo w' : World} {g q k0 j : Nat} {o : List Int} {u : Value} (hc : ∀ k, k < q → wo.cell? ⟨g, k, none⟩ = some (.int .i64 (o.getD k 0))) (hq : o.length = q) (hw : ∀ z, z < wo.heap.size → w'.heap[z]? = wo.heap[z]?)
    (hu : ((o.drop k0).map (Value.int .i64))[j]? = some u) : w'.cell? ((⟨g, k0, none⟩ : Addr).add j) = some u := by
  have hj : k0 + j < q := by
    have := (List.getElem?_eq_some_iff.1 hu).1
    simp at this
    omega
  have e : (⟨g, k0, none⟩ : Addr).add j = ⟨g, k0 + j, none⟩ := by
    unfold Addr.add
    split
    · rename_i h0; subst h0; rfl
    · rfl
  have h1 := hc (k0 + j) hj
  have hg := World.block_lt_of_cell? wo _ h1
  rw [e, World.cell?_of_block (w := wo) (a := ⟨g, k0 + j, none⟩) (hw g hg), h1, ← hu, List.getElem?_map, List.getElem?_drop]
  simp [List.getD, show k0 + j < o.length by omega]

theorem srt_first {wo w7 : World} {n q : Nat} {X Y : Obj} (hg : (((wo.drewN n).alloc X).alloc Y).grownBy w7 (Value.ownBlock (.slice (some ⟨(wo.drewN n).heap.size, 0, none⟩) 0 (q + 1)))) :
    Hid (∀ z, z < wo.heap.size → w7.heap[z]? = wo.heap[z]?) ∧ Hid (wo.heap.size ≤ w7.heap.size) ∧ Hid (w7.os = wo.os ∧ w7.tape = wo.tape ∧ w7.output = wo.output) := by
  refine ⟨Lib.hid (fun z hz => ?_), Lib.hid ?_, Lib.hid ⟨hg.os, hg.tape, hg.output⟩⟩
  · refine (hg.block z (by rw [World.size_alloc, World.size_alloc]; show z < wo.heap.size + 1 + 1; omega) (fun e => ?_)).trans ((Below.heap_alloc ((wo.drewN n).alloc X) Y z (by rw [World.size_alloc]; show z < wo.heap.size + 1; omega)).trans (Below.heap_alloc (wo.drewN n) X z hz))
    have : z = (wo.drewN n).heap.size := Option.some.inj e
    have : z = wo.heap.size := this
    omega
  · have := hg.size
    rw [World.size_alloc, World.size_alloc] at this
    have h2 : wo.heap.size + 1 + 1 ≤ w7.heap.size := this
    omega

theorem srt_out {o : List Int} {k0 j : Nat} {u : Value} (hk : o.length ≤ k0) (hu : ((o.drop k0).map (Value.int .i64))[j]? = some u) : False := by
  rw [List.drop_eq_nil_of_le hk] at hu
  simp at hu

theorem srt_head {wo : World} {g q k0 n : Nat} {o : List Int} {X : Obj} {j : Nat} {u : Value} (hc : ∀ k, k < q → wo.cell? ⟨g, k, none⟩ = some (.int .i64 (o.getD k 0))) (hk : k0 ≤ q ∧ k0 ≤ o.length) (hg : g < wo.heap.size)
    (hu : ((o.take k0).map (Value.int .i64))[j]? = some u) : ((wo.drewN n).alloc X).cell? ((⟨g, 0, none⟩ : Addr).add j) = some u := by
  have hj : j < k0 := by
    have := (List.getElem?_eq_some_iff.1 hu).1
    simp at this
    omega
  have e : (⟨g, 0, none⟩ : Addr).add j = ⟨g, j, none⟩ := by
    unfold Addr.add
    split
    · rename_i h0; rw [h0]
    · simp
  have hb : Below wo.heap.size wo ((wo.drewN n).alloc X) := (below_drewN (Below.refl _ wo) n).alloc (Nat.le_refl _) _
  rw [e, hb.cell (p := ⟨g, j, none⟩) hg, hc j (by omega), ← hu, List.getElem?_map, List.getElem?_take_of_lt hj]
  simp [List.getD, show j < o.length by omega]

def SortPost (zs : List Int) (w : World) (e : Ending) (w' : World) : Prop :=
  ∃ v, e = .returned v ∧ w'.ownsRow w.heap.size 3 1 v (sortU zs).length ((sortU zs).map (Value.int .i64)) ∧ Below w.heap.size w w'

def SortRel (zs : List Int) (len : Nat) (w : World) (sv si : Value) (wr : World) : Prop :=
  ∃ i : Nat, i ≤ len ∧ si = .int .i64 i ∧ wr.ownsRow w.heap.size 3 1 sv (sortU (zs.take i)).length ((sortU (zs.take i)).map (Value.int .i64)) ∧ ((sortU (zs.take i)).length = 0 → sv = .slice none 0 0) ∧ Below w.heap.size w wr

theorem own_shapeS {B : Nat} {w : World} {e size n : Nat} {v : Value} {xs : List Value} (h : w.ownsRow B e size v n xs) : ∃ a c, v = .slice a n c := by
  rcases h.2 with ⟨rfl, h1⟩ | ⟨g, cap, cur, h1, h2, h3⟩
  · exact ⟨none, 0, by rw [h1]⟩
  · exact ⟨_, _, h1⟩

theorem take_snocS (zs : List Int) (i : Nat) (h : i < zs.length) : zs.take (i + 1) = zs.take i ++ [zs.getD i 0] := by rw [List.take_add_one]; simp [List.getD, h]

theorem own_cap {B g n c e : Nat} {w : World} {xs : List Value} (h : w.ownsRow B e 1 (.slice (some ⟨g, 0, none⟩) n c) n xs) : n ≤ c ∧ c ≤ maxLen := by
  rcases h.2 with ⟨h, _⟩ | ⟨g', cap', cur, h, _, _, hnc, hcm, _⟩
  · cases h
  · cases h; exact ⟨hnc, hcm⟩

set_option maxHeartbeats 4000000 in
set_option maxRecDepth 100000 in
theorem sorted_any (a : Option Addr) (len cap : Nat) (zs : List Int) (w : World) (hr : Row .i64 w a len cap zs) (h1000 : len ≤ 60000) :
    Calls Tryd.prog 23 #[.slice a len cap] w (SortPost zs w) := by
  have hln := hr.len_eq
  have hmax := hr.max
  have hle := hr.le
  unfold maxLen at hmax
  have HR := Lib.hid hr
  have HL := Lib.hid hln
  clear hr hln
  obtain ⟨i0, hi, hz0, hz1, hz2⟩ := info_parts intinfo3
  have HI := Lib.hid hi
  have HZ0 := Lib.hid hz0
  have HZ1 := Lib.hid hz1
  have HZ2 := Lib.hid hz2
  clear hi hz0 hz1 hz2
  have S0 : Hid (SortRel zs len w (.slice none 0 0) (.int .i64 0) w) := Lib.hid ⟨0, Nat.zero_le _, rfl, World.ownsRow_nil _ _ _ _, fun _ => rfl, Below.refl _ _⟩
  go_enter Tryd.func23, Tryd.ntmps23
  go_wp2_with fail
  go_loopw [3, 4] (fun sv si wr => SortRel zs len w sv si wr) (fun _ si _ => len - (intOf si).toNat)
  case atStart => exact S0.out
  case round =>
    clear S0
    obtain ⟨i, hi, rfl, hown, hnil, hB⟩ := hrel
    by_cases hlt : i < len
    · obtain ⟨lb, lo, rfl, hcell⟩ := Row_at HR.out (by omega)
      have hblk : lb < w.heap.size := Row_lt HR.out (by omega) ⟨lb, lo, none⟩ rfl
      have cx : wr.cell? ⟨lb, lo + i, none⟩ = some (.int .i64 (zs.getD i 0)) := (hB.cell (p := ⟨lb, lo + i, none⟩) hblk).trans (hcell i hlt)
      have hil : i < zs.length := by rw [HL.out]; exact hlt
      have hsn := take_snocS zs i hil
      have hso : sortU (zs.take (i + 1)) = insU (zs.getD i 0) (sortU (zs.take i)) := by rw [hsn, sortU_snoc]
      have hol : (sortU (zs.take i)).length ≤ i := Nat.le_trans (sortU_len _) (by simp; omega)
      generalize zs.getD i 0 = x at *
      generalize ho : sortU (zs.take i) = o at *
      have HSO := Lib.hid hso
      clear hcell hsn hso hil ho
      obtain ⟨wo, rfl⟩ : ∃ wo : World, wo = wr := ⟨_, rfl⟩
      have HB := Lib.hid hB
      have HOWN := Lib.hid hown
      have t1 : decide (i < len) = true := by simpa using hlt
      have hk0 := lessN_le x o
      obtain ⟨q, hq⟩ : ∃ q, o.length = q := ⟨_, rfl⟩
      rw [hq] at hown hnil hol hk0 HOWN
      have HQ := Lib.hid hq
      clear hq hB
      by_cases hq0 : q = 0
      · obtain rfl := hnil hq0
        subst hq0
        have ho0 : o = [] := List.eq_nil_of_length_eq_zero HQ.out
        subst ho0
        have HIX : Hid (sortU (zs.take (i + 1)) = [x]) := Lib.hid HSO.out
        have OM : Hid (∀ n, ((wo.drewN n).alloc (.cells (madeCells #[.int .i64 0] (0 + 1)) 3)).ownsRow wo.heap.size 3 1 (.slice (some ⟨(wo.drewN n).heap.size, 0, none⟩) 0 (0 + 1)) 0 []) := Lib.hid (fun n => own_made _ _ _ (Nat.le_refl _) (by omega))
        have HCX := Lib.hid cx
        have HLB : Hid (lb < wo.heap.size) := Lib.hid (by have := HB.out.size; omega)
        have HM4 := Lib.hid (show 0 + 1 ≤ maxLen by unfold maxLen; omega)
        have HM5 := Lib.hid (show (0 + 1) * 8 ≤ 140737488355328 by omega)
        clear hown hnil hol hk0
        go_wp2_with fail
        go_loopw [5] (fun sk wr => sk = .int .i64 0 ∧ ∃ n, wr = wo.drewN n) (fun sk _ => 0)
        case atStart => exact ⟨rfl, 0, rfl⟩
        case round =>
          obtain ⟨rfl, n, rfl⟩ := hrel
          go_wp2_with fail
          go_quiet (fail)
          all_goals go_wp2_with fail
          all_goals go_quiet (fail)
          all_goals go_wp2_with fail
          have s1 : IntKind.i64.wrap 1 = 1 := by decide
          have mk : ∀ w, (Instr.makeSlice 26 (.int .i64 0) (.int .i64 1)).run Tryd.prog w = .ok (.slice (some ⟨w.heap.size, 0, none⟩) 0 1) (w.alloc (.cells (madeCells #[.int .i64 0] (0 + 1)) 3)) := fun w => mk_sort 0 (by omega) w
          go_region_law (first | (refine step_append_none rfl (.tmp 48) (.tmp 51) 26 rfl wo.heap.size 3 i0 1 Tryd.underlying26 HI.out (.slice (some ⟨_, 0, none⟩) 0 (0 + 1)) 0 [] (by simp [Act.eval]) (OM.out _) (by simp [Act.eval]) ?_))
          all_goals
            have cx9 : ∀ n, ((wo.drewN n).alloc (.cells (madeCells #[.int .i64 0] 1) 3)).cell? ⟨lb, lo + i, none⟩ = some (.int .i64 x) := fun n => (((below_drewN (Below.refl _ wo) n).alloc (Nat.le_refl _) _).cell (p := ⟨lb, lo + i, none⟩) HLB.out).trans HCX.out
            have HCN : Hid (∀ n (j : Nat) (u : Value), [Value.int .i64 x][j]? = some u → (((wo.drewN n).alloc (.cells (madeCells #[.int .i64 0] 1) 3)).alloc (.cells #[.int .i64 x] 3)).cell? ((⟨wo.heap.size + 1, 0, none⟩ : Addr).add j) = some u) := Lib.hid (fun n => by
              have h := cell_one_new ((wo.drewN n).alloc (.cells (madeCells #[.int .i64 0] 1) 3)) (.int .i64 x) 3
              rw [World.size_alloc] at h
              exact h)
            have HM6 : Hid (∀ n, wo.heap.size ≤ (((wo.drewN n).alloc (.cells (madeCells #[.int .i64 0] (0 + 1)) 3)).alloc (.cells #[.int .i64 x] 3)).heap.size) := Lib.hid (fun n => by rw [World.size_alloc, World.size_alloc]; show wo.heap.size ≤ wo.heap.size + 1 + 1; omega)
            clear mk
            go_wp2_with (first | (at_builtin; refine wpList_append_own _ rfl (.tmp 53) (.tmp 58) 26 rfl wo.heap.size 3 i0 (.int .i64 0) 1 8 Tryd.underlying26 HI.out HZ0.out HZ1.out HZ2.out rfl (by decide) (.slice (some ⟨_, 0, none⟩) 0 (0 + 1)) 0 [] rfl ((OM.out _).alloc _) ⟨_, 0, none⟩ 1 1 [.int .i64 x] rfl rfl (HCN.out _) (by simp [Value.oneCell']) HM4.out HM5.out (HM6.out _) ?_; intro v7 w7 hown7 hgrow7 hnil7; obtain ⟨K7, Z7, S7⟩ := srt_first hgrow7; have O7 := Lib.hid hown7; clear hown7 hgrow7 hnil7) | (at_builtin; refine wpList_append_own_none rfl (.tmp 60) (.tmp 63) 26 rfl wo.heap.size 3 i0 1 Tryd.underlying26 HI.out v7 (0 + 1) ([] ++ [.int .i64 x]) rfl O7.out rfl ?_))
            go_roundw
            case rel => exact ⟨i + 1, by omega, by go_num, by rw [HIX.out]; exact own_baseS O7.out HB.out.size, (by rw [HIX.out]; intro h; cases h), ⟨S7.out.1.trans HB.out.os, S7.out.2.1.trans HB.out.tape, S7.out.2.2.trans HB.out.output, Nat.le_trans HB.out.size Z7.out, fun z hz => (K7.out z (Nat.lt_of_lt_of_le hz HB.out.size)).trans (HB.out.block z hz)⟩⟩
            case measure => simp [intOf]; omega
      · obtain ⟨g, c, rfl⟩ := own_form hown (by omega)
        obtain ⟨hqc, hcm⟩ := own_cap hown
        unfold maxLen at hcm
        have hcells : ∀ k, k < q → wo.cell? ⟨g, k, none⟩ = some (.int .i64 (o.getD k 0)) := fun k hk => by
          rw [hown.cellAt k (by omega), List.getElem?_map]
          simp [List.getD, show k < o.length by rw [HQ.out]; exact hk]
        have HC := Lib.hid hcells
        clear hown hnil hcells
        go_wp2_with fail
        go_loopw [5] (fun sk wr => ∃ k : Nat, k ≤ lessN x o ∧ sk = .int .i64 k ∧ ∃ n, wr = wo.drewN n) (fun sk _ => q - (intOf sk).toNat)
        case atStart => exact ⟨0, Nat.zero_le _, rfl, 0, rfl⟩
        case round =>
          obtain ⟨k, hk, rfl, n, rfl⟩ := hrel
          by_cases hkl : k < lessN x o
          · have hkq : k < q := by omega
            have cy := HC.out k hkq
            have hyx := lessN_lt x o k hkl
            generalize o.getD k 0 = y at *
            have t2 : decide (k < q) = true := by simpa using hkq
            have t3 : decide (y < x) = true := by simpa using hyx
            have HKL := Lib.hid hkl
            clear hkl
            go_wp2_with fail
            go_quiet (fail)
            all_goals go_wp2_with fail
            all_goals
              go_roundw
              case rel => exact ⟨k + 1, by have := HKL.out; omega, by go_num, n + nq, rfl⟩
              case measure => simp [intOf]; omega
          · obtain rfl : k = lessN x o := by omega
            have hat := lessN_at x o
            have hie := insU_eq x o
            have hin := insU_ne x o
            generalize lessN x o = k0 at *
            rw [HQ.out] at hat hie hin
            have HIE := Lib.hid hie
            have HIN := Lib.hid hin
            clear hkl hie hin
            by_cases hkq : k0 < q
            · have cy := HC.out k0 hkq
              have hyx := hat hkq
              have t2 : decide (k0 < q) = true := by simpa using hkq
              generalize hyy : o.getD k0 0 = y at *
              have HYY := Lib.hid hyy
              have t3 : decide (y < x) = false := by simpa using hyx
              clear hyy hat
              by_cases hyx2 : y = x
              · have t4 : (y == x) = true := by simpa using hyx2
                have HEQ := Lib.hid (HIE.out hkq hyx2)
                have HSH := Lib.hid (show (0 : Nat) < q by omega)
                clear hyx2 hyx
                go_wp2_with fail
                go_quiet (fail)
                all_goals go_wp2_with fail
                all_goals go_quiet (fail)
                all_goals go_wp2_with fail
                all_goals
                  go_roundw
                  case rel => exact ⟨i + 1, by omega, by go_num, by rw [HSO.out, HEQ.out, HQ.out]; exact HOWN.out, by rw [HSO.out, HEQ.out, HQ.out]; intro h; have := HSH.out; omega, ⟨HB.out.os, HB.out.tape, HB.out.output, HB.out.size, HB.out.block⟩⟩
                  case measure => simp [intOf]; omega
              · have t4 : (y == x) = false := by simpa using hyx2
                have HEQ := Lib.hid (HIN.out (fun h => hyx2 h.2))
                clear hyx2 hyx
                go_wp2_with fail
                go_quiet (fail)
                all_goals go_wp2_with fail
                all_goals go_quiet (fail)
                all_goals go_wp2_with fail
                have HGL := Lib.hid (show g < wo.heap.size by exact World.block_lt_of_cell? wo _ cy)
                clear cy
                have HD1 := Lib.hid (show (((o.drop k0).map (Value.int .i64))).length = (q - k0) * 1 by simp; have := HQ.out; omega)
                have HD2 : Hid (∀ w' : World, (∀ z, z < wo.heap.size → w'.heap[z]? = wo.heap[z]?) → ∀ j u, ((o.drop k0).map (Value.int .i64))[j]? = some u → w'.cell? ((⟨g, k0, none⟩ : Addr).add j) = some u) := Lib.hid (fun w' hw' j u hu => srt_tail HC.out HQ.out hw' hu)
                have HD3 := Lib.hid (ints_oneCell .i64 (o.drop k0))
                have HD4 := Lib.hid (show k0 + 1 + (q - k0) ≤ maxLen by unfold maxLen; omega)
                have HD5 := Lib.hid (show (k0 + 1 + (q - k0)) * 8 ≤ 140737488355328 by omega)
                have HM4 := Lib.hid (show k0 + 1 ≤ maxLen by unfold maxLen; omega)
                have HM5 := Lib.hid (show (k0 + 1) * 8 ≤ 140737488355328 by omega)
                have HSUM : Hid ((o.take k0).map (Value.int .i64) ++ [.int .i64 x] ++ (o.drop k0).map (Value.int .i64) = (sortU (zs.take (i + 1))).map (Value.int .i64) ∧ k0 + 1 + (q - k0) = (sortU (zs.take (i + 1))).length) := Lib.hid (by
                  rw [HSO.out, HEQ.out]
                  refine ⟨by simp, ?_⟩
                  have := HQ.out
                  simp
                  omega)
                have HCX := Lib.hid cx
                have HLB : Hid (lb < wo.heap.size) := Lib.hid (by have := HB.out.size; omega)
                have hck : ¬ c = k0 := by omega
                have HN1 := Lib.hid (show (((o.take k0).map (Value.int .i64))).length = k0 * 1 by simp; have := HQ.out; omega)
                have HN2 : Hid (∀ n j u, ((o.take k0).map (Value.int .i64))[j]? = some u → ((wo.drewN n).alloc (.cells (madeCells #[.int .i64 0] (q + 1)) 3)).cell? ((⟨g, 0, none⟩ : Addr).add j) = some u) := Lib.hid (fun n j u hu => srt_head (HC.out) (by have := HQ.out; omega) HGL.out hu)
                have HN3 := Lib.hid (ints_oneCell .i64 (o.take k0))
                have HM1 := Lib.hid (show 0 + k0 ≤ maxLen by unfold maxLen; omega)
                have HM2 := Lib.hid (show (0 + k0) * 8 ≤ 140737488355328 by omega)
                have HM3 : Hid (∀ n, wo.heap.size ≤ ((wo.drewN n).alloc (.cells (madeCells #[.int .i64 0] (q + 1)) 3)).heap.size) := Lib.hid (fun n => by rw [World.size_alloc]; show wo.heap.size ≤ wo.heap.size + 1; omega)
                have mk := mk_sort q (by omega)
                have hkc : k0 ≤ c := by omega
                have OM : Hid (∀ n, ((wo.drewN n).alloc (.cells (madeCells #[.int .i64 0] (q + 1)) 3)).ownsRow wo.heap.size 3 1 (.slice (some ⟨(wo.drewN n).heap.size, 0, none⟩) 0 (q + 1)) 0 []) := Lib.hid (fun n => own_made _ _ _ (Nat.le_refl _) (by omega))
                have s1 : IntKind.i64.wrap ((q : Int) + 1) = (q : Int) + 1 := IntWalk.i64_in _ (by omega)
                generalize hnews : (o.take k0).map (Value.int .i64) = news at *
                clear hnews
                go_region_law (first | (refine stepS_append_own rfl (.tmp 48) (.tmp 51) 26 rfl wo.heap.size 3 i0 (.int .i64 0) 1 8 Tryd.underlying26 HI.out HZ0.out HZ1.out HZ2.out rfl (by decide) (.slice (some ⟨_, 0, none⟩) 0 (q + 1)) 0 [] (by simp [Act.eval]) (OM.out _) ⟨g, 0, none⟩ k0 c news (by simp [Act.eval]) HN1.out (HN2.out _) HN3.out HM1.out HM2.out (HM3.out _) ?_; intro v6 w6 hown6 hgrow6))
                all_goals
                  obtain ⟨K6, Z6, O6, S6⟩ := srt_made hgrow6 hown6
                  have cx6 : w6.cell? ⟨lb, lo + i, none⟩ = some (.int .i64 x) := (World.cell?_of_block (w := wo) (a := ⟨lb, lo + i, none⟩) (K6.out lb HLB.out)).trans HCX.out
                  have HM6 : Hid (wo.heap.size ≤ (w6.alloc (.cells #[.int .i64 x] 3)).heap.size) := Lib.hid (by have := Z6.out; rw [World.size_alloc]; omega)
                  clear hgrow6 hown6 mk
                  go_wp2_with (first | (at_builtin; refine wpList_append_own _ rfl (.tmp 53) (.tmp 58) 26 rfl wo.heap.size 3 i0 (.int .i64 0) 1 8 Tryd.underlying26 HI.out HZ0.out HZ1.out HZ2.out rfl (by decide) _ k0 news rfl (O6.out.alloc _) ⟨w6.heap.size, 0, none⟩ 1 1 [.int .i64 x] rfl rfl (cell_one_new _ _ _) (by simp [Value.oneCell']) HM4.out HM5.out HM6.out ?_; intro v7 w7 hown7 hgrow7 hnil7; obtain ⟨K7, Z7, S7⟩ := srt_one O6.out K6.out Z6.out S6.out hgrow7; have O7 := Lib.hid hown7; clear hown7 hgrow7 hnil7) | (at_builtin; refine wpList_append_own _ rfl (.tmp 60) (.tmp 63) 26 rfl wo.heap.size 3 i0 (.int .i64 0) 1 8 Tryd.underlying26 HI.out HZ0.out HZ1.out HZ2.out rfl (by decide) v7 (k0 + 1) (news ++ [.int .i64 x]) rfl O7.out ⟨g, k0, none⟩ (q - k0) (c - k0) ((o.drop k0).map (Value.int .i64)) rfl HD1.out (HD2.out w7 K7.out) HD3.out HD4.out HD5.out Z7.out ?_; intro v8 w8 hown8 hgrow8 hnil8))
                  go_roundw
                  case rel => exact ⟨i + 1, by omega, by go_num, by rw [← HSUM.out.1, ← HSUM.out.2]; exact own_baseS hown8 HB.out.size, by rw [← HSUM.out.2]; intro h; omega, srt_below HB.out O7.out K7.out Z7.out S7.out hgrow8⟩
                  case measure => simp [intOf]; omega
            · have hkq2 : k0 = q := by omega
              have t2 : decide (k0 < q) = false := by simp; omega
              have HEQ := Lib.hid (HIN.out (fun h => hkq h.1))
              have HGL := Lib.hid (show g < wo.heap.size by exact World.block_lt_of_cell? wo _ (HC.out 0 (by omega)))
              have HK2 := Lib.hid hkq2
              clear hkq hat hkq2
              go_wp2_with fail
              go_quiet (fail)
              all_goals go_wp2_with fail
              all_goals go_quiet (fail)
              all_goals go_wp2_with fail
              by_cases hck : c = k0
              · have HK3 := HK2.out
                subst hck
                have HD1 := Lib.hid (show (((o.drop c).map (Value.int .i64))).length = (q - c) * 1 by simp; have := HQ.out; omega)
                have HD2 : Hid (∀ w' : World, (∀ z, z < wo.heap.size → w'.heap[z]? = wo.heap[z]?) → ∀ j u, ((o.drop c).map (Value.int .i64))[j]? = some u → w'.cell? ((⟨g, 0, none⟩ : Addr).add j) = some u) := Lib.hid (fun w' hw' j u hu => (srt_out (by have := HQ.out; omega) hu).elim)
                have HD3 := Lib.hid (ints_oneCell .i64 (o.drop c))
                have HD4 := Lib.hid (show c + 1 + (q - c) ≤ maxLen by have := HK2.out; unfold maxLen; omega)
                have HD5 := Lib.hid (show (c + 1 + (q - c)) * 8 ≤ 140737488355328 by omega)
                have HM4 := Lib.hid (show c + 1 ≤ maxLen by unfold maxLen; omega)
                have HM5 := Lib.hid (show (c + 1) * 8 ≤ 140737488355328 by omega)
                have HSUM : Hid ((o.take c).map (Value.int .i64) ++ [.int .i64 x] ++ (o.drop c).map (Value.int .i64) = (sortU (zs.take (i + 1))).map (Value.int .i64) ∧ c + 1 + (q - c) = (sortU (zs.take (i + 1))).length) := Lib.hid (by
                  rw [HSO.out, HEQ.out]
                  refine ⟨by simp, ?_⟩
                  have := HQ.out
                  simp
                  omega)
                have HCX := Lib.hid cx
                have HLB : Hid (lb < wo.heap.size) := Lib.hid (by have := HB.out.size; omega)
                have HN1 := Lib.hid (show (((o.take c).map (Value.int .i64))).length = c * 1 by simp; have := HQ.out; omega)
                have HN2 : Hid (∀ n j u, ((o.take c).map (Value.int .i64))[j]? = some u → ((wo.drewN n).alloc (.cells (madeCells #[.int .i64 0] (q + 1)) 3)).cell? ((⟨g, 0, none⟩ : Addr).add j) = some u) := Lib.hid (fun n j u hu => srt_head (HC.out) (by have := HQ.out; omega) HGL.out hu)
                have HN3 := Lib.hid (ints_oneCell .i64 (o.take c))
                have HM1 := Lib.hid (show 0 + c ≤ maxLen by unfold maxLen; omega)
                have HM2 := Lib.hid (show (0 + c) * 8 ≤ 140737488355328 by omega)
                have HM3 : Hid (∀ n, wo.heap.size ≤ ((wo.drewN n).alloc (.cells (madeCells #[.int .i64 0] (q + 1)) 3)).heap.size) := Lib.hid (fun n => by rw [World.size_alloc]; show wo.heap.size ≤ wo.heap.size + 1; omega)
                have mk := mk_sort q (by omega)
                clear HK3 hqc
                have OM : Hid (∀ n, ((wo.drewN n).alloc (.cells (madeCells #[.int .i64 0] (q + 1)) 3)).ownsRow wo.heap.size 3 1 (.slice (some ⟨(wo.drewN n).heap.size, 0, none⟩) 0 (q + 1)) 0 []) := Lib.hid (fun n => own_made _ _ _ (Nat.le_refl _) (by omega))
                have s1 : IntKind.i64.wrap ((q : Int) + 1) = (q : Int) + 1 := IntWalk.i64_in _ (by omega)
                generalize hnews : (o.take c).map (Value.int .i64) = news at *
                clear hnews
                go_region_law (first | (refine stepS_append_own rfl (.tmp 48) (.tmp 51) 26 rfl wo.heap.size 3 i0 (.int .i64 0) 1 8 Tryd.underlying26 HI.out HZ0.out HZ1.out HZ2.out rfl (by decide) (.slice (some ⟨_, 0, none⟩) 0 (q + 1)) 0 [] (by simp [Act.eval]) (OM.out _) ⟨g, 0, none⟩ c c news (by simp [Act.eval]) HN1.out (HN2.out _) HN3.out HM1.out HM2.out (HM3.out _) ?_; intro v6 w6 hown6 hgrow6))
                all_goals
                  obtain ⟨K6, Z6, O6, S6⟩ := srt_made hgrow6 hown6
                  have cx6 : w6.cell? ⟨lb, lo + i, none⟩ = some (.int .i64 x) := (World.cell?_of_block (w := wo) (a := ⟨lb, lo + i, none⟩) (K6.out lb HLB.out)).trans HCX.out
                  have HM6 : Hid (wo.heap.size ≤ (w6.alloc (.cells #[.int .i64 x] 3)).heap.size) := Lib.hid (by have := Z6.out; rw [World.size_alloc]; omega)
                  clear hgrow6 hown6 mk
                  go_wp2_with (first | (at_builtin; refine wpList_append_own _ rfl (.tmp 53) (.tmp 58) 26 rfl wo.heap.size 3 i0 (.int .i64 0) 1 8 Tryd.underlying26 HI.out HZ0.out HZ1.out HZ2.out rfl (by decide) _ c news rfl (O6.out.alloc _) ⟨w6.heap.size, 0, none⟩ 1 1 [.int .i64 x] rfl rfl (cell_one_new _ _ _) (by simp [Value.oneCell']) HM4.out HM5.out HM6.out ?_; intro v7 w7 hown7 hgrow7 hnil7; obtain ⟨K7, Z7, S7⟩ := srt_one O6.out K6.out Z6.out S6.out hgrow7; have O7 := Lib.hid hown7; clear hown7 hgrow7 hnil7) | (at_builtin; refine wpList_append_own _ rfl (.tmp 60) (.tmp 63) 26 rfl wo.heap.size 3 i0 (.int .i64 0) 1 8 Tryd.underlying26 HI.out HZ0.out HZ1.out HZ2.out rfl (by decide) v7 (c + 1) (news ++ [.int .i64 x]) rfl O7.out ⟨g, 0, none⟩ (q - c) _ ((o.drop c).map (Value.int .i64)) rfl HD1.out (HD2.out w7 K7.out) HD3.out HD4.out HD5.out Z7.out ?_; intro v8 w8 hown8 hgrow8 hnil8))
                  go_roundw
                  case rel => exact ⟨i + 1, by omega, by go_num, by rw [← HSUM.out.1, ← HSUM.out.2]; exact own_baseS hown8 HB.out.size, by rw [← HSUM.out.2]; intro h; omega, srt_below HB.out O7.out K7.out Z7.out S7.out hgrow8⟩
                  case measure => simp [intOf]; omega
              · have HK3 := HK2.out
                have HD1 := Lib.hid (show (((o.drop k0).map (Value.int .i64))).length = (q - k0) * 1 by simp; have := HQ.out; omega)
                have HD2 : Hid (∀ w' : World, (∀ z, z < wo.heap.size → w'.heap[z]? = wo.heap[z]?) → ∀ j u, ((o.drop k0).map (Value.int .i64))[j]? = some u → w'.cell? ((⟨g, k0, none⟩ : Addr).add j) = some u) := Lib.hid (fun w' hw' j u hu => (srt_out (by have := HQ.out; omega) hu).elim)
                have HD3 := Lib.hid (ints_oneCell .i64 (o.drop k0))
                have HD4 := Lib.hid (show k0 + 1 + (q - k0) ≤ maxLen by unfold maxLen; omega)
                have HD5 := Lib.hid (show (k0 + 1 + (q - k0)) * 8 ≤ 140737488355328 by omega)
                have HM4 := Lib.hid (show k0 + 1 ≤ maxLen by unfold maxLen; omega)
                have HM5 := Lib.hid (show (k0 + 1) * 8 ≤ 140737488355328 by omega)
                have HSUM : Hid ((o.take k0).map (Value.int .i64) ++ [.int .i64 x] ++ (o.drop k0).map (Value.int .i64) = (sortU (zs.take (i + 1))).map (Value.int .i64) ∧ k0 + 1 + (q - k0) = (sortU (zs.take (i + 1))).length) := Lib.hid (by
                  rw [HSO.out, HEQ.out]
                  refine ⟨by simp, ?_⟩
                  have := HQ.out
                  simp
                  omega)
                have HCX := Lib.hid cx
                have HLB : Hid (lb < wo.heap.size) := Lib.hid (by have := HB.out.size; omega)
                have HN1 := Lib.hid (show (((o.take k0).map (Value.int .i64))).length = k0 * 1 by simp; have := HQ.out; omega)
                have HN2 : Hid (∀ n j u, ((o.take k0).map (Value.int .i64))[j]? = some u → ((wo.drewN n).alloc (.cells (madeCells #[.int .i64 0] (q + 1)) 3)).cell? ((⟨g, 0, none⟩ : Addr).add j) = some u) := Lib.hid (fun n j u hu => srt_head (HC.out) (by have := HQ.out; omega) HGL.out hu)
                have HN3 := Lib.hid (ints_oneCell .i64 (o.take k0))
                have HM1 := Lib.hid (show 0 + k0 ≤ maxLen by unfold maxLen; omega)
                have HM2 := Lib.hid (show (0 + k0) * 8 ≤ 140737488355328 by omega)
                have HM3 : Hid (∀ n, wo.heap.size ≤ ((wo.drewN n).alloc (.cells (madeCells #[.int .i64 0] (q + 1)) 3)).heap.size) := Lib.hid (fun n => by rw [World.size_alloc]; show wo.heap.size ≤ wo.heap.size + 1; omega)
                have mk := mk_sort q (by omega)
                have hkc : k0 ≤ c := by omega
                clear HK3
                have OM : Hid (∀ n, ((wo.drewN n).alloc (.cells (madeCells #[.int .i64 0] (q + 1)) 3)).ownsRow wo.heap.size 3 1 (.slice (some ⟨(wo.drewN n).heap.size, 0, none⟩) 0 (q + 1)) 0 []) := Lib.hid (fun n => own_made _ _ _ (Nat.le_refl _) (by omega))
                have s1 : IntKind.i64.wrap ((q : Int) + 1) = (q : Int) + 1 := IntWalk.i64_in _ (by omega)
                generalize hnews : (o.take k0).map (Value.int .i64) = news at *
                clear hnews
                go_region_law (first | (refine stepS_append_own rfl (.tmp 48) (.tmp 51) 26 rfl wo.heap.size 3 i0 (.int .i64 0) 1 8 Tryd.underlying26 HI.out HZ0.out HZ1.out HZ2.out rfl (by decide) (.slice (some ⟨_, 0, none⟩) 0 (q + 1)) 0 [] (by simp [Act.eval]) (OM.out _) ⟨g, 0, none⟩ k0 c news (by simp [Act.eval]) HN1.out (HN2.out _) HN3.out HM1.out HM2.out (HM3.out _) ?_; intro v6 w6 hown6 hgrow6))
                all_goals
                  obtain ⟨K6, Z6, O6, S6⟩ := srt_made hgrow6 hown6
                  have cx6 : w6.cell? ⟨lb, lo + i, none⟩ = some (.int .i64 x) := (World.cell?_of_block (w := wo) (a := ⟨lb, lo + i, none⟩) (K6.out lb HLB.out)).trans HCX.out
                  have HM6 : Hid (wo.heap.size ≤ (w6.alloc (.cells #[.int .i64 x] 3)).heap.size) := Lib.hid (by have := Z6.out; rw [World.size_alloc]; omega)
                  clear hgrow6 hown6 mk
                  go_wp2_with (first | (at_builtin; refine wpList_append_own _ rfl (.tmp 53) (.tmp 58) 26 rfl wo.heap.size 3 i0 (.int .i64 0) 1 8 Tryd.underlying26 HI.out HZ0.out HZ1.out HZ2.out rfl (by decide) _ k0 news rfl (O6.out.alloc _) ⟨w6.heap.size, 0, none⟩ 1 1 [.int .i64 x] rfl rfl (cell_one_new _ _ _) (by simp [Value.oneCell']) HM4.out HM5.out HM6.out ?_; intro v7 w7 hown7 hgrow7 hnil7; obtain ⟨K7, Z7, S7⟩ := srt_one O6.out K6.out Z6.out S6.out hgrow7; have O7 := Lib.hid hown7; clear hown7 hgrow7 hnil7) | (at_builtin; refine wpList_append_own _ rfl (.tmp 60) (.tmp 63) 26 rfl wo.heap.size 3 i0 (.int .i64 0) 1 8 Tryd.underlying26 HI.out HZ0.out HZ1.out HZ2.out rfl (by decide) v7 (k0 + 1) (news ++ [.int .i64 x]) rfl O7.out ⟨g, k0, none⟩ (q - k0) (c - k0) ((o.drop k0).map (Value.int .i64)) rfl HD1.out (HD2.out w7 K7.out) HD3.out HD4.out HD5.out Z7.out ?_; intro v8 w8 hown8 hgrow8 hnil8))
                  go_roundw
                  case rel => exact ⟨i + 1, by omega, by go_num, by rw [← HSUM.out.1, ← HSUM.out.2]; exact own_baseS hown8 HB.out.size, by rw [← HSUM.out.2]; intro h; omega, srt_below HB.out O7.out K7.out Z7.out S7.out hgrow8⟩
                  case measure => simp [intOf]; omega
    · obtain rfl : i = len := by omega
      have t1 : decide (i < i) = false := by simp
      rw [List.take_of_length_le (by rw [HL.out]; exact Nat.le_refl _)] at hown
      obtain ⟨va, vc, rfl⟩ := own_shapeS hown
      have HO := Lib.hid hown
      have HB := Lib.hid hB
      clear hown hnil hB
      go_wp2_with fail
      go_ret
      exact ⟨_, rfl, HO.out, HB.out⟩

end Go.Proofs.YtchechdcebmoeaaDoor

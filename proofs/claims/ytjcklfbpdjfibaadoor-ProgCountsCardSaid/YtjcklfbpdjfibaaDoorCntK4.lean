/-
  The law on counts: so many instructions.
-/
import Derived.Test.YtjcklfbpdjfibaaDoorCnt0
import Derived.Test.YtjcklfbpdjfibaaDoorCnt1
import Derived.Deep.RegionLaw
namespace Go.Proofs.YtjcklfbpdjfibaaDoor
open Go.RowKit

/-- 'append' to what is the call's own, as one step of a region that draws its order. -/
theorem step_append_own {P : Program} {ops : Array Oper} {o : Oper} {a : Act} {w : World} {K : Act → World → Prop} {Q : Exit → Act → World → Prop} {E : Prop} (hgd : o.guard = none) (s x : Operand) (t : TypeId)
    (ho : o.op = .call { callee := .builtin .append, args := #[s, x], argTypes := #[t, t] })
    (base : Nat) (e : TypeId) (i : TypeInfo) (z : Value) (size bytes : Nat) (ht : P.underlying t = some (.slice e)) (hi : P.info? e = some i) (hz : i.zero = some z)
    (hsize : i.size = size) (hby : i.bytes = bytes) (hzs : z.cells.size = size) (hsz : 0 < size)
    (v : Value) (n : Nat) (xs : List Value) (hs : a.eval s = v) (hown : w.ownsRow base e size v n xs)
    (ad : Addr) (m c : Nat) (news : List Value) (hx : a.eval x = .slice (some ad) m c) (hl : news.length = m * size) (hnews : ∀ j u, news[j]? = some u → w.cell? (ad.add j) = some u) (h1 : ∀ u ∈ news, u.oneCell' = true)
    (h63 : n + m ≤ maxLen) (hbytes : (n + m) * bytes ≤ 140737488355328) (hbase : base ≤ w.heap.size)
    (h : ∀ v' w', w'.ownsRow base e size v' (n + m) (xs ++ news) → w.grownBy w' v.ownBlock → K (a.put o.dst v') w') :
    if Region.wanted o (yielded ops a.tmps) = true then Oper.wp P o a w K Q else E := by
  have hw : Region.wanted o (yielded ops a.tmps) = true := by simp [Region.wanted, hgd]
  rw [if_pos hw]
  obtain ⟨v', w', hrun, r1, r2, _⟩ := run_append_own (P := P) w base t o.type e i z size bytes ht hi hz hsize hby hzs hsz v n xs hown ad m c news hl hnews h1 h63 hbytes hbase
  unfold Oper.wp
  simp [execOp, ho, resolve, invoke, builtin, hs, hx, hrun, Result.andThen]
  exact h v' w' r1 r2

def rets : Nat → List Value
  | 0 => []
  | n + 1 => rets n ++ [.int .i64 33, .int .i64 0, .int .i64 0, .int .i64 0]
theorem rets_len : ∀ n, (rets n).length = n * 4
  | 0 => rfl
  | n + 1 => by rw [rets, List.length_append, rets_len n]; show n * 4 + 4 = _; omega
def retG (_i j : Nat) : Int := if j = 0 then 33 else 0
theorem rets_get : ∀ n i j, i < n → j < 4 → (rets n)[i * 4 + j]? = some (.int .i64 (retG i j))
  | 0, i, j, hi, _ => by omega
  | n + 1, i, j, hi, hj => by
    rw [rets]
    by_cases h : i < n
    · rw [List.getElem?_append_left (by rw [rets_len]; omega)]
      exact rets_get n i j h hj
    · obtain rfl : i = n := by omega
      rw [List.getElem?_append_right (by rw [rets_len]; omega), rets_len, Nat.add_sub_cancel_left]
      match j, hj with
      | 0, _ => rfl
      | 1, _ => rfl
      | 2, _ => rfl
      | 3, _ => rfl

theorem own_shapeC {B : Nat} {w : World} {e size n : Nat} {v : Value} {xs : List Value} (h : w.ownsRow B e size v n xs) : ∃ a c, v = .slice a n c := by
  rcases h.2 with ⟨rfl, h1⟩ | ⟨g, cap, cur, h1, h2, h3⟩
  · exact ⟨none, 0, by rw [h1]⟩
  · exact ⟨_, _, h1⟩

theorem grown_setCellC (w : World) (a : Addr) (u : Value) : w.grownBy (w.setCell a u) (some a.block) :=
  ⟨rfl, rfl, rfl, by simp, fun k _ hk => heap_setCell_other w a k u (fun e => hk (by rw [e]))⟩

theorem grown_transC {a b c : World} {row : Option Nat} (h : a.grownBy b row) (h2 : b.grownBy c row) : a.grownBy c row :=
  ⟨h2.os.trans h.os, h2.tape.trans h.tape, h2.output.trans h.output, Nat.le_trans h.size h2.size, fun k hk hne => (h2.block k (Nat.lt_of_lt_of_le hk h.size) hne).trans (h.block k hk hne)⟩

theorem picks_ownC {B : Nat} {w : World} {a : Option Addr} {n cp : Nat} (h : w.ownsRow B 67 4 (.slice a n cp) n (rets n)) : Picks w a n cp retG := by
  rcases h.2 with ⟨hv, h0⟩ | ⟨g, cap, cur, hv, hb, hg, hnc, hcm, hcs, ht⟩
  · cases hv
    exact ⟨Nat.le_refl _, Nat.zero_le _, fun _ => rfl, fun ad h => (by cases h)⟩
  · cases hv
    refine ⟨hnc, hcm, fun h => (by cases h), fun ad had i j hi hj => ?_⟩
    cases had
    rw [add_zero_off, cell_of_row w g _ cur 67 (0, 0) hg]
    have h1 := rets_get n i j hi hj
    rw [← ht, List.getElem?_take_of_lt (by omega)] at h1
    simpa using h1

theorem instrinfo : (Tryd.prog.info? 67).map (fun i => (i.zero, i.size, i.bytes)) = some (some (.agg #[.int .i64 0, .int .i64 0, .int .i64 0, .int .i64 0]), 4, 32) := by kernel_rfl

def CdRel (x0 : World) (mb c1 k : Nat) (si : Value) (wr : World) : Prop :=
  ∃ (j : Nat) (a : Option Addr) (cp : Nat), j ≤ k ∧ si = .int .i64 j ∧ wr.heap[mb]? = some (.cells #[.string ⟨#[]⟩, .string ⟨#[]⟩, .string ⟨#[]⟩, .slice (some ⟨c1, 0, none⟩) 1 1, .string ⟨#[73]⟩, .string ⟨#[82]⟩, .string ⟨#[]⟩, .slice a j cp] 62 (0, 0)) ∧
    wr.ownsRow x0.heap.size 67 4 (.slice a j cp) j (rets j) ∧ x0.grownBy wr (some mb)

set_option maxHeartbeats 4000000 in
set_option maxRecDepth 100000 in
theorem counts_4 (a : Nat → Addr) (what n : Int) (w : World) (hS : Sents a w) (h0 : (what.tmod 5 + 5).tmod 5 = 4) (hb : -4 ≤ what.tmod 5 ∧ what.tmod 5 ≤ 4) :
    Calls Tryd.prog 7 #[.int .i64 what, .int .i64 n] w (TruePost w) := by
  have H := Lib.hid hS
  have e1 := low3C n
  obtain ⟨m, hm⟩ : ∃ m : Nat, n % 8 = (m : Int) := ⟨(n % 8).toNat, by omega⟩
  have hm1 : m < 8 := by omega
  rw [hm] at e1
  obtain ⟨r, hr⟩ : ∃ r, what.tmod 5 = r := ⟨_, rfl⟩
  rw [hr] at h0 hb
  have f1 : IntKind.i64.wrap (r + 5) = r + 5 := IntWalk.i64_in _ (by omega)
  clear hS hm
  go_enter Tryd.func7, Tryd.ntmps7
  go_wp2_with fail
  refine (pfirst a _ H.out).mono ?_
  rintro e w1 ⟨rfl, hb1⟩
  have hb1a := hb1.alloc hb1.size (.cells #[.int .i64 12, .int .i64 10, .int .i64 12, .int .i64 12, .int .i64 120] 3)
  have HB1 := Lib.hid hb1a
  have HS1 := Lib.hid (H.out.below hb1a)
  clear hb1 hb1a H
  go_wp2_with fail
  generalize (w1.alloc (.cells #[.int .i64 12, .int .i64 10, .int .i64 12, .int .i64 12, .int .i64 120] 3)) = wa at *
  refine (one_progC 33 0 0 0 _).mono ?_
  rintro e w2 ⟨cb, mb, c1, c2, rfl, hO, hcb, hmb, hc1, hc2, hb2⟩
  have HO := Lib.hid hO
  have HB12 := Lib.hid hb2
  have HNE := Lib.hid hO.ne
  have HB2 : Hid (Below w.heap.size w w2) := Lib.hid (HB1.out.trans (hb2.mono HB1.out.size))
  have HS2 := Lib.hid (HS1.out.below hb2)
  have HLOW : Hid (w.heap.size ≤ w2.heap.size) := Lib.hid HB2.out.size
  clear hO hb2
  go_wp2_with fail
  clear f1 e1 h0 hb hr
  have hN : (117 + (m : Int)) = ((117 + m : Nat) : Int) := by omega
  rw [hN]
  obtain ⟨N, hNN⟩ : ∃ N, 117 + m = N := ⟨_, rfl⟩
  rw [hNN]
  have hN0 : 117 ≤ N := by omega
  have hN1 : N ≤ 117 + 7 := by omega
  clear hN hNN hm1
  have hpb : (w2.alloc (.cells #[.slice (some ⟨cb, 0, none⟩) 2 2, .slice (some ⟨mb, 0, none⟩) 2 2] 46)).heap[w2.heap.size]? = _ := heap_alloc_new w2 _
  have hbp : Below w2.heap.size w2 (w2.alloc (.cells #[.slice (some ⟨cb, 0, none⟩) 2 2, .slice (some ⟨mb, 0, none⟩) 2 2] 46)) := (Below.refl _ _).alloc (Nat.le_refl _) _
  have hsz : (w2.alloc (.cells #[.slice (some ⟨cb, 0, none⟩) 2 2, .slice (some ⟨mb, 0, none⟩) 2 2] 46)).heap.size = w2.heap.size + 1 := by simp
  generalize (w2.alloc (.cells #[.slice (some ⟨cb, 0, none⟩) 2 2, .slice (some ⟨mb, 0, none⟩) 2 2] 46)) = w3 at *
  obtain ⟨pb, hpe⟩ : ∃ pb, w2.heap.size = pb := ⟨_, rfl⟩
  rw [hpe] at hpb hsz
  rw [hpe]
  have HPE := Lib.hid hpe
  have HPB := Lib.hid hpb
  have HBP := Lib.hid hbp
  have HSZ := Lib.hid hsz
  clear hpe hpb hbp hsz
  go_loop [8, 9] (fun ss si => ∃ k : Nat, k ≤ N ∧ si = .int .i64 k ∧ ss = .string (eyes k)) (fun _ si => N - (intOf si).toNat)
  case atStart => exact ⟨0, Nat.zero_le _, rfl, rfl⟩
  case round =>
    obtain ⟨k, hk, rfl, rfl⟩ := hrel
    by_cases hlt : k < N
    · have t1 : decide (k < N) = true := by simpa using hlt
      have HN := Lib.hid (eyes_next k)
      have hsz := eyes_size k
      go_wp2_with fail
      go_round
      case rel => exact ⟨k + 1, by omega, by go_num, by rw [HN.out]⟩
      case measure => simp [intOf]; omega
    · obtain rfl : k = N := by omega
      have t1 : decide (k < k) = false := by simp
      have p0 : w3.cell? ⟨pb, 0, none⟩ = some (.slice (some ⟨cb, 0, none⟩) 2 2) := (cell_of_row w3 pb 0 _ _ (0, 0) HPB.out).trans rfl
      have p1 : w3.cell? ⟨pb, 1, none⟩ = some (.slice (some ⟨mb, 0, none⟩) 2 2) := (cell_of_row w3 pb 1 _ _ (0, 0) HPB.out).trans rfl
      have q0 : w3.frozen? ⟨pb, 0, none⟩ = false := frozen_of_row w3 pb 0 _ _ HPB.out
      have q1 : w3.frozen? ⟨pb, 1, none⟩ = false := frozen_of_row w3 pb 1 _ _ HPB.out
      have hO3 := HO.out.below HBP.out
      have b1 : w3.cell? ⟨mb, 7, none⟩ = some (.slice (some ⟨c2, 0, none⟩) 2 2) := (cell_of_row w3 mb 7 _ _ (0, 0) hO3.mth).trans rfl
      have r1 : w3.frozen? ⟨mb, 7, none⟩ = false := frozen_of_row w3 mb 7 _ _ hO3.mth
      obtain ⟨n1, n2, n3, n4, n5, n6⟩ := HNE.out
      have hmp : mb ≠ pb := by have := (Array.getElem?_eq_some_iff.1 HO.out.mth).1; have := HPE.out; omega
      have hx : Below wa.heap.size wa (w3.setCell ⟨mb, 7, none⟩ (.slice none 0 0)) := (HB12.out.trans (HBP.out.mono HB12.out.size)).setCell hmb _
      have hxm : (w3.setCell ⟨mb, 7, none⟩ (.slice none 0 0)).heap[mb]? = some (.cells #[.string ⟨#[]⟩, .string ⟨#[]⟩, .string ⟨#[]⟩, .slice (some ⟨c1, 0, none⟩) 1 1, .string ⟨#[73]⟩, .string ⟨#[82]⟩, .string ⟨#[]⟩, .slice none 0 0] 62 (0, 0)) := (heap_setCell_same w3 mb 7 _ _ _ hO3.mth).trans rfl
      have hxp := (heap_setCell_other w3 ⟨mb, 7, none⟩ pb (.slice none 0 0) (by show pb ≠ mb; omega)).trans HPB.out
      have hxl := (heap_setCell_other w3 ⟨mb, 7, none⟩ cb (.slice none 0 0) (by show cb ≠ mb; omega)).trans hO3.cls
      have hxa := (heap_setCell_other w3 ⟨mb, 7, none⟩ c1 (.slice none 0 0) (by show c1 ≠ mb; omega)).trans hO3.co1
      have hsx : w3.heap.size ≤ (w3.setCell ⟨mb, 7, none⟩ (.slice none 0 0)).heap.size := by simp
      have R0 : Hid (CdRel (w3.setCell ⟨mb, 7, none⟩ (.slice none 0 0)) mb c1 k (.int .i64 ((0 : Nat) : Int)) (w3.setCell ⟨mb, 7, none⟩ (.slice none 0 0))) := Lib.hid ⟨0, none, 0, Nat.zero_le _, rfl, hxm, World.ownsRow_nil _ _ _ _, World.grownBy.refl _ _⟩
      clear hO3
      go_wp2_with fail
      clear p0 p1 q0 q1 b1 r1
      generalize (w3.setCell ⟨mb, 7, none⟩ (.slice none 0 0)) = x0 at *
      have HX := Lib.hid hx
      have HXP := Lib.hid hxp
      have HXL := Lib.hid hxl
      have HXA := Lib.hid hxa
      have HSX0 : Hid (w3.heap.size ≤ x0.heap.size) := Lib.hid hsx
      clear hx hxm hxp hxl hxa hsx
      obtain ⟨i0, hi, hz0, hz1, hz2⟩ := info_parts instrinfo
      have HI := Lib.hid hi
      have HZ0 := Lib.hid hz0
      have HZ1 := Lib.hid hz1
      have HZ2 := Lib.hid hz2
      clear hi hz0 hz1 hz2
      go_loopw [11] (fun si wr => CdRel x0 mb c1 k si wr) (fun si _ => k - (intOf si).toNat)
      case atStart => exact R0.out
      case round =>
        obtain ⟨j, ja, jc, hj, rfl, hrow, hown, hg⟩ := hrel
        clear R0
        have hxp2 : wr.heap[pb]? = _ := (hg.block pb (Array.getElem?_eq_some_iff.1 HXP.out).1 (by simp; omega)).trans HXP.out
        have p1 : wr.cell? ⟨pb, 1, none⟩ = some (.slice (some ⟨mb, 0, none⟩) 2 2) := (cell_of_row wr pb 1 _ _ (0, 0) hxp2).trans rfl
        by_cases hjk : j < k
        · have t2 : decide (j < k) = true := by simpa using hjk
          have b7 : wr.cell? ⟨mb, 7, none⟩ = some (.slice ja j jc) := (cell_of_row wr mb 7 _ _ (0, 0) hrow).trans rfl
          have r7 : wr.frozen? ⟨mb, 7, none⟩ = false := frozen_of_row wr mb 7 _ _ hrow
          have hmx : mb < x0.heap.size := Nat.lt_of_lt_of_le (Array.getElem?_eq_some_iff.1 HO.out.mth).1 (by have h1 := HBP.out.size; have h2 : w3.heap.size ≤ x0.heap.size := HSX0.out; omega)
          have HRW : Hid (∀ w5, (wr.drew.alloc (.cells #[.int .i64 33, .int .i64 0, .int .i64 0, .int .i64 0] 67)).grownBy w5 (Value.slice ja j jc).ownBlock → w5.heap[mb]? = wr.heap[mb]? ∧ w5.heap[pb]? = wr.heap[pb]? ∧ x0.grownBy w5 (some mb)) := Lib.hid fun w5 h5 => by
            have hal := World.grownBy_alloc wr.drew (.cells #[.int .i64 33, .int .i64 0, .int .i64 0, .int .i64 0] 67) none
            have hd : x0.grownBy wr.drew (some mb) := ⟨hg.os, hg.tape, hg.output, hg.size, hg.block⟩
            have key : ∀ b, b < x0.heap.size → w5.heap[b]? = wr.heap[b]? := fun b hb => by
              have hb2 : b < wr.drew.heap.size := Nat.lt_of_lt_of_le hb hg.size
              rw [h5.block b (Nat.lt_of_lt_of_le hb2 hal.size) (fun e => by have := (hown.lt b e.symm).1; omega), hal.block b hb2 (by simp)]
              rfl
            refine ⟨key mb hmx, key pb (Array.getElem?_eq_some_iff.1 HXP.out).1, h5.os.trans (hal.os.trans hd.os), h5.tape.trans (hal.tape.trans hd.tape), h5.output.trans (hal.output.trans hd.output), Nat.le_trans hd.size (Nat.le_trans hal.size h5.size), fun b hb hne => ?_⟩
            rw [key b hb]
            exact hg.block b hb hne
          have HO4 := Lib.hid (hown.drew.alloc (.cells #[.int .i64 33, .int .i64 0, .int .i64 0, .int .i64 0] 67))
          have HNW : Hid (∀ i u, ([.int .i64 33, .int .i64 0, .int .i64 0, .int .i64 0] : List Value)[i]? = some u → (wr.drew.alloc (.cells #[.int .i64 33, .int .i64 0, .int .i64 0, .int .i64 0] 67)).cell? ((⟨wr.heap.size, 0, none⟩ : Addr).add i) = some u) := Lib.hid fun i u hu => by
            rw [add_zero_off, cell_of_row _ wr.heap.size i _ 67 (0, 0) (heap_alloc_new wr.drew _)]
            simpa using hu
          have hoc : Hid (∀ u ∈ ([.int .i64 33, .int .i64 0, .int .i64 0, .int .i64 0] : List Value), u.oneCell' = true) := Lib.hid (by simp [Value.oneCell'])
          have hn1 : Hid (j + 1 ≤ maxLen) := Lib.hid (by unfold maxLen; omega)
          have hn2 : Hid ((j + 1) * 32 ≤ 140737488355328) := Lib.hid (by omega)
          have hsz : Hid (x0.heap.size ≤ (wr.drew.alloc (.cells #[.int .i64 33, .int .i64 0, .int .i64 0, .int .i64 0] 67)).heap.size) := Lib.hid (by have := hg.size; simp; omega)
          have n7 : wr.heap.size ≠ mb := by have := (Array.getElem?_eq_some_iff.1 hrow).1; omega
          have n8 : wr.heap.size ≠ pb := by have := (Array.getElem?_eq_some_iff.1 hxp2).1; omega
          have halw : Below wr.heap.size wr (wr.alloc (.cells #[.int .i64 33, .int .i64 0, .int .i64 0, .int .i64 0] 67)) := (Below.refl _ _).alloc (Nat.le_refl _) _
          have b8 := (halw.cell (p := ⟨mb, 7, none⟩) (Array.getElem?_eq_some_iff.1 hrow).1).trans b7
          have r8 := (halw.frozen (p := ⟨mb, 7, none⟩) (Array.getElem?_eq_some_iff.1 hrow).1).trans r7
          have p8 := (halw.cell (p := ⟨pb, 1, none⟩) (Array.getElem?_eq_some_iff.1 hxp2).1).trans p1
          have HMX := Lib.hid hmx
          have HROW := Lib.hid hrow
          have HXP2 := Lib.hid hxp2
          clear halw
          clear hrow hown hg hxp2 hmx
          obtain ⟨xs, hxs⟩ : ∃ xs, rets j = xs := ⟨_, rfl⟩
          rw [hxs] at HO4
          have HXS := Lib.hid hxs
          clear hxs
          go_wp2_with fail
          go_region_law (refine step_append_own rfl (.tmp 53) (.tmp 55) 60 rfl x0.heap.size 67 i0 (.agg #[.int .i64 0, .int .i64 0, .int .i64 0, .int .i64 0]) 4 32 Tryd.underlying60 HI.out HZ0.out HZ1.out HZ2.out rfl (by decide) (.slice ja j jc) j xs (by simp [Act.eval]) HO4.out ⟨wr.heap.size, 0, none⟩ 1 1 [.int .i64 33, .int .i64 0, .int .i64 0, .int .i64 0] (by simp [Act.eval]) rfl HNW.out hoc.out hn1.out hn2.out hsz.out ?_; intro v5 w5 hown5 hgrow5; obtain ⟨hr5, hq5, hg5⟩ := HRW.out w5 hgrow5; have HR5 := Lib.hid (hr5.trans HROW.out); have HQ5 := Lib.hid (hq5.trans HXP2.out); have HG5 := Lib.hid hg5; have d7 := (cell_of_row w5 mb 7 _ _ (0, 0) HR5.out).trans rfl; have e7 := frozen_of_row w5 mb 7 _ _ HR5.out; have dp := (cell_of_row w5 pb 1 _ _ (0, 0) HQ5.out).trans rfl; obtain ⟨va, vc, rfl⟩ := own_shapeC hown5; have HW5 := Lib.hid hown5; clear hr5 hq5 hg5 hgrow5 hown5)
          all_goals
            go_wp2_with fail
            go_roundw
            case rel => exact ⟨j + 1, va, vc, by omega, by go_num, (heap_setCell_same w5 mb 7 _ _ _ HR5.out).trans rfl, by rw [rets, HXS.out]; exact HW5.out.kept (grown_setCellC w5 ⟨mb, 7, none⟩ _) (.inr (fun e => by have := (HW5.out.lt mb e).1; have := HMX.out; omega)), grown_transC HG5.out (grown_setCellC w5 ⟨mb, 7, none⟩ _)⟩
            case measure => simp [intOf]; omega
        · obtain rfl : j = k := by omega
          have t2 : decide (j < j) = false := by simp
          have p0 : wr.cell? ⟨pb, 0, none⟩ = some (.slice (some ⟨cb, 0, none⟩) 2 2) := (cell_of_row wr pb 0 _ _ (0, 0) hxp2).trans rfl
          have hx : Below wa.heap.size wa wr := HX.out.grown hg HX.out.size (fun b hb => by cases hb; exact hmb)
          have hxl := (hg.block cb (Array.getElem?_eq_some_iff.1 HXL.out).1 (by simp; omega)).trans HXL.out
          have hxa := (hg.block c1 (Array.getElem?_eq_some_iff.1 HXA.out).1 (by simp; omega)).trans HXA.out
          have HBX : Hid (Below w.heap.size w wr) := Lib.hid (HB1.out.trans (hx.mono HB1.out.size))
          have HSX := Lib.hid (HS1.out.below hx)
          have M0 : Hid (MethFair wr mb 0 0 ⟨#[]⟩ ⟨#[]⟩ (some ⟨c1, 0, none⟩) 1 1) := Lib.hid ⟨⟨(cell_of_row _ mb 0 _ _ (0, 0) hrow).trans rfl, (cell_of_row _ mb 1 _ _ (0, 0) hrow).trans rfl, (cell_of_row _ mb 2 _ _ (0, 0) hrow).trans rfl, (cell_of_row _ mb 3 _ _ (0, 0) hrow).trans rfl⟩,
            ⟨gvL [(33, 0, 0, 0)], picks_of hxa (by omega) (fun i j hi hj => codeV_at [(33, 0, 0, 0)] i j hi hj), fun j hj => by
              obtain rfl : j = 0 := by omega
              exact ⟨rfl, rfl, rfl, rfl⟩⟩, ⟨Nat.zero_le _, Nat.zero_le _, by omega⟩, ⟨fair_nil, fair_nil⟩, fun _ => rfl⟩
          have M1 : Hid (MethFair wr mb 0 1 ⟨#[73]⟩ ⟨#[82]⟩ ja j jc) := Lib.hid ⟨⟨(cell_of_row _ mb 4 _ _ (0, 0) hrow).trans rfl, (cell_of_row _ mb 5 _ _ (0, 0) hrow).trans rfl, (cell_of_row _ mb 6 _ _ (0, 0) hrow).trans rfl, (cell_of_row _ mb 7 _ _ (0, 0) hrow).trans rfl⟩,
            ⟨retG, picks_ownC hown, fun _ _ => ⟨rfl, rfl, rfl, rfl⟩⟩, ⟨by decide, by decide, by omega⟩, ⟨fair_I, fair_R⟩, fun h => absurd h (by omega)⟩
          have HCL := Lib.hid (cls_of (len := 2) (f := oneF) hxl (by omega) (fun i hi => by
            have : i = 0 ∨ i = 1 := by omega
            rcases this with rfl | rfl <;> rfl))
          have HFC : Hid (∀ i, i < 2 → Fair (oneF i) ∧ (oneF i).size ≤ 1000000) := Lib.hid fun i hi => by
            have : i = 0 ∨ i = 1 := by omega
            rcases this with rfl | rfl
            · exact ⟨fair_IR, by decide⟩
            · exact ⟨fair_nil, by decide⟩
          have HFS : Hid (∀ i, i < 2 → (oneF i).size ≤ 10) := Lib.hid fun i hi => by
            have : i = 0 ∨ i = 1 := by omega
            rcases this with rfl | rfl <;> decide
          clear hx hxp2 hxl hxa hrow hown hg n1 n2 n3 n4 n5 n6
          by_cases hk12 : j ≤ 120
          · have MC := Lib.hid (may_pair a _ 2 2 mb oneF ⟨#[73]⟩ ⟨#[82]⟩ _ _ 1 j 1 jc 2 2 _ HSX.out (by omega) HCL.out HFC.out (Nat.le_refl _) HFS.out (fun h => absurd h (Nat.lt_irrefl _)) M0.out M1.out (by decide) (.inl ⟨rfl, by
              have s1 : (⟨#[73]⟩ : ByteArray).size = 1 := rfl
              have s2 : (⟨#[82]⟩ : ByteArray).size = 1 := rfl
              rw [headC, s1, s2, if_neg (by omega)]⟩))
            rw [if_neg (Nat.lt_irrefl 2), if_neg (Nat.lt_irrefl 2)] at MC
            have t2 : decide ((j : Int) ≤ 120) = true := by simp; omega
            go_wp2_with fail
            refine MC.out.mono ?_
            rintro e w5 ⟨hb5, rfl⟩
            have HB5 : Hid (Below w.heap.size w w5) := Lib.hid (HBX.out.trans (hb5.mono HBX.out.size))
            clear hb5 MC
            go_wp2_with fail
            go_ret
            exact ⟨rfl, HB5.out⟩
          · have MC := Lib.hid (may_pair a _ 2 2 mb oneF ⟨#[73]⟩ ⟨#[82]⟩ _ _ 1 j 1 jc 2 1 _ HSX.out (by omega) HCL.out HFC.out (Nat.le_refl _) HFS.out (fun h => absurd h (Nat.lt_irrefl _)) M0.out M1.out (by decide) (.inr ⟨rfl, by
              have s1 : (⟨#[73]⟩ : ByteArray).size = 1 := rfl
              have s2 : (⟨#[82]⟩ : ByteArray).size = 1 := rfl
              rw [headC, s1, s2, if_pos (by omega)]⟩))
            rw [if_neg (Nat.lt_irrefl 2), if_pos (show 1 < 2 by omega)] at MC
            have t2 : decide ((j : Int) ≤ 120) = false := by simp; omega
            go_wp2_with fail
            refine MC.out.mono ?_
            rintro e w5 ⟨hb5, b, rfl, hbb, hbox⟩
            have HB5 : Hid (Below w.heap.size w w5) := Lib.hid (HBX.out.trans (hb5.mono HBX.out.size))
            have HS5 := Lib.hid (HSX.out.below hb5)
            have HBOX := Lib.hid hbox
            clear hb5 MC hbb hbox
            go_wp2_with fail
            refine (there_any _ _ _ _).mono ?_
            rintro e w6 ⟨g, rfl, g0, g1, hb6⟩
            have hal : Below w6.heap.size w6 (w6.alloc (.cells #[.int .i64 101, .slice (some ⟨g, 0, none⟩) 2 2] 53)) := (Below.refl _ _).alloc (Nat.le_refl _) _
            have hS6 := HS5.out.below hb6
            have SW := Lib.hid (same_where a b 0 1 (-1) g 2 _ (hS6.below hal) (by omega) ((HBOX.out.below hb6).below hal) (Row_alloc (row_two g0 g1 (Nat.le_refl _) (by unfold maxLen; omega) rfl rfl) _))
            have hb56 : Below w.heap.size w w6 := HB5.out.trans (hb6.mono HB5.out.size)
            have HB6 := Lib.hid (hb56.trans (hal.mono hb56.size))
            clear hb6 hal hS6 g0 g1 hb56
            go_wp2_with fail
            refine SW.out.mono ?_
            rintro e w9 ⟨rfl, hb9⟩
            go_wp2_with fail
            go_ret
            exact ⟨rfl, HB6.out.trans (hb9.mono HB6.out.size)⟩

end Go.Proofs.YtjcklfbpdjfibaaDoor

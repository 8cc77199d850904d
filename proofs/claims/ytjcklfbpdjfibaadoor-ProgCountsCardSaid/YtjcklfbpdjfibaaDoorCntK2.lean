/-
  The law on counts: so many methods.
-/
import Derived.Test.YtjcklfbpdjfibaaDoorCnt0
import Derived.Test.YtjcklfbpdjfibaaDoorCnt1
namespace Go.Proofs.YtjcklfbpdjfibaaDoor
open Go.RowKit

def methO (c : Nat) : Obj := .cells #[.string ⟨#[]⟩, .string ⟨#[]⟩, .string ⟨#[]⟩, .slice (some ⟨c, 0, none⟩) 1 1] 62
def meth4 (c : Nat) : List Value := [.string ⟨#[]⟩, .string ⟨#[]⟩, .string ⟨#[]⟩, .slice (some ⟨c, 0, none⟩) 1 1]
def meths (cs : Nat → Nat) : Nat → List Value
  | 0 => []
  | n + 1 => meths cs n ++ meth4 (cs n)
theorem meths_len (cs : Nat → Nat) : ∀ n, (meths cs n).length = n * 4
  | 0 => rfl
  | n + 1 => by rw [meths, List.length_append, meths_len cs n]; show n * 4 + 4 = _; omega
theorem meths_get (cs : Nat → Nat) : ∀ n i j, i < n → j < 4 → (meths cs n)[i * 4 + j]? = (meth4 (cs i))[j]?
  | 0, i, j, hi, _ => by omega
  | n + 1, i, j, hi, hj => by
    rw [meths]
    by_cases h : i < n
    · rw [List.getElem?_append_left (by rw [meths_len]; omega)]
      exact meths_get cs n i j h hj
    · obtain rfl : i = n := by omega
      rw [List.getElem?_append_right (by rw [meths_len]; omega), meths_len, Nat.add_sub_cancel_left]
theorem meths_same (cs cs' : Nat → Nat) : ∀ n, (∀ i, i < n → cs i = cs' i) → meths cs n = meths cs' n
  | 0, _ => rfl
  | n + 1, h => by rw [meths, meths, meths_same cs cs' n fun i hi => h i (by omega), h n (by omega)]

theorem methinfo : (Tryd.prog.info? 62).map (fun i => (i.zero, i.size, i.bytes)) = some (some (.agg #[.string ⟨#[]⟩, .string ⟨#[]⟩, .string ⟨#[]⟩, .slice none 0 0]), 4, 72) := by kernel_rfl

def MtRel (x0 : World) (pb cb k : Nat) (si : Value) (wr : World) : Prop :=
  ∃ (j : Nat) (a : Option Addr) (cp : Nat) (cs : Nat → Nat), j ≤ k ∧ si = .int .i64 j ∧ wr.heap[pb]? = some (.cells #[.slice (some ⟨cb, 0, none⟩) 2 2, .slice a j cp] 46 (0, 0)) ∧
    wr.ownsRow x0.heap.size 62 4 (.slice a j cp) j (meths cs j) ∧ (∀ i, i < j → wr.heap[cs i]? = some (.cells #[.int .i64 33, .int .i64 0, .int .i64 0, .int .i64 0] 67 (0, 0))) ∧ x0.grownBy wr (some pb)

theorem grown_setCellD (w : World) (a : Addr) (u : Value) : w.grownBy (w.setCell a u) (some a.block) :=
  ⟨rfl, rfl, rfl, by simp, fun k _ hk => heap_setCell_other w a k u (fun e => hk (by rw [e]))⟩
theorem own_shapeD {B : Nat} {w : World} {e size n : Nat} {v : Value} {xs : List Value} (h : w.ownsRow B e size v n xs) : ∃ a c, v = .slice a n c := by
  rcases h.2 with ⟨rfl, h1⟩ | ⟨g, cap, cur, h1, h2, h3⟩
  · exact ⟨none, 0, by rw [h1]⟩
  · exact ⟨_, _, h1⟩
/-- A block of instructions is none that owns methods. -/
theorem own_kind {B : Nat} {w : World} {v : Value} {n c : Nat} {xs : List Value} {cs : Array Value} (h : w.ownsRow B 62 4 v n xs) (hc : w.heap[c]? = some (.cells cs 67 (0, 0))) : v.ownBlock ≠ some c := by
  intro e
  rcases h.2 with ⟨rfl, _⟩ | ⟨g, cap, cur, rfl, _, hg, _⟩
  · cases e
  · have h1 : g = c := Option.some.inj (show some g = some c from e)
    subst h1
    rw [hg] at hc
    simp at hc

set_option maxHeartbeats 4000000 in
set_option maxRecDepth 100000 in
theorem counts_2 (a : Nat → Addr) (what n : Int) (w : World) (hS : Sents a w) (h0 : (what.tmod 5 + 5).tmod 5 = 2) (hb : -4 ≤ what.tmod 5 ∧ what.tmod 5 ≤ 4) :
    Calls Tryd.prog 7 #[.int .i64 what, .int .i64 n] w (TruePost w) := by
  have H := Lib.hid hS
  have e1 := low3C n
  obtain ⟨m, hm⟩ : ∃ m : Nat, n % 8 = (m : Int) := ⟨(n % 8).toNat, by omega⟩
  have hm1 : m < 8 := by omega
  rw [hm] at e1
  obtain ⟨r, hr⟩ : ∃ r, what.tmod 5 = r := ⟨_, rfl⟩
  rw [hr] at h0 hb
  have f1 : IntKind.i64.wrap (r + 5) = r + 5 := IntWalk.i64_in _ (by omega)
  clear hS hm
  go_enter Tryd.func7, Tryd.ntmps7
  go_wp2_with fail
  refine (pfirst a _ H.out).mono ?_
  rintro e w1 ⟨rfl, hb1⟩
  have hb1a := hb1.alloc hb1.size (.cells #[.int .i64 12, .int .i64 10, .int .i64 12, .int .i64 12, .int .i64 120] 3)
  have HB1 := Lib.hid hb1a
  have HS1 := Lib.hid (H.out.below hb1a)
  clear hb1 hb1a H
  go_wp2_with fail
  generalize (w1.alloc (.cells #[.int .i64 12, .int .i64 10, .int .i64 12, .int .i64 12, .int .i64 120] 3)) = wa at *
  refine (one_progC 33 0 0 0 _).mono ?_
  rintro e w2 ⟨cb, mb, c1, c2, rfl, hO, hcb, hmb, hc1, hc2, hb2⟩
  have HO := Lib.hid hO
  have HB12 := Lib.hid hb2
  have HNE := Lib.hid hO.ne
  have HB2 : Hid (Below w.heap.size w w2) := Lib.hid (HB1.out.trans (hb2.mono HB1.out.size))
  have HS2 := Lib.hid (HS1.out.below hb2)
  have HLOW : Hid (w.heap.size ≤ w2.heap.size) := Lib.hid HB2.out.size
  clear hO hb2
  go_wp2_with fail
  clear f1 e1 h0 hb hr
  have hN : (9 + (m : Int)) = ((9 + m : Nat) : Int) := by omega
  rw [hN]
  obtain ⟨N, hNN⟩ : ∃ N, 9 + m = N := ⟨_, rfl⟩
  rw [hNN]
  have hN0 : 9 ≤ N := by omega
  have hN1 : N ≤ 9 + 7 := by omega
  clear hN hNN hm1
  have hpb : (w2.alloc (.cells #[.slice (some ⟨cb, 0, none⟩) 2 2, .slice (some ⟨mb, 0, none⟩) 2 2] 46)).heap[w2.heap.size]? = _ := heap_alloc_new w2 _
  have hbp : Below w2.heap.size w2 (w2.alloc (.cells #[.slice (some ⟨cb, 0, none⟩) 2 2, .slice (some ⟨mb, 0, none⟩) 2 2] 46)) := (Below.refl _ _).alloc (Nat.le_refl _) _
  have hsz : (w2.alloc (.cells #[.slice (some ⟨cb, 0, none⟩) 2 2, .slice (some ⟨mb, 0, none⟩) 2 2] 46)).heap.size = w2.heap.size + 1 := by simp
  generalize (w2.alloc (.cells #[.slice (some ⟨cb, 0, none⟩) 2 2, .slice (some ⟨mb, 0, none⟩) 2 2] 46)) = w3 at *
  obtain ⟨pb, hpe⟩ : ∃ pb, w2.heap.size = pb := ⟨_, rfl⟩
  rw [hpe] at hpb hsz
  rw [hpe]
  have HPE := Lib.hid hpe
  have HPB := Lib.hid hpb
  have HBP := Lib.hid hbp
  have HSZ := Lib.hid hsz
  clear hpe hpb hbp hsz
  go_loop [8, 9] (fun ss si => ∃ k : Nat, k ≤ N ∧ si = .int .i64 k ∧ ss = .string (eyes k)) (fun _ si => N - (intOf si).toNat)
  case atStart => exact ⟨0, Nat.zero_le _, rfl, rfl⟩
  case round =>
    obtain ⟨k, hk, rfl, rfl⟩ := hrel
    by_cases hlt : k < N
    · have t1 : decide (k < N) = true := by simpa using hlt
      have HN := Lib.hid (eyes_next k)
      have hsz := eyes_size k
      go_wp2_with fail
      go_round
      case rel => exact ⟨k + 1, by omega, by go_num, by rw [HN.out]⟩
      case measure => simp [intOf]; omega
    · obtain rfl : k = N := by omega
      have t1 : decide (k < k) = false := by simp
      have p0 : w3.cell? ⟨pb, 0, none⟩ = some (.slice (some ⟨cb, 0, none⟩) 2 2) := (cell_of_row w3 pb 0 _ _ (0, 0) HPB.out).trans rfl
      have p1 : w3.cell? ⟨pb, 1, none⟩ = some (.slice (some ⟨mb, 0, none⟩) 2 2) := (cell_of_row w3 pb 1 _ _ (0, 0) HPB.out).trans rfl
      have q0 : w3.frozen? ⟨pb, 0, none⟩ = false := frozen_of_row w3 pb 0 _ _ HPB.out
      have q1 : w3.frozen? ⟨pb, 1, none⟩ = false := frozen_of_row w3 pb 1 _ _ HPB.out
      have hx : Below w2.heap.size w2 (w3.setCell ⟨pb, 1, none⟩ (.slice none 0 0)) := HBP.out.setCell (by have := HPE.out; show w2.heap.size ≤ pb; omega) _
      have hxp : (w3.setCell ⟨pb, 1, none⟩ (.slice none 0 0)).heap[pb]? = some (.cells #[.slice (some ⟨cb, 0, none⟩) 2 2, .slice none 0 0] 46 (0, 0)) := (heap_setCell_same w3 pb 1 _ _ _ HPB.out).trans rfl
      have hpx : pb < (w3.setCell ⟨pb, 1, none⟩ (.slice none 0 0)).heap.size := (Array.getElem?_eq_some_iff.1 hxp).1
      have R0 : Hid (MtRel (w3.setCell ⟨pb, 1, none⟩ (.slice none 0 0)) pb cb k (.int .i64 ((0 : Nat) : Int)) (w3.setCell ⟨pb, 1, none⟩ (.slice none 0 0))) := Lib.hid ⟨0, none, 0, fun _ => 0, Nat.zero_le _, rfl, hxp, World.ownsRow_nil _ _ _ _, fun i hi => absurd hi (Nat.not_lt_zero i), World.grownBy.refl _ _⟩
      go_wp2_with fail
      clear p0 p1 q0 q1
      generalize (w3.setCell ⟨pb, 1, none⟩ (.slice none 0 0)) = x0 at *
      have HX := Lib.hid hx
      have HPX := Lib.hid hpx
      clear hx hxp hpx
      obtain ⟨i0, hi, hz0, hz1, hz2⟩ := info_parts methinfo
      have HI := Lib.hid hi
      have HZ0 := Lib.hid hz0
      have HZ1 := Lib.hid hz1
      have HZ2 := Lib.hid hz2
      clear hi hz0 hz1 hz2
      go_loopw [10] (fun si wr => MtRel x0 pb cb k si wr) (fun si _ => k - (intOf si).toNat)
      case atStart => exact R0.out
      case round =>
        obtain ⟨j, ja, jc, cs, hj, rfl, hrow, hown, hcs, hg⟩ := hrel
        clear R0
        have p1 : wr.cell? ⟨pb, 1, none⟩ = some (.slice ja j jc) := (cell_of_row wr pb 1 _ _ (0, 0) hrow).trans rfl
        by_cases hjk : j < k
        · have t2 : decide (j < k) = true := by simpa using hjk
          have HROW := Lib.hid hrow
          have HOW := Lib.hid hown
          have HCS := Lib.hid hcs
          have HG := Lib.hid hg
          have HAL : Hid (Below wr.heap.size wr ((wr.alloc (.cells #[.int .i64 33, .int .i64 0, .int .i64 0, .int .i64 0] 67)).alloc (methO wr.heap.size))) := Lib.hid (((Below.refl _ _).alloc (Nat.le_refl _) _).alloc (by simp) _)
          have HNEW : Hid (((wr.alloc (.cells #[.int .i64 33, .int .i64 0, .int .i64 0, .int .i64 0] 67)).alloc (methO wr.heap.size)).heap[wr.heap.size]? = some (.cells #[.int .i64 33, .int .i64 0, .int .i64 0, .int .i64 0] 67 (0, 0))) := Lib.hid ((Below.heap_alloc _ _ _ (by simp)).trans (heap_alloc_new wr _))
          have HO4 := Lib.hid ((hown.alloc (.cells #[.int .i64 33, .int .i64 0, .int .i64 0, .int .i64 0] 67)).alloc (methO wr.heap.size))
          have HNW : Hid (∀ i u, (meth4 wr.heap.size)[i]? = some u → ((wr.alloc (.cells #[.int .i64 33, .int .i64 0, .int .i64 0, .int .i64 0] 67)).alloc (methO wr.heap.size)).cell? ((⟨wr.heap.size + 1, 0, none⟩ : Addr).add i) = some u) := Lib.hid fun i u hu => by
            have hn := heap_alloc_new (wr.alloc (.cells #[.int .i64 33, .int .i64 0, .int .i64 0, .int .i64 0] 67)) (methO wr.heap.size)
            rw [World.size_alloc] at hn
            rw [add_zero_off, cell_of_row _ (wr.heap.size + 1) i _ 62 (0, 0) hn]
            simpa [meth4] using hu
          have hoc : Hid (∀ u ∈ meth4 wr.heap.size, u.oneCell' = true) := Lib.hid (by simp [meth4, Value.oneCell'])
          have hn1 : Hid (j + 1 ≤ maxLen) := Lib.hid (by unfold maxLen; omega)
          have hn2 : Hid ((j + 1) * 72 ≤ 140737488355328) := Lib.hid (by omega)
          have hsz : Hid (x0.heap.size ≤ ((wr.alloc (.cells #[.int .i64 33, .int .i64 0, .int .i64 0, .int .i64 0] 67)).alloc (methO wr.heap.size)).heap.size) := Lib.hid (by have := hg.size; simp; omega)
          have HL4 : Hid ((meth4 wr.heap.size).length = 1 * 4) := Lib.hid rfl
          have hmo : methO wr.heap.size = .cells #[.string ⟨#[]⟩, .string ⟨#[]⟩, .string ⟨#[]⟩, .slice (some ⟨wr.heap.size, 0, none⟩) 1 1] 62 := rfl
          rw [hmo] at HAL HNEW HO4 HNW hsz
          clear hrow hown hcs hg hmo
          obtain ⟨xs, hxs⟩ : ∃ xs, meths cs j = xs := ⟨_, rfl⟩
          rw [hxs] at HO4
          have HXS := Lib.hid hxs
          clear hxs
          go_upto_region 25 with (at_builtin; refine wpList_append_own _ rfl (.tmp 80) (.tmp 84) 44 rfl x0.heap.size 62 i0 (.agg #[.string ⟨#[]⟩, .string ⟨#[]⟩, .string ⟨#[]⟩, .slice none 0 0]) 4 72 Tryd.underlying44 HI.out HZ0.out HZ1.out HZ2.out rfl (by decide) (.slice ja j jc) j xs rfl HO4.out ⟨wr.heap.size + 1, 0, none⟩ 1 1 (meth4 wr.heap.size) rfl HL4.out HNW.out hoc.out hn1.out hn2.out hsz.out ?_; intro v5 w5 hown5 hgrow5 hnil5; clear hnil5; have hp5 := (hgrow5.block pb (Nat.lt_of_lt_of_le (Array.getElem?_eq_some_iff.1 HROW.out).1 HAL.out.size) (fun e => by have h1 := (HOW.out.lt pb e.symm).1; have h2 := HPX.out; omega)).trans ((HAL.out.block pb (Array.getElem?_eq_some_iff.1 HROW.out).1).trans HROW.out); have d1 := (cell_of_row w5 pb 1 _ _ (0, 0) hp5).trans rfl; have e1 := frozen_of_row w5 pb 1 _ _ hp5; obtain ⟨va, vc, rfl⟩ := own_shapeD hown5; have HW5 := Lib.hid hown5; have HR5 := Lib.hid hgrow5; have HP5 := Lib.hid hp5; clear hown5 hgrow5 hp5)
          have HC2 : Hid (∀ i, i < j + 1 → (w5.setCell ⟨pb, 1, none⟩ (.slice va (j + 1) vc)).heap[(if i = j then wr.heap.size else cs i)]? = some (.cells #[.int .i64 33, .int .i64 0, .int .i64 0, .int .i64 0] 67 (0, 0))) := Lib.hid fun i hi => by
            have hpw : pb < wr.heap.size := (Array.getElem?_eq_some_iff.1 HROW.out).1
            have key : ∀ c, ((wr.alloc (.cells #[.int .i64 33, .int .i64 0, .int .i64 0, .int .i64 0] 67)).alloc (.cells #[.string ⟨#[]⟩, .string ⟨#[]⟩, .string ⟨#[]⟩, .slice (some ⟨wr.heap.size, 0, none⟩) 1 1] 62)).heap[c]? = some (.cells #[.int .i64 33, .int .i64 0, .int .i64 0, .int .i64 0] 67 (0, 0)) → c ≠ pb → (w5.setCell ⟨pb, 1, none⟩ (.slice va (j + 1) vc)).heap[c]? = some (.cells #[.int .i64 33, .int .i64 0, .int .i64 0, .int .i64 0] 67 (0, 0)) := fun c hc hne =>
              (heap_setCell_other w5 ⟨pb, 1, none⟩ c _ (by show c ≠ pb; exact hne)).trans ((HR5.out.block c (Array.getElem?_eq_some_iff.1 hc).1 (fun e => own_kind HO4.out hc e.symm)).trans hc)
            by_cases e : i = j
            · rw [if_pos e]
              exact key _ HNEW.out (by omega)
            · rw [if_neg e]
              have hci := HCS.out i (by omega)
              refine key _ ((HAL.out.block _ (Array.getElem?_eq_some_iff.1 hci).1).trans hci) (fun e2 => ?_)
              rw [e2, HROW.out] at hci
              simp at hci
          have HO2 : Hid ((w5.setCell ⟨pb, 1, none⟩ (.slice va (j + 1) vc)).ownsRow x0.heap.size 62 4 (.slice va (j + 1) vc) (j + 1) (meths (fun i => if i = j then wr.heap.size else cs i) (j + 1))) := Lib.hid (by
            have e1 : meths (fun i => if i = j then wr.heap.size else cs i) (j + 1) = xs ++ meth4 wr.heap.size := by
              rw [meths, ← HXS.out]
              show meths _ j ++ meth4 (if j = j then wr.heap.size else cs j) = _
              rw [if_pos rfl, meths_same _ cs j (fun i hi => by show (if i = j then _ else _) = _; rw [if_neg (by omega)])]
            rw [e1]
            exact HW5.out.kept (grown_setCellD w5 ⟨pb, 1, none⟩ _) (.inr (fun e => by have := (HW5.out.lt pb e).1; have := HPX.out; omega)))
          have HG2 : Hid (x0.grownBy (w5.setCell ⟨pb, 1, none⟩ (.slice va (j + 1) vc)) (some pb)) := Lib.hid (by
            have hs := grown_setCellD w5 ⟨pb, 1, none⟩ (.slice va (j + 1) vc)
            refine ⟨hs.os.trans (HR5.out.os.trans (HAL.out.os.trans HG.out.os)), hs.tape.trans (HR5.out.tape.trans (HAL.out.tape.trans HG.out.tape)), hs.output.trans (HR5.out.output.trans (HAL.out.output.trans HG.out.output)), Nat.le_trans HG.out.size (Nat.le_trans HAL.out.size (Nat.le_trans HR5.out.size hs.size)), fun b hb hne => ?_⟩
            have hbw : b < wr.heap.size := Nat.lt_of_lt_of_le hb HG.out.size
            have hba := Nat.lt_of_lt_of_le hbw HAL.out.size
            rw [hs.block b (Nat.lt_of_lt_of_le hba HR5.out.size) hne, HR5.out.block b hba (fun e => by have := (HOW.out.lt b e.symm).1; omega), HAL.out.block b hbw]
            exact HG.out.block b hb hne)
          have HP2 : Hid ((w5.setCell ⟨pb, 1, none⟩ (.slice va (j + 1) vc)).heap[pb]? = some (.cells #[.slice (some ⟨cb, 0, none⟩) 2 2, .slice va (j + 1) vc] 46 (0, 0))) := Lib.hid ((heap_setCell_same w5 pb 1 _ _ _ HP5.out).trans rfl)
          clear d1 e1 p1
          go_wp2_with fail
          go_roundw
          case rel => exact ⟨j + 1, va, vc, _, by omega, by go_num, HP2.out, HO2.out, HC2.out, HG2.out⟩
          case measure => simp [intOf]; omega
        · obtain rfl : j = k := by omega
          have t2 : decide (j < j) = false := by simp
          have p0 : wr.cell? ⟨pb, 0, none⟩ = some (.slice (some ⟨cb, 0, none⟩) 2 2) := (cell_of_row wr pb 0 _ _ (0, 0) hrow).trans rfl
          have hx : Below w2.heap.size w2 wr := HX.out.grown hg HX.out.size (fun b hb => by cases hb; have := HPE.out; omega)
          have HBX : Hid (Below w.heap.size w wr) := Lib.hid (HB2.out.trans (hx.mono HB2.out.size))
          have HSX := Lib.hid (HS2.out.below hx)
          have hOX := HO.out.below hx
          by_cases hk12 : j ≤ 12
          · obtain ⟨g, rfl⟩ : ∃ g, ja = some ⟨g, 0, none⟩ := by
              rcases hown.2 with ⟨_, h0⟩ | ⟨g, cap, cur, hv, _⟩
              · omega
              · cases hv; exact ⟨g, rfl⟩
            have HCL := Lib.hid (cls_of (len := 2) (f := oneF) hOX.cls (by omega) (fun i hi => by
              have : i = 0 ∨ i = 1 := by omega
              rcases this with rfl | rfl <;> rfl))
            have HM : ∀ i, i < j → MethFair wr g 0 i ⟨#[]⟩ ⟨#[]⟩ (some ⟨cs i, 0, none⟩) 1 1 := fun i hi => by
              have hc : ∀ q, q < 4 → wr.cell? ⟨g, i * 4 + q, none⟩ = (meth4 (cs i))[q]? := fun q hq => (hown.cellAt (i * 4 + q) (by omega)).trans (meths_get cs j i q hi hq)
              refine ⟨⟨?_, ?_, ?_, ?_⟩, ⟨gvL [(33, 0, 0, 0)], picks_of (hcs i hi) (by omega) (fun i j hi hj => codeV_at [(33, 0, 0, 0)] i j hi hj), fun q hq => by
                obtain rfl : q = 0 := by omega
                exact ⟨rfl, rfl, rfl, rfl⟩⟩, ⟨Nat.zero_le _, Nat.zero_le _, by omega⟩, ⟨fair_nil, fair_nil⟩, fun _ => rfl⟩
              · rw [Nat.zero_add]; exact hc 0 (by omega)
              · rw [Nat.zero_add]; exact hc 1 (by omega)
              · rw [Nat.zero_add]; exact hc 2 (by omega)
              · rw [Nat.zero_add]; exact hc 3 (by omega)
            have MC := Lib.hid (may_counts a _ 2 2 g 0 j jc oneF (fun _ => ⟨#[]⟩) (fun _ => ⟨#[]⟩) (fun i => some ⟨cs i, 0, none⟩) (fun _ => 1) (fun _ => 1) 2 j _ HSX.out (by omega) (by omega) hk12 HCL.out (fun i hi => by
              have : i = 0 ∨ i = 1 := by omega
              rcases this with rfl | rfl
              · exact ⟨fair_IR, by decide⟩
              · exact ⟨fair_nil, by decide⟩) (Nat.le_refl _) (fun i hi => by
              have : i = 0 ∨ i = 1 := by omega
              rcases this with rfl | rfl <;> decide) (fun h => absurd h (Nat.lt_irrefl _)) HM (Nat.le_refl _) (fun i _ => rfl) (fun h => absurd h (Nat.lt_irrefl _)))
            rw [if_neg (Nat.lt_irrefl 2), if_neg (Nat.lt_irrefl j)] at MC
            have t2 : decide ((j : Int) ≤ 12) = true := by simp; omega
            clear hx hOX HM hrow hown hcs hg
            go_wp2_with fail
            refine MC.out.mono ?_
            rintro e w5 ⟨hb5, rfl⟩
            have HB5 : Hid (Below w.heap.size w w5) := Lib.hid (HBX.out.trans (hb5.mono HBX.out.size))
            clear hb5 MC
            go_wp2_with fail
            go_ret
            exact ⟨rfl, HB5.out⟩
          · have MC := Lib.hid (may_toomany a (some ⟨cb, 0, none⟩) 2 2 ja j jc _ HSX.out ⟨by omega, by omega⟩ (.inr (by omega)))
            have t2 : decide ((j : Int) ≤ 12) = false := by simp; omega
            clear hx hOX hrow hown hcs hg
            go_wp2_with fail
            refine MC.out.mono ?_
            rintro e w5 ⟨rfl, hb5⟩
            have HB5 : Hid (Below w.heap.size w w5) := Lib.hid (HBX.out.trans (hb5.mono HBX.out.size))
            have HS5 := Lib.hid (HSX.out.below hb5)
            clear hb5 MC
            obtain ⟨x0, hx0⟩ : ∃ x, a 0 = x := ⟨_, rfl⟩
            rw [hx0]
            have HX0 := Lib.hid hx0
            clear hx0
            go_wp2_with fail
            refine (there_any _ _ _ _).mono ?_
            rintro e w6 ⟨g, rfl, g0, g1, hb6⟩
            have HB6 : Hid (Below w.heap.size w w6) := Lib.hid (HB5.out.trans (hb6.mono HB5.out.size))
            have HS6 := Lib.hid (HS5.out.below hb6)
            clear hb6 g0 g1
            go_wp2_with fail
            refine (bare_any _ _).mono ?_
            rintro e w7 ⟨rfl, hb7⟩
            have hal : Below w6.heap.size w6 (w6.alloc (.cells #[.int .i64 101, .slice (some ⟨g, 0, none⟩) 2 2] 53)) := (Below.refl _ _).alloc (Nat.le_refl _) _
            have h67 : Below w6.heap.size w6 w7 := hal.trans (hb7.mono (by simp))
            have hrow7 := (hb7.block w6.heap.size (by simp)).trans (heap_alloc_new w6 _)
            have f0 : w7.cell? ⟨w6.heap.size, 0, none⟩ = some (.int .i64 101) := (cell_of_row w7 _ 0 _ _ (0, 0) hrow7).trans rfl
            have f1 : w7.cell? ⟨w6.heap.size, 1, none⟩ = some (.slice (some ⟨g, 0, none⟩) 2 2) := (cell_of_row w7 _ 1 _ _ (0, 0) hrow7).trans rfl
            have z0 := frozen_of_row w7 w6.heap.size 0 _ _ hrow7
            have z1 := frozen_of_row w7 w6.heap.size 1 _ _ hrow7
            have h68 : Below w6.heap.size w6 ((w7.setCell ⟨w6.heap.size, 0, none⟩ (.int .i64 101)).setCell ⟨w6.heap.size, 1, none⟩ (.slice none 0 0)) := (h67.setCell (Nat.le_refl _) _).setCell (Nat.le_refl _) _
            have SP := Lib.hid (same_plain a 0 _ (HS6.out.below h68) (by omega))
            have HB8 : Hid (Below w.heap.size w ((w7.setCell ⟨w6.heap.size, 0, none⟩ (.int .i64 101)).setCell ⟨w6.heap.size, 1, none⟩ (.slice none 0 0))) := Lib.hid (HB6.out.trans (h68.mono HB6.out.size))
            rw [HX0.out] at SP
            clear hb7 hal h67 hrow7 h68
            go_wp2_with fail
            refine SP.out.mono ?_
            rintro e w9 ⟨rfl, hb9⟩
            go_wp2_with fail
            go_ret
            exact ⟨rfl, HB8.out.trans (hb9.mono HB8.out.size)⟩

end Go.Proofs.YtjcklfbpdjfibaaDoor

/-
  MovesRing: the law's walk.
-/
import Derived.Test.YtflbjfcmnopfaaaDoorMvR
namespace Go.Proofs.YtflbjfcmnopfaaaDoor
open Go.RowKit

def RGrow (n b : Nat) (w : World) (s9 s8 : Value) (wr : World) : Prop :=
  ∃ i : Nat, i ≤ n ∧ s9 = .int .i64 i ∧ wr.ownsRow w.heap.size 108 2 s8 i (mvCells (ringA n b i)) ∧ Below w.heap.size w wr
def TGrow (n b t : Nat) (w : World) (s10 s8 : Value) (wr : World) : Prop :=
  ∃ i : Nat, i ≤ t ∧ s10 = .int .i64 i ∧ wr.ownsRow w.heap.size 108 2 s8 (n + i) (mvCells (ringA n b n ++ tailA n i)) ∧ Below w.heap.size w wr
def SeenRel (n b t : Nat) (B g : Nat) (W : World) (s15 s13 : Value) (wr : World) : Prop :=
  ∃ (i : Nat) (S : Nat → Bool), i ≤ n ∧ s15 = .int .i64 i ∧ s13 = .int .i64 (cycN (begF (ringL n b t)).F (ringL n b t) i : Nat) ∧ SeenAt B g n S wr ∧ (∀ k, k < n → (S k = true ↔ SeenBy n b i k)) ∧ Below B W wr
def RDone (out : List (Int × Int)) (n : Nat) (W : World) (s9 s8 : Value) (wr : World) : Prop :=
  ∃ (k : Nat) (ks : List (Int × Int)) (bs : List Nat), k ≤ n ∧ s9 = .int .i64 k ∧ KV W.heap.size bs s8 ks wr ∧ ks.length ≤ k ∧ (∀ q, look ks q = valM (out.take k) q) ∧ Below W.heap.size W wr
def RCheck (n : Nat) (W : World) (s10 : Value) (wr : World) : Prop := ∃ k : Nat, k ≤ n ∧ s10 = .int .i64 k ∧ Below W.heap.size W wr

theorem cyc_le (F : Int → Option Int) (l : List (Int × Int)) : ∀ i, cycN F l i ≤ i
  | 0 => Nat.le_refl _
  | i + 1 => by
    have := cyc_le F l i
    by_cases q : Cyc F (l.getD i (0, 0)).1 ∧ ∀ j, j < i → ¬ Orb F (l.getD i (0, 0)).1 (l.getD j (0, 0)).1
    · rw [cycN_yes q]; omega
    · rw [cycN_no q]; omega

theorem rvalM_take {out : List (Int × Int)} {k : Nat} (h : k < out.length) : ∀ q, valM (out.take (k + 1)) q = upd (valM (out.take k)) (out.getD k (0, 0)).1 (valM (out.take k) (out.getD k (0, 0)).2) q := fun q => by
  rw [take_next out k h]
  exact congrFun (valM_next (out.take k) (out.getD k (0, 0)).1 (out.getD k (0, 0)).2) q

theorem nat_tmod (x m : Nat) : ((x : Int)).tmod (m : Int) = ((x % m : Nat) : Int) := (Int.ofNat_tmod x m).symm

set_option maxHeartbeats 8000000 in
set_option maxRecDepth 100000 in
theorem ring_main (n0 b0 t0 : Int) (w : World) (_h0 : (Lit.int .i64 n0).wf = true) (_h1 : (Lit.int .i64 b0).wf = true) (_h2 : (Lit.int .i64 t0).wf = true) : Calls Tryd.prog 14 #[.int .i64 n0, .int .i64 b0, .int .i64 t0] w (TruePost w) := by
  obtain ⟨r0, hr0⟩ : ∃ r0, n0.tmod 30 = r0 := ⟨_, rfl⟩
  have hr0b := tmod_between n0 30 (by decide)
  rw [hr0] at hr0b
  obtain ⟨r1, hr1⟩ : ∃ r1, (r0 + 30).tmod 30 = r1 := ⟨_, rfl⟩
  have hr1b := tmod_between (r0 + 30) 30 (by decide)
  have hr1p := Int.tmod_nonneg 30 (show 0 ≤ r0 + 30 by omega)
  rw [hr1] at hr1b hr1p
  obtain ⟨n, hn⟩ : ∃ n : Nat, (n : Int) = r1 + 1 := ⟨(r1 + 1).toNat, by omega⟩
  have hn0 : 0 < n := by omega
  have hn3 : n ≤ 30 := by omega
  obtain ⟨q0, hq0⟩ : ∃ q0, b0.tmod (n : Int) = q0 := ⟨_, rfl⟩
  have hq0b := tmod_between b0 n (by omega)
  rw [hq0] at hq0b
  obtain ⟨q1, hq1⟩ : ∃ q1, (q0 + (n : Int)).tmod (n : Int) = q1 := ⟨_, rfl⟩
  have hq1b := tmod_between (q0 + (n : Int)) n (by omega)
  have hq1p := Int.tmod_nonneg (n : Int) (show 0 ≤ q0 + (n : Int) by omega)
  rw [hq1] at hq1b hq1p
  obtain ⟨b, rfl⟩ : ∃ b : Nat, q1 = (b : Int) := ⟨q1.toNat, by omega⟩
  have hb : b < n := by omega
  obtain ⟨u0, hu0⟩ : ∃ u0, t0.tmod 10 = u0 := ⟨_, rfl⟩
  have hu0b := tmod_between t0 10 (by decide)
  rw [hu0] at hu0b
  obtain ⟨u1, hu1⟩ : ∃ u1, (u0 + 10).tmod 10 = u1 := ⟨_, rfl⟩
  have hu1b := tmod_between (u0 + 10) 10 (by decide)
  have hu1p := Int.tmod_nonneg 10 (show 0 ≤ u0 + 10 by omega)
  rw [hu1] at hu1b hu1p
  obtain ⟨t, rfl⟩ : ∃ t : Nat, u1 = (t : Int) := ⟨u1.toNat, by omega⟩
  have ht : t ≤ 9 := by omega
  have s1 : IntKind.i64.wrap (r0 + 30) = r0 + 30 := IntWalk.i64_in _ (by omega)
  have s2 : IntKind.i64.wrap (r1 + 1) = (n : Int) := by rw [hn]; exact IntWalk.i64_in _ (by omega)
  have s3 : IntKind.i64.wrap (q0 + (n : Int)) = q0 + (n : Int) := IntWalk.i64_in _ (by omega)
  have s4 : IntKind.i64.wrap (u0 + 10) = u0 + 10 := IntWalk.i64_in _ (by omega)
  have z1 : ((n : Int) == 0) = false := by simp; omega
  have z2 : ((n : Int) == -1) = false := by simp
  have z3 : (n : Int) ≠ 0 := by omega
  have RK : RingOk n b := ⟨hn0, hn3, hb⟩
  have HN := Lib.hid (And.intro hn0 (And.intro hn3 (And.intro hb ht)))
  have HRK := Lib.hid RK
  obtain ⟨i0, hi, hz0, hz1, hz2⟩ := info_parts moveinfo
  have HI := Lib.hid hi
  have HZ0 := Lib.hid hz0
  have HZ1 := Lib.hid hz1
  have HZ2 := Lib.hid hz2
  obtain ⟨ib, hib, hy0, hy1, hy2⟩ := info_parts boolinfo
  have HIB := Lib.hid hib
  have HY0 := Lib.hid hy0
  have HY1 := Lib.hid hy1
  have HY2 := Lib.hid hy2
  clear hr0b hr1b hr1p hq0b hq1b hq1p hu0b hu1b hu1p hn hi hz0 hz1 hz2 hib hy0 hy1 hy2 RK hn0 hn3 hb ht
  go_enter Tryd.func14, Tryd.ntmps14
  go_wp2_with fail
  refine (mfirstF w).mono ?_
  rintro e w1 ⟨rfl, hB1⟩
  have R0 : Hid (RGrow n b w (.int .i64 0) (.slice none 0 0) w1) := Lib.hid ⟨0, Nat.zero_le _, rfl, World.ownsRow_nil _ _ _ _, hB1⟩
  clear hB1
  go_wp2_with fail
  clear s1 s2 s3 s4 hr0 hr1 hq0 hq1 hu0 hu1
  go_loopw [9, 8] (fun s9 s8 wr => RGrow n b w s9 s8 wr) (fun s9 _ _ => n - (intOf s9).toNat)
  case atStart => exact R0.out
  case round =>
    clear R0
    obtain ⟨i, hi, rfl, hown, hB⟩ := hrel
    obtain ⟨va, vc, rfl⟩ := own_shapeM hown
    have hN := HN.out
    by_cases hlt : i < n
    · have t1 : decide (i < n) = true := by simpa using hlt
      have hmm : ((i : Int) + (b : Int)).tmod (n : Int) = (((i + b) % n : Nat) : Int) := by rw [← Int.natCast_add]; exact nat_tmod (i + b) n
      have s1 : IntKind.i64.wrap ((i : Int) + (b : Int)) = (i : Int) + (b : Int) := IntWalk.i64_in _ (by omega)
      have HNX := Lib.hid (ringA_next n b i)
      have hml := Nat.mod_lt (i + b) hN.1
      generalize (i + b) % n = m at *
      have HO := Lib.hid hown
      have HB := Lib.hid hB
      have HM1 := Lib.hid (show i + 1 ≤ maxLen by unfold maxLen; omega)
      have HM2 := Lib.hid (show (i + 1) * 16 ≤ 140737488355328 by omega)
      have HB3 : Hid (w.heap.size ≤ (wr.alloc (.cells #[.int .i64 (i : Int), .int .i64 (m : Int)] 108)).heap.size) := Lib.hid (by rw [World.size_alloc]; have := hB.size; omega)
      have hn30 := hN.2.1
      clear hown hB hN
      go_wp2_with (at_builtin; refine wpList_append_own _ rfl (.tmp 42) (.tmp 50) 103 rfl w.heap.size 108 i0 (.agg #[.int .i64 0, .int .i64 0]) 2 16 Tryd.underlying103 HI.out HZ0.out HZ1.out HZ2.out rfl (by decide) (.slice va i vc) i (mvCells (ringA n b i)) rfl (HO.out.alloc _) ⟨wr.heap.size, 0, none⟩ 1 1 [.int .i64 (i : Int), .int .i64 (m : Int)] rfl rfl (cells_newM _ _ _ _) (by simp [Value.oneCell']) HM1.out HM2.out HB3.out ?_; intro v5 w5 hown5 hgrow5 hnil5; obtain ⟨va5, vc5, rfl⟩ := own_shapeM hown5; replace hown5 := Lib.hid hown5; replace hgrow5 := Lib.hid hgrow5; clear hnil5)
      go_roundw
      case rel => exact ⟨i + 1, by omega, by go_num, by rw [HNX.out, mvCells_next]; exact hown5.out, (HB.out.alloc HB.out.size _).grown hgrow5.out HB3.out (fun z hz => (HO.out.lt z hz).1)⟩
      case measure => simp [intOf]; omega
    · obtain rfl : i = n := by omega
      have t1 : decide (i < i) = false := by simp
      have T0 : Hid (TGrow i b t w (.int .i64 0) (.slice va i vc) wr) := Lib.hid ⟨0, Nat.zero_le _, rfl, by rw [show ringA i b i ++ tailA i 0 = ringA i b i by simp [tailA]]; exact hown, hB⟩
      clear hown hB hN
      go_wp2_with fail
      go_loopw [10, 8] (fun s10 s8 wr => TGrow i b t w s10 s8 wr) (fun s10 _ _ => t - (intOf s10).toNat)
      case atStart => exact T0.out
      case round =>
        clear T0
        obtain ⟨j, hj, rfl, hown, hB⟩ := hrel
        obtain ⟨va, vc, rfl⟩ := own_shapeM hown
        have hN := HN.out
        by_cases hlt : j < t
        · have t1 : decide (j < t) = true := by simpa using hlt
          have hmm := nat_tmod j i
          obtain ⟨x, hx⟩ : ∃ x : Int, x = 100 + (j : Int) := ⟨_, rfl⟩
          have s1 : IntKind.i64.wrap (100 + (j : Int)) = x := by rw [hx]; exact IntWalk.i64_in _ (by omega)
          have HNX : Hid (ringA i b i ++ tailA i (j + 1) = (ringA i b i ++ tailA i j) ++ [(x, ((j % i : Nat) : Int))]) := Lib.hid (by rw [hx, tailA_next, List.append_assoc])
          have hml := Nat.mod_lt j hN.1
          generalize j % i = m at *
          have HO := Lib.hid hown
          have HB := Lib.hid hB
          have HM1 := Lib.hid (show i + j + 1 ≤ maxLen by unfold maxLen; omega)
          have HM2 := Lib.hid (show (i + j + 1) * 16 ≤ 140737488355328 by omega)
          have HB3 : Hid (w.heap.size ≤ (wr.alloc (.cells #[.int .i64 x, .int .i64 (m : Int)] 108)).heap.size) := Lib.hid (by rw [World.size_alloc]; have := hB.size; omega)
          have ht9 := hN.2.2.2
          clear hown hB hN hx
          go_wp2_with (at_builtin; refine wpList_append_own _ rfl (.tmp 57) (.tmp 64) 103 rfl w.heap.size 108 i0 (.agg #[.int .i64 0, .int .i64 0]) 2 16 Tryd.underlying103 HI.out HZ0.out HZ1.out HZ2.out rfl (by decide) (.slice va (i + j) vc) (i + j) (mvCells (ringA i b i ++ tailA i j)) rfl (HO.out.alloc _) ⟨wr.heap.size, 0, none⟩ 1 1 [.int .i64 x, .int .i64 (m : Int)] rfl rfl (cells_newM _ _ _ _) (by simp [Value.oneCell']) HM1.out HM2.out HB3.out ?_; intro v5 w5 hown5 hgrow5 hnil5; obtain ⟨va5, vc5, rfl⟩ := own_shapeM hown5; replace hown5 := Lib.hid hown5; replace hgrow5 := Lib.hid hgrow5; clear hnil5)
          go_roundw
          case rel => exact ⟨j + 1, by omega, by go_num, by rw [HNX.out, mvCells_next]; exact hown5.out, (HB.out.alloc HB.out.size _).grown hgrow5.out HB3.out (fun z hz => (HO.out.lt z hz).1)⟩
          case measure => simp [intOf]; omega
        · obtain rfl : j = t := by omega
          obtain ⟨W0, rfl⟩ : ∃ W0 : World, W0 = wr := ⟨_, rfl⟩
          have t1 : decide (j < j) = false := by simp
          obtain ⟨va', vc', he, hrow⟩ := mrow_own hown
          cases he
          have hle2 := hrow.le
          have hmx := hrow.max
          unfold maxLen at hmx
          obtain ⟨out, c, ho, hc, hcn, hol, hov⟩ := ring_told i b j (-7) hN.1 hN.2.1 hN.2.2.1 hN.2.2.2 (.inl (by decide))
          obtain ⟨out2, c2, ho2, hc2, _⟩ := ring_told i b j 1001 hN.1 hN.2.1 hN.2.2.1 hN.2.2.2 (.inr (by decide))
          have hpl : ∀ m ∈ ringL i b j, (isP m.1 = true ∧ isP m.2 = true) ∧ m.1 ≠ -7 ∧ m.2 ≠ -7 := fun m hm => by
            have := ringL_in hN.1 hN.2.1 hN.2.2.2 hm
            simp [isP]
            omega
          have K1 := Lib.hid (order_fine va (i + j) vc (ringL i b j) (-7) out c W0 hrow (by omega) (by decide) (fun m hm => (hpl m hm).1) (ringL_nodup hN.2.1) ho (fun m hm => (hpl m hm).2))
          have KC0 := Lib.hid (fun (w' : World) (hr : MAny w' va (i + j) vc (ringL i b j)) => cycles_go va (i + j) vc (ringL i b j) out2 c2 w' hr (by omega) (fun m hm => (hpl m hm).1) (ringL_nodup hN.2.1) ho2)
          have hoq : out.length ≤ 100 := by rw [hol]; split <;> omega
          have HB := Lib.hid hB
          have HROW := Lib.hid hrow
          have HC := Lib.hid hc
          have HC2 := Lib.hid (hc2.trans hc.symm)
          have HCN := Lib.hid hcn
          have HOL := Lib.hid hol
          have HOQ := Lib.hid hoq
          have HOV := Lib.hid hov
          clear hown hrow hB hpl ho ho2 hc hc2 hol hov hoq hcn hN
          go_wp2_with fail
          refine K1.out.mono ?_
          rintro e w5 ⟨v5, rfl, hown5, hB5⟩
          have HOWN := Lib.hid hown5
          obtain ⟨da, dc, rfl, hdone⟩ := mrow_own hown5
          have B5 := Lib.hid (HB.out.trans (hB5.mono HB.out.size))
          have HROW5 := Lib.hid (HROW.out.below hB5)
          have HD5 := Lib.hid hdone
          have hdl := hdone.le
          have hdm := hdone.max
          unfold maxLen at hdm
          have HM := Lib.hid (show i ≤ maxLen by have := HN.out; unfold maxLen; omega)
          have HMB := Lib.hid (show 1 * i ≤ 281474976710656 by have := HN.out; omega)
          clear hB5 K1 hown5 hdone HOWN HROW HB
          go_wp2_with (at_make; refine wpList_make_len _ rfl (.tmp 71) (.tmp 71) 84 rfl w5.heap.size 4 ib (.bool false) 1 Tryd.underlying84 HIB.out HY0.out HY1.out HY2.out rfl .i64 .i64 _ _ i i rfl rfl (by simp) (by simp) (Nat.le_refl _) HMB.out HM.out (Nat.le_refl _) ?_; intro w6 hown6 hg6)
          have hS6 := seenAt_made hown6
          have HB6 : Hid (Below w5.heap.size w5 w6) := Lib.hid (Below.grown (Below.refl _ w5) hg6 (Nat.le_refl _) (by simp))
          have hn30 := HN.out.2.1
          have S0 : Hid (SeenRel i b j w5.heap.size w5.heap.size w5 (.int .i64 0) (.int .i64 0) w6) := Lib.hid ⟨0, _, Nat.zero_le _, rfl, rfl, hS6, fun k _ => ⟨fun h => (by cases h), fun h => absurd h (seen_start i b k)⟩, HB6.out⟩
          clear hown6 hg6 hS6 HB6
          go_wp2_with fail
          go_loopw [15, 13] (fun s15 s13 wr => SeenRel i b j w5.heap.size w5.heap.size w5 s15 s13 wr) (fun s15 _ _ => i - (intOf s15).toNat)
          case atStart => exact S0.out
          case round =>
            clear S0
            obtain ⟨W3, rfl⟩ : ∃ W3 : World, W3 = wr := ⟨_, rfl⟩
            obtain ⟨p, S, hp, rfl, rfl, hS, hsb, hB⟩ := hrel
            by_cases hlt : p < i
            · have t1 : decide (p < i) = true := by simpa using hlt
              have hcn := ring_cyc_next (t := j) HRK.out hlt
              have hcl := cyc_le (begF (ringL i b j)).F (ringL i b j) p
              have cx := hS.cell hlt
              generalize hcc : cycN (begF (ringL i b j)).F (ringL i b j) p = cp at *
              have I0 : Hid (InAt i b p S w5.heap.size w5.heap.size w5 (.int .i64 p) W3) := Lib.hid ⟨p, S, rfl, InRel.begin hlt hsb hS hB⟩
              have HSB := Lib.hid hsb
              have HCC := Lib.hid hcc
              have hcn2 : (S p = true ∧ cycN (begF (ringL i b j)).F (ringL i b j) (p + 1) = cp) ∨ (S p = false ∧ b = 0 ∧ cycN (begF (ringL i b j)).F (ringL i b j) (p + 1) = cp) ∨ (S p = false ∧ b ≠ 0 ∧ cycN (begF (ringL i b j)).F (ringL i b j) (p + 1) = cp + 1) := by
                cases hs : S p with
                | true => exact .inl ⟨rfl, hcn.2 fun h => h.2 ((hsb p hlt).1 hs)⟩
                | false =>
                  by_cases q : b = 0
                  · exact .inr (.inl ⟨rfl, q, hcn.2 fun h => h.1 q⟩)
                  · exact .inr (.inr ⟨rfl, q, hcn.1 ⟨q, fun h => by rw [(hsb p hlt).2 h] at hs; cases hs⟩⟩)
              clear hcn hsb hcc hB
              rcases hcn2 with ⟨hs, hcq⟩ | ⟨hs, hb0, hcq⟩ | ⟨hs, hb0, hcq⟩
              · rw [hs] at cx
                have HCQ := Lib.hid hcq
                clear hs hcq hcl hS
                go_wp2_with fail
                go_loopw [16] (fun s16 wr => InAt i b p S w5.heap.size w5.heap.size w5 s16 wr) (fun _ wr => unseen w5.heap.size i wr)
                case atStart => exact I0.out
                case round =>
                  obtain ⟨k, S', rfl, hin⟩ := hrel
                  have hkn := hin.lt
                  have cy := hin.at_.cell hin.lt
                  cases hs2 : S' k with
                  | true =>
                    rw [hs2] at cy
                    have HIN := Lib.hid hin
                    have HS2 := Lib.hid hs2
                    clear hin hs2
                    go_wp2_with fail
                    go_roundw
                    case rel => exact ⟨p + 1, S', by omega, by go_num, by rw [HCQ.out], HIN.out.at_, HIN.out.done hlt HSB.out HS2.out, HIN.out.below⟩
                    case measure => simp [intOf]; omega
                  | false =>
                    rw [hs2] at cy
                    have hmm : ((k : Int) + (b : Int)).tmod (i : Int) = (((k + b) % i : Nat) : Int) := by rw [← Int.natCast_add]; exact nat_tmod (k + b) i
                    have hbi := HN.out.2.2.1
                    have s1 : IntKind.i64.wrap ((k : Int) + (b : Int)) = (k : Int) + (b : Int) := IntWalk.i64_in _ (by omega)
                    have f1 := hin.at_.frozen k
                    have HST := Lib.hid hin.step
                    have HLS := Lib.hid (unseen_less hin.at_ hs2 hkn)
                    generalize (k + b) % i = m at *
                    clear hin hs2 hbi
                    go_wp2_with fail
                    go_roundw
                    case rel => exact ⟨m, _, rfl, HST.out⟩
                    case measure => exact HLS.out
              · rw [hs] at cx
                have HCQ := Lib.hid hcq
                have t2 : ((b : Int) != 0) = false := by simp [hb0]
                clear hs hcq hcl hS
                have HB0 := Lib.hid hb0
                clear hb0
                go_wp2_with fail
                go_loopw [16] (fun s16 wr => InAt i b p S w5.heap.size w5.heap.size w5 s16 wr) (fun _ wr => unseen w5.heap.size i wr)
                case atStart => exact I0.out
                case round =>
                  obtain ⟨k, S', rfl, hin⟩ := hrel
                  have hkn := hin.lt
                  have cy := hin.at_.cell hin.lt
                  cases hs2 : S' k with
                  | true =>
                    rw [hs2] at cy
                    have HIN := Lib.hid hin
                    have HS2 := Lib.hid hs2
                    clear hin hs2
                    go_wp2_with fail
                    go_roundw
                    case rel => exact ⟨p + 1, S', by omega, by go_num, by rw [HCQ.out], HIN.out.at_, HIN.out.done hlt HSB.out HS2.out, HIN.out.below⟩
                    case measure => simp [intOf]; omega
                  | false =>
                    rw [hs2] at cy
                    have hmm : ((k : Int) + (b : Int)).tmod (i : Int) = (((k + b) % i : Nat) : Int) := by rw [← Int.natCast_add]; exact nat_tmod (k + b) i
                    have hbi := HN.out.2.2.1
                    have s1 : IntKind.i64.wrap ((k : Int) + (b : Int)) = (k : Int) + (b : Int) := IntWalk.i64_in _ (by omega)
                    have f1 := hin.at_.frozen k
                    have HST := Lib.hid hin.step
                    have HLS := Lib.hid (unseen_less hin.at_ hs2 hkn)
                    generalize (k + b) % i = m at *
                    clear hin hs2 hbi
                    go_wp2_with fail
                    go_roundw
                    case rel => exact ⟨m, _, rfl, HST.out⟩
                    case measure => exact HLS.out
              · rw [hs] at cx
                have HCQ := Lib.hid hcq
                have t2 : ((b : Int) != 0) = true := by simpa using hb0
                have s2 : IntKind.i64.wrap ((cp : Int) + 1) = ((cp + 1 : Nat) : Int) := (IntWalk.i64_in _ (by omega)).trans (by omega)
                clear hs hcq hcl hS hb0
                go_wp2_with fail
                go_loopw [16] (fun s16 wr => InAt i b p S w5.heap.size w5.heap.size w5 s16 wr) (fun _ wr => unseen w5.heap.size i wr)
                case atStart => exact I0.out
                case round =>
                  obtain ⟨k, S', rfl, hin⟩ := hrel
                  have hkn := hin.lt
                  have cy := hin.at_.cell hin.lt
                  cases hs2 : S' k with
                  | true =>
                    rw [hs2] at cy
                    have HIN := Lib.hid hin
                    have HS2 := Lib.hid hs2
                    clear hin hs2
                    go_wp2_with fail
                    go_roundw
                    case rel => exact ⟨p + 1, S', by omega, by go_num, by rw [HCQ.out]; go_num, HIN.out.at_, HIN.out.done hlt HSB.out HS2.out, HIN.out.below⟩
                    case measure => simp [intOf]; omega
                  | false =>
                    rw [hs2] at cy
                    have hmm : ((k : Int) + (b : Int)).tmod (i : Int) = (((k + b) % i : Nat) : Int) := by rw [← Int.natCast_add]; exact nat_tmod (k + b) i
                    have hbi := HN.out.2.2.1
                    have s1 : IntKind.i64.wrap ((k : Int) + (b : Int)) = (k : Int) + (b : Int) := IntWalk.i64_in _ (by omega)
                    have f1 := hin.at_.frozen k
                    have HST := Lib.hid hin.step
                    have HLS := Lib.hid (unseen_less hin.at_ hs2 hkn)
                    generalize (k + b) % i = m at *
                    clear hin hs2 hbi
                    go_wp2_with fail
                    go_roundw
                    case rel => exact ⟨m, _, rfl, HST.out⟩
                    case measure => exact HLS.out
            · obtain rfl : p = i := by omega
              have t1 : decide (p < p) = false := by simp
              obtain ⟨W, rfl⟩ : ∃ W : World, W = W3 := ⟨_, rfl⟩
              rw [← HC.out] at *
              have BW : Hid (Below w.heap.size w W) := Lib.hid (B5.out.trans (hB.mono B5.out.size))
              have HROW6 := Lib.hid (HROW5.out.below hB)
              have HD6 := Lib.hid (HD5.out.below hB)
              have D0 : Hid (RDone out out.length W (.int .i64 0) (.slice none 0 0) W) := Lib.hid ⟨0, [], [], Nat.zero_le _, rfl, KV.nil _ _, Nat.le_refl _, fun q => rfl, Below.refl _ _⟩
              clear hS hsb hB HROW5 HD5 B5
              go_wp2_with fail
              go_loopw [18, 17] (fun s9 s8 wr => RDone out out.length W s9 s8 wr) (fun s9 _ _ => out.length - (intOf s9).toNat)
              case atStart => exact D0.out
              case round =>
                clear D0
                obtain ⟨k, ks, bs, hk, rfl, hKV, hkl, hlook, hB⟩ := hrel
                obtain ⟨ra, rc, rfl⟩ := own_shapeM hKV.own
                have hoq := HOQ.out
                by_cases hlt : k < out.length
                · obtain ⟨bb, off, rfl, hbl, hc⟩ := HD6.out.at_ (by omega)
                  have cx : wr.cell? ⟨bb, off + (k * 2 + 0), none⟩ = some (.int .i64 (out.getD k (0, 0)).1) := (hB.cell (p := ⟨bb, off + (k * 2 + 0), none⟩) hbl).trans (hc k hlt).1
                  have cy : wr.cell? ⟨bb, off + (k * 2 + 1), none⟩ = some (.int .i64 (out.getD k (0, 0)).2) := (hB.cell (p := ⟨bb, off + (k * 2 + 1), none⟩) hbl).trans (hc k hlt).2
                  rw [Nat.add_zero] at cx
                  rw [← Nat.add_assoc] at cy
                  have t1 : decide (k < out.length) = true := by simpa using hlt
                  have hvt := rvalM_take hlt
                  generalize out.getD k (0, 0) = m at *
                  obtain ⟨x, y⟩ := m
                  dsimp only at cx cy hvt
                  have KA := Lib.hid (fun n => at_any ra ks.length rc ks y (wr.drewN n) (hKV.kept fun _ _ => rfl))
                  have KP := Lib.hid (fun n => put_any ra ks.length rc ks x (look ks y) (wr.drewN n) (hKV.kept fun _ _ => rfl) hB.size (by omega))
                  have HLK := Lib.hid hlook
                  have HVT := Lib.hid hvt
                  have HB := Lib.hid hB
                  have HKL := Lib.hid hkl
                  clear hc hvt hKV hkl hlook hB hbl
                  go_wp2_with fail
                  go_region_with (first | (go_at_call 69; refine (KA.out _).mono ?_; rintro e w' ⟨rfl, rfl⟩) | (go_at_call 68; refine (KP.out _).mono ?_; rintro e w9 ⟨v9, ks9, bs9, rfl, hKV9, hlk9, hkl9, hB9⟩))
                  all_goals
                    have HN9 : Hid (∀ q, look ks9 q = valM (out.take (k + 1)) q) := Lib.hid fun q => by
                      rw [hlk9 q, HVT.out q, show look ks = valM (out.take k) from funext HLK.out]
                    have HK9 := Lib.hid hKV9
                    have HB9 := Lib.hid ((below_drewN HB.out _).trans hB9)
                    obtain ⟨ra9, rc9, rfl⟩ := own_shapeM hKV9.own
                    have HL9 := Lib.hid hkl9
                    clear hlk9 hKV9 hB9 hkl9
                    go_wp2_with fail
                    go_roundw
                    case rel => exact ⟨k + 1, ks9, bs9, by omega, by go_num, HK9.out, by have := HL9.out; have := HKL.out; omega, HN9.out, HB9.out⟩
                    case measure => simp [intOf]; omega
                · obtain rfl : k = out.length := by omega
                  obtain ⟨W4, rfl⟩ : ∃ W4 : World, W4 = wr := ⟨_, rfl⟩
                  have t1 : decide (out.length < out.length) = false := by simp
                  rw [List.take_of_length_le (Nat.le_refl _)] at hlook
                  have HKV := Lib.hid hKV
                  have HLK := Lib.hid hlook
                  have HB := Lib.hid hB
                  have C0 : Hid (RCheck (p + j) W4 (.int .i64 0) W4) := Lib.hid ⟨0, Nat.zero_le _, rfl, Below.refl _ _⟩
                  have HRW := Lib.hid (HROW6.out.below hB)
                  clear hKV hlook hB
                  go_wp2_with fail
                  go_loopw [19] (fun s10 wr => RCheck (p + j) W4 s10 wr) (fun s10 _ => (p + j) - (intOf s10).toNat)
                  case atStart => exact C0.out
                  case round =>
                    clear C0
                    obtain ⟨q, hq, rfl, hB⟩ := hrel
                    have hkv := HKV.out.kept (w' := wr) (fun z hz => hB.block z hz)
                    have hN := HN.out
                    by_cases hlt : q < p + j
                    · obtain ⟨bb, off, rfl, hbl, hc⟩ := HRW.out.at_ (by omega)
                      have cx : wr.cell? ⟨bb, off + (q * 2 + 0), none⟩ = some (.int .i64 ((ringL p b j).getD q (0, 0)).1) := (hB.cell (p := ⟨bb, off + (q * 2 + 0), none⟩) hbl).trans (hc q hlt).1
                      have cy : wr.cell? ⟨bb, off + (q * 2 + 1), none⟩ = some (.int .i64 ((ringL p b j).getD q (0, 0)).2) := (hB.cell (p := ⟨bb, off + (q * 2 + 1), none⟩) hbl).trans (hc q hlt).2
                      rw [Nat.add_zero] at cx
                      rw [← Nat.add_assoc] at cy
                      have t1 : decide (q < p + j) = true := by simpa using hlt
                      have hv := (HLK.out _).trans (HOV.out _ (mem_at (l := ringL p b j) (i := q) (by rw [ringL_len]; exact hlt)))
                      generalize (ringL p b j).getD q (0, 0) = m at *
                      obtain ⟨x, y⟩ := m
                      dsimp only at cx cy hv
                      have KA := Lib.hid (fun n => at_any ra ks.length rc ks x (wr.drewN n) (hkv.kept fun _ _ => rfl))
                      rw [hv] at KA
                      have HB2 := Lib.hid hB
                      have t5 : (y != y) = false := by simp
                      clear hc hv hkv hB hbl
                      go_wp2_with fail
                      go_region_with (go_at_call 69; refine (KA.out _).mono ?_; rintro e w' ⟨rfl, rfl⟩)
                      all_goals
                        go_wp2_with fail
                        go_roundw
                        case rel => exact ⟨q + 1, by omega, by go_num, below_drewN HB2.out _⟩
                        case measure => simp [intOf]; omega
                    · obtain rfl : q = p + j := by omega
                      have t1 : decide (p + j < p + j) = false := by simp
                      have BF : Hid (Below w.heap.size w wr) := Lib.hid (BW.out.trans ((HB.out.trans (hB.mono HB.out.size)).mono BW.out.size))
                      have HRF := Lib.hid (HRW.out.below hB)
                      have HBX := Lib.hid hB
                      clear hkv hB
                      obtain rfl := HC2.out
                      have hcn := HCN.out
                      have hol := HOL.out
                      have s1 : IntKind.i64.wrap ((out.length : Int) - (j : Int)) = (out.length : Int) - (j : Int) := IntWalk.i64_in _ (by have := HOQ.out; omega)
                      obtain ⟨z, hz⟩ : ∃ z : Int, z = (out.length : Int) - (j : Int) - (c2 : Int) := ⟨_, rfl⟩
                      have s2 : IntKind.i64.wrap ((out.length : Int) - (j : Int) - (c2 : Int)) = z := by rw [hz]; exact IntWalk.i64_in _ (by have := HOQ.out; omega)
                      have hz2 : z ∈ [(p : Int), 0] := by
                        rw [hz, hol]
                        split <;> simp <;> omega
                      have KAM := Lib.hid (fun w' => among_any (some ⟨(w' : World).heap.size, 0, none⟩) 2 2 [(p : Int), 0] z _ (ring_pair w' (p : Int) 0 3 (wf64 (by omega) (by omega)) (wf64 (by omega) (by omega))))
                      rw [decide_eq_true hz2] at KAM
                      have t2 : ((c2 : Int) == (c2 : Int)) = true := by simp
                      clear hcn hol hz hz2 hN
                      go_wp2_with (first | (go_at_call 66; refine (KC0.out _ HRF.out).mono ?_; rintro e w6 ⟨rfl, hB6⟩; replace hB6 := Lib.hid hB6) | (go_at_call 17; refine (KAM.out _).mono ?_; rintro e w' ⟨rfl, rfl⟩))
                      go_ret
                      exact ⟨rfl, (BF.out.trans (hB6.out.mono BF.out.size)).alloc (by have := BF.out.size; have := hB6.out.size; omega) _⟩

end Go.Proofs.YtflbjfcmnopfaaaDoor

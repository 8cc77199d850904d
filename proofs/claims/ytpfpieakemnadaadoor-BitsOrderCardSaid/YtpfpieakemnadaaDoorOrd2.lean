/-
  The law on the order in which numbers come: true, whatever comes.
-/
import Derived.Test.YtpfpieakemnadaaDoorSetG
import Derived.Test.YtpfpieakemnadaaDoorTab
import Derived.Test.YtpfpieakemnadaaDoorAmong
import Derived.Laws.AppendOwnNone
namespace Go.Proofs.YtpfpieakemnadaaDoor
open Go.RowKit

theorem low6_i64' (a : Int) : bits BinOp.and IntKind.i64 a 63 = a % 64 := by
  have key : (BitVec.ofInt 64 a &&& BitVec.ofInt 64 63).toNat = (a % ((2 ^ 64 : Nat) : Int)).toNat % 2 ^ 6 := by
    have hm : BitVec.ofInt 64 63 = BitVec.ofNat 64 (2 ^ 6 - 1) := by decide
    rw [BitVec.toNat_and, hm, BitVec.toNat_ofNat, BitVec.toNat_ofInt, Nat.mod_eq_of_lt (by omega), Nat.and_two_pow_sub_one_eq_mod]
  show IntKind.i64.wrap ((BitVec.ofInt 64 a &&& BitVec.ofInt 64 63).toNat : Nat) = _
  rw [key, IntKind.wrap_i64]
  have e64 : (2 : Nat) ^ 64 = 18446744073709551616 := by decide
  have e10 : (2 : Nat) ^ 6 = 64 := by decide
  rw [e64, e10]
  omega

/-- The list turned and told from behind. -/
def turned (zs : List Int) (t : Nat) : Nat → List Int
  | 0 => []
  | i + 1 => zs.getD ((t + i) % zs.length) 0 :: turned zs t i

theorem turned_len (zs : List Int) (t : Nat) : ∀ i, (turned zs t i).length = i
  | 0 => rfl
  | i + 1 => by show (turned zs t i).length + 1 = i + 1; rw [turned_len]

theorem turned_mem (zs : List Int) (t : Nat) (x : Int) : ∀ i, x ∈ turned zs t i ↔ ∃ q, q < i ∧ x = zs.getD ((t + q) % zs.length) 0
  | 0 => by simp [turned]
  | i + 1 => by
    show x ∈ _ :: turned zs t i ↔ _
    rw [List.mem_cons, turned_mem zs t x i]
    constructor
    · rintro (h | ⟨q, h1, h2⟩)
      · exact ⟨i, by omega, h⟩
      · exact ⟨q, by omega, h2⟩
    · rintro ⟨q, h1, h2⟩
      by_cases e : q = i
      · subst e; exact .inl h2
      · exact .inr ⟨q, by omega, h2⟩

theorem turned_all (zs : List Int) (t : Nat) (x : Int) : x ∈ turned zs t zs.length ↔ x ∈ zs := by
  rw [turned_mem]
  constructor
  · rintro ⟨q, h1, h2⟩
    have hp : (t + q) % zs.length < zs.length := Nat.mod_lt _ (by omega)
    rw [h2]
    have : zs.getD ((t + q) % zs.length) 0 = zs[(t + q) % zs.length] := by simp [List.getD, hp]
    rw [this]
    exact List.getElem_mem _
  · intro h
    obtain ⟨p, hp, rfl⟩ := List.getElem_of_mem h
    refine ⟨(p + (zs.length - t % zs.length)) % zs.length, Nat.mod_lt _ (by omega), ?_⟩
    have hm : t % zs.length < zs.length := Nat.mod_lt _ (by omega)
    have e : (t + (p + (zs.length - t % zs.length)) % zs.length) % zs.length = p := by
      rw [Nat.add_mod, Nat.mod_mod, ← Nat.add_mod]
      have e2 : t + (p + (zs.length - t % zs.length)) = p + zs.length * (t / zs.length + 1) := by
        have := Nat.div_add_mod t zs.length
        rw [Nat.mul_add, Nat.mul_one]
        omega
      rw [e2, Nat.add_mul_mod_self_left, Nat.mod_eq_of_lt hp]
    rw [e]
    simp [List.getD, hp]

theorem inL_congr {zs ys : List Int} (n : Nat) (h : ∀ x, x ∈ zs ↔ x ∈ ys) (j : Nat) : inL zs n j = inL ys n j := by
  unfold inL
  rw [List.contains_eq_mem, List.contains_eq_mem]
  congr 1
  simp only [decide_eq_decide]
  exact h _

theorem members_sorted (f : Nat → Bool) (n : Nat) : (members f n).Pairwise (· < ·) := List.Pairwise.filter _ List.pairwise_lt_range

/-- A block of one integer that was just made is the call's own. -/
theorem own_one (w : World) (x : Int) (B : Nat) (hB : B ≤ w.heap.size) : (w.alloc (.cells #[.int .i64 x] 3)).ownsRow B 3 1 (.slice (some ⟨w.heap.size, 0, none⟩) 1 1) 1 [.int .i64 x] :=
  ⟨rfl, .inr ⟨w.heap.size, 1, #[.int .i64 x], rfl, hB, heap_alloc_new w _, Nat.le_refl _, by unfold maxLen; omega, rfl, rfl⟩⟩

def TurnRel (w : World) (B : Nat) (zs : List Int) (t : Nat) (sv si : Value) (wr : World) : Prop :=
  ∃ (i : Nat), i ≤ zs.length ∧ si = .int .i64 i ∧ (sv = .slice none 0 0 ↔ i = 0) ∧ wr.ownsRow B 3 1 sv i ((turned zs t i).map (Value.int .i64)) ∧ Below B w wr

theorem own_cells {B : Nat} {w : World} {g i cap : Nat} {l : List Int} (h : w.ownsRow B 3 1 (.slice (some ⟨g, 0, none⟩) i cap) i (l.map (Value.int .i64))) :
    ∀ j u, (l.map (Value.int .i64))[j]? = some u → w.cell? ((⟨g, 0, none⟩ : Addr).add j) = some u := by
  intro j u hu
  have hj : j < i := by
    have h1 := (List.getElem?_eq_some_iff.1 hu).1
    have h2 := h.1
    omega
  have e : (⟨g, 0, none⟩ : Addr).add j = ⟨g, j, none⟩ := by
    unfold Addr.add
    split
    · rename_i h0; subst h0; rfl
    · simp
  rw [e, h.cellAt j (by omega), hu]

set_option maxHeartbeats 2000000 in
set_option maxRecDepth 100000 in
theorem order_law (a : Option Addr) (len cap : Nat) (zs : List Int) (z : Int) (w : World) (hl : Row .i64 w a len cap zs) (hz : (Lit.int .i64 z).wf = true) (hT : TabOk w) (h60 : len ≤ 60) :
    Calls Tryd.prog 6 #[.slice a len cap, .int .i64 z] w (TruePost w) := by
  have e1 := low6_i64' z
  obtain ⟨t, ht⟩ : ∃ t : Nat, z % 64 = (t : Int) := ⟨(z % 64).toNat, by omega⟩
  have ht1 : t < 64 := by omega
  rw [ht] at e1
  have hln := hl.len_eq
  subst hln
  have HR := Lib.hid hl
  have HT := Lib.hid hT
  have HW := Lib.hid hl.wf
  obtain ⟨i0, hi, hz0, hz1, hz2⟩ := info_parts intinfo
  have HI := Lib.hid hi
  have HZ0 := Lib.hid hz0
  have HZ1 := Lib.hid hz1
  have HZ2 := Lib.hid hz2
  clear hl hT ht hz hi hz0 hz1 hz2
  obtain ⟨len, hlen⟩ : ∃ len, len = zs.length := ⟨_, rfl⟩
  rw [← hlen] at h60 HR ⊢
  have HLEN := Lib.hid hlen
  clear hlen
  have d1 : decide ((60 : Int) < (len : Int)) = false := by simp; omega
  go_enter Tryd.func6, Tryd.ntmps6
  go_wp2_with fail
  refine (bfirst _ HT.out).mono ?_
  rintro e w1 ⟨rfl, hB1⟩
  have B1 := Lib.hid hB1
  have R1 := Lib.hid (Row_cells HR.out hB1)
  clear hB1
  go_wp2_with fail
  refine (set_of 300 a len cap zs _ (by decide) R1.out).mono ?_
  rintro e w2 ⟨sx, rx, rfl, hs2, hb2⟩
  have S2 := Lib.hid hs2
  have B2 : Hid (Below w.heap.size w w2) := Lib.hid (B1.out.trans (hb2.mono B1.out.size))
  have R2 := Lib.hid (Row_cells R1.out hb2)
  clear hs2 hb2 R1 HR B1
  have T0 : Hid (TurnRel w2 w2.heap.size zs t (.slice none 0 0) (.int .i64 ((0 : Nat) : Int)) w2) := Lib.hid ⟨0, Nat.zero_le _, rfl, by simp, World.ownsRow_nil _ _ _ _, Below.refl _ _⟩
  go_wp2_with fail
  go_loopw [7, 8] (fun sv si wr => TurnRel w2 w2.heap.size zs t sv si wr) (fun _ si _ => len - (intOf si).toNat)
  case atStart => exact T0.out
  case round =>
    obtain ⟨i, hi, rfl, hnil, hown, hb⟩ := hrel
    clear T0
    have HN := Lib.hid hnil
    have HO := Lib.hid hown
    have HB := Lib.hid hb
    clear hnil hown hb
    by_cases hlt : i < len
    · have t1 : decide (i < len) = true := by simpa using hlt
      have hp : (t + i) % len < len := Nat.mod_lt _ (by omega)
      obtain ⟨lb, lo, rfl, hc⟩ := Row_at R2.out (by omega)
      have hblk : lb < w2.heap.size := Row_lt R2.out (by omega) ⟨lb, lo, none⟩ rfl
      have cx : wr.cell? ⟨lb, lo + (t + i) % len, none⟩ = some (.int .i64 (zs.getD ((t + i) % len) 0)) := (HB.out.cell (p := ⟨lb, lo + (t + i) % len, none⟩) hblk).trans (hc _ hp)
      have a1 : IntKind.i64.wrap ((t : Int) + (i : Int)) = (t : Int) + (i : Int) := IntWalk.i64_in _ (by omega)
      have a2 : ((t : Int) + (i : Int)).tmod (len : Int) = (((t + i) % len : Nat) : Int) := by rw [Int.tmod_eq_emod_of_nonneg (by omega), Int.natCast_emod, Int.natCast_add]
      have a2' : ((t : Int) + (i : Int)) % (len : Int) = (((t + i) % len : Nat) : Int) := by rw [Int.natCast_emod, Int.natCast_add]
      have a3 : ((len : Int) == 0) = false := by simp; omega
      have hne : ¬ len = 0 := by omega
      have htu : turned zs t (i + 1) = zs.getD ((t + i) % len) 0 :: turned zs t i := by rw [HLEN.out]; rfl
      have hil := turned_len zs t i
      generalize hx : zs.getD ((t + i) % len) 0 = x at *
      generalize hk : (t + i) % len = k at *
      have HTU := Lib.hid htu
      have HX := Lib.hid hx
      have HK := Lib.hid hk
      have HIL := Lib.hid hil
      clear hc htu hx hk hil
      have b1 : 1 + i ≤ maxLen := by unfold maxLen; omega
      have b2 : (1 + i) * 8 ≤ 140737488355328 := by omega
      have B1' := Lib.hid b1
      have B2' := Lib.hid b2
      clear b1 b2
      by_cases hi0 : i = 0
      · have hsv := HN.out.2 hi0
        subst hsv
        have hstep : TurnRel w2 w2.heap.size zs t (.slice (some ⟨wr.heap.size, 0, none⟩) 1 1) (.int .i64 ((i : Int) + 1)) (wr.alloc (.cells #[.int .i64 x] 3)) :=
          ⟨i + 1, by have := HLEN.out; omega, by simp, by simp, by rw [HTU.out, hi0]; exact own_one wr x _ HB.out.size, HB.out.alloc HB.out.size _⟩
        have HS := Lib.hid hstep
        clear hstep hi0
        go_wp2_with (at_builtin; refine wpList_append_own_none rfl (.tmp 41) (.tmp 42) 26 rfl w2.heap.size 3 i0 1 Tryd.underlying26 HI.out _ 1 [.int .i64 x] rfl (own_one wr x _ HB.out.size) rfl ?_)
        go_roundw
        case rel => exact HS.out
        case measure => simp [intOf]; omega
      · obtain ⟨g, cp, rfl⟩ := own_form HO.out (by omega)
        have HC := Lib.hid (own_cells (HO.out.alloc (.cells #[.int .i64 x] 3)))
        have HOC : Hid (∀ u ∈ (turned zs t i).map (Value.int .i64), u.oneCell' = true) := Lib.hid (ints_oneCell .i64 _)
        have HIL2 : Hid (((turned zs t i).map (Value.int .i64)).length = i) := Lib.hid (by simp [HIL.out])
        have HSZ : Hid (w2.heap.size ≤ (wr.alloc (.cells #[.int .i64 x] 3)).heap.size) := Lib.hid (by have := HB.out.size; simp; omega)
        go_wp2_with (at_builtin; refine wpList_append_own _ rfl (.tmp 41) (.tmp 42) 26 rfl w2.heap.size 3 i0 (.int .i64 0) 1 8 Tryd.underlying26 HI.out HZ0.out HZ1.out HZ2.out rfl (by decide) _ 1 [.int .i64 x] rfl (own_one wr x _ HB.out.size) ⟨g, 0, none⟩ i cp ((turned zs t i).map (Value.int .i64)) rfl (by rw [HIL2.out, Nat.mul_one]) HC.out HOC.out B1'.out B2'.out HSZ.out ?_; intro v5 w5 hown5 hgrow5 hnil5)
        go_roundw
        case rel =>
          refine ⟨i + 1, by have := HLEN.out; omega, by go_num, ⟨fun h => ?_, fun h => (by omega)⟩, ?_, ?_⟩
          · cases (hnil5.1 h).1
          · rw [HTU.out, Nat.add_comm i 1]
            exact hown5
          · exact (HB.out.alloc HB.out.size _).grown hgrow5 HSZ.out (fun k hk => by have h1 : wr.heap.size = k := Option.some.inj (show some wr.heap.size = some k from hk); have := HB.out.size; omega)
        case measure => simp [intOf]; omega
    · obtain rfl : i = len := by have := HLEN.out; omega
      have t1 : decide (i < i) = false := by simp
      have hwf : ∀ x ∈ turned zs t i, (Lit.int .i64 x).wf = true := fun x hx => HW.out x ((turned_all zs t x).1 (by rw [← HLEN.out]; exact hx))
      obtain ⟨oa, oc, rfl, hrow⟩ := row_of_owns HO.out hwf
      have OR := Lib.hid hrow
      have B3 : Hid (Below w.heap.size w wr) := Lib.hid (B2.out.trans (HB.out.mono B2.out.size))
      have S3 := Lib.hid (S2.out.stays HB.out)
      have R3 := Lib.hid (Row_cells R2.out HB.out)
      clear hrow hwf HO HN HB S2 R2 B2 HI HZ0 HZ1 HZ2
      go_wp2_with fail
      refine (set_of 300 oa i oc (turned zs t i) _ (by decide) OR.out).mono ?_
      rintro e w4 ⟨sy, ry, rfl, hs4, hb4⟩
      have hcg : ∀ j, inL (turned zs t i) 300 j = inL zs 300 j := inL_congr 300 (fun x => by rw [HLEN.out]; exact turned_all zs t x)
      have T4 : Hid (SetF wr.heap.size sy ry 300 (inL zs 300) w4) := Lib.hid (hs4.congr hcg)
      have S4 := Lib.hid (S3.out.stays hb4)
      have R4 := Lib.hid (Row_cells R3.out hb4)
      have B4 : Hid (Below w.heap.size w w4) := Lib.hid (B3.out.trans (hb4.mono B3.out.size))
      clear hs4 hb4 hcg S3 R3 B3 OR
      go_wp2_with fail
      refine (sameF _ S4.out T4.out).mono ?_
      rintro e w' ⟨bb, rfl, hbb, nq, rfl⟩
      obtain rfl : bb = true := hbb.2 fun _ => rfl
      clear hbb
      have S5 := Lib.hid (S4.out.drewN nq)
      have T5 := Lib.hid (T4.out.drewN nq)
      go_wp2_with fail
      refine (sameF _ T5.out S5.out).mono ?_
      rintro e w' ⟨bb, rfl, hbb, mq, rfl⟩
      obtain rfl : bb = true := hbb.2 fun _ => rfl
      clear hbb
      have S6 := Lib.hid (S5.out.drewN mq)
      have T6 := Lib.hid (T5.out.drewN mq)
      have R6 := Lib.hid (Row_drewN (Row_drewN R4.out nq) mq)
      have B6 : Hid (Below w.heap.size w ((w4.drewN nq).drewN mq)) := Lib.hid (below_drewN (below_drewN B4.out nq) mq)
      clear S4 T4 S5 T5 R4 B4
      generalize (w4.drewN nq).drewN mq = w6 at *
      go_wp2_with fail
      refine (listF _ S6.out (HT.out.below B6.out (Nat.le_refl _))).mono ?_
      rintro e w7 ⟨v, rfl, hown, _, hb7⟩
      obtain ⟨ma, mc, rfl, hrow⟩ := told_row hown (members_lt S6.out.le)
      have M7 := Lib.hid hrow
      have S7 := Lib.hid (S6.out.stays hb7)
      have T7 := Lib.hid (T6.out.stays hb7)
      have R7 := Lib.hid (Row_cells R6.out hb7)
      have B7 : Hid (Below w.heap.size w w7) := Lib.hid (B6.out.trans (hb7.mono B6.out.size))
      have hq : (members (inL zs 300) 300).length ≤ 300 := Nat.le_trans (List.length_filter_le _ _) (by simp)
      have hsort := members_sorted (inL zs 300) 300
      have hin : ∀ x ∈ members (inL zs 300) 300, (x : Int) ∈ zs := fun x hx => by
        have := (List.mem_filter.1 hx).2
        simp [inL] at this
        exact this.2
      have HSORT := Lib.hid hsort
      have HIN := Lib.hid hin
      clear hown hrow hb7 S6 T6 R6 B6 hsort hin
      generalize hms : members (inL zs 300) 300 = ms at *
      have HMS := Lib.hid hms
      clear hms
      obtain ⟨q, hqq⟩ : ∃ q, q = ms.length := ⟨_, rfl⟩
      rw [← hqq] at M7 hq ⊢
      have HQ := Lib.hid hqq
      clear hqq
      go_wp2_with fail
      go_loopw [12] (fun si wr => ∃ k : Nat, k ≤ q ∧ si = .int .i64 k ∧ ∃ n, wr = w7.drewN n) (fun si _ => q - (intOf si).toNat)
      case atStart => exact ⟨0, Nat.zero_le _, rfl, 0, rfl⟩
      case round =>
        obtain ⟨k, hk, rfl, hwr⟩ := hrel
        have RN : Hid (Row .i64 wr a i cap zs) := Lib.hid (by obtain ⟨n, rfl⟩ := hwr; exact Row_drewN R7.out n)
        have hcl : ∀ p v, w7.cell? p = some v → wr.cell? p = some v := by obtain ⟨n, rfl⟩ := hwr; exact fun _ _ h => h
        have HWR := Lib.hid hwr
        clear hwr
        by_cases hlt : k < q
        · have t1 : decide (k < q) = true := by simpa using hlt
          obtain ⟨lb, lo, rfl, hc⟩ := Row_at M7.out (by omega)
          have cy := hcl _ _ (hc k hlt)
          have hkm : k < ms.length := by rw [← HQ.out]; exact hlt
          have ey : (ms.map fun x : Nat => (x : Int)).getD k 0 = ((ms[k] : Nat) : Int) := by simp [List.getD, hkm]
          rw [ey] at cy
          have hyin : ((ms[k] : Nat) : Int) ∈ zs := HIN.out _ (List.getElem_mem _)
          have KA : ∀ nq, Hid (Calls Tryd.prog 17 #[.slice a i cap, .int .i64 ((ms[k] : Nat) : Int)] (wr.drewN nq) fun e w' => e = .returned (.bool true) ∧ w' = wr.drewN nq) := fun nq => Lib.hid (by
            have h := among_any a i cap zs ((ms[k] : Nat) : Int) _ (Row_drewN RN.out nq)
            rw [decide_eq_true hyin] at h
            exact h)
          by_cases hk0 : 0 < k
          · have t2 : decide (0 < k) = true := by simpa using hk0
            obtain ⟨p, hp⟩ : ∃ p, k = p + 1 := ⟨k - 1, by omega⟩
            have cx := hcl _ _ (hc p (by omega))
            have hpm : p < ms.length := by omega
            have ex : (ms.map fun x : Nat => (x : Int)).getD p 0 = ((ms[p] : Nat) : Int) := by simp [List.getD, hpm]
            rw [ex] at cx
            have hxy : ms[p] < ms[k] := List.pairwise_iff_getElem.1 HSORT.out p k hpm hkm (by omega)
            have a1 : IntKind.i64.wrap ((k : Int) - 1) = (p : Int) := by rw [IntWalk.i64_in _ (by omega)]; omega
            have hpq : p < q := by omega
            generalize ms[p] = x at *
            generalize ms[k] = y at *
            have t3 : decide (y ≤ x) = false := by simp; omega
            have HP := Lib.hid hp
            have HK0 := Lib.hid hk0
            clear hc hcl ey ex hyin hxy hp hk0 hkm hpm
            go_wp2_with fail
            go_quiet ((go_at_call 17; exact Calls.quiet_of_same (KA _).out))
            all_goals go_wp2_with fail
            all_goals
              go_roundw
              case rel => exact ⟨k + 1, by omega, by go_num, by obtain ⟨n, h⟩ := HWR.out; exact ⟨n + nq, by rw [h, World.drewN_drewN]⟩⟩
              case measure => simp [intOf]; omega
          · have t2 : decide (0 < k) = false := by simpa using hk0
            have HK0 := Lib.hid hk0
            generalize ms[k] = y at *
            clear hc hcl ey hyin hk0 hkm
            go_wp2_with fail
            go_quiet ((go_at_call 17; exact Calls.quiet_of_same (KA _).out))
            all_goals go_wp2_with fail
            all_goals
              go_roundw
              case rel => exact ⟨k + 1, by omega, by go_num, by obtain ⟨n, h⟩ := HWR.out; exact ⟨n + nq, by rw [h, World.drewN_drewN]⟩⟩
              case measure => simp [intOf]; omega
        · obtain rfl : k = q := by omega
          have t1 : decide (k < k) = false := by simp
          obtain ⟨n, rfl⟩ := HWR.out
          have B8 : Hid (Below w.heap.size w (w7.drewN n)) := Lib.hid (below_drewN B7.out n)
          have T8 := Lib.hid (T7.out.drewN n)
          have M8 := Lib.hid (Row_drewN M7.out n)
          clear HWR RN hcl
          go_wp2_with fail
          refine (listF _ T8.out (HT.out.below B8.out (Nat.le_refl _))).mono ?_
          rintro e w9 ⟨v, rfl, hown, _, hb9⟩
          have HEQ : Hid (members (inL zs 300) 300 = ms) := HMS
          rw [HEQ.out] at hown
          obtain ⟨va, vc, rfl, hrow⟩ := told_row hown (by rw [← HEQ.out]; exact members_lt (by decide))
          have V9 := Lib.hid hrow
          have M9 := Lib.hid (Row_cells M8.out hb9)
          have B9 : Hid (Below w.heap.size w w9) := Lib.hid (B8.out.trans (hb9.mono B8.out.size))
          clear hown hrow hb9
          have hkq : ms.length = k := HQ.out.symm
          rw [hkq] at V9
          go_wp2_with fail
          refine (same_ints ma va k mc k vc _ _ _ M9.out V9.out (by omega)).mono ?_
          rintro e w10 ⟨he, lq, rfl⟩
          obtain rfl : e = .returned (.bool true) := by rw [he]; simp
          clear he
          go_wp2_with fail
          go_ret
          exact ⟨rfl, below_drewN B9.out lq⟩

/-- A list that is too long: the law says what first says. -/
theorem order_long (a : Option Addr) (len cap : Nat) (z : Int) (w : World) (hm : cap ≤ maxLen) (hl : len ≤ cap) (hT : TabOk w) (h60 : ¬ len ≤ 60) :
    Calls Tryd.prog 6 #[.slice a len cap, .int .i64 z] w (TruePost w) := by
  have HT := Lib.hid hT
  clear hT
  unfold maxLen at hm
  have d1 : decide ((60 : Int) < (len : Int)) = true := by simp; omega
  go_enter Tryd.func6, Tryd.ntmps6
  go_wp2_with fail
  refine (bfirst _ HT.out).mono ?_
  rintro e w1 ⟨rfl, hB1⟩
  have B1 := Lib.hid hB1
  clear hB1
  go_wp2_with fail
  go_ret
  exact ⟨rfl, B1.out⟩

theorem order_main (a : Option Addr) (len cap : Nat) (zs : List Int) (z : Int) (w : World) (hl : Row .i64 w a len cap zs) (hz : (Lit.int .i64 z).wf = true) (hL : laidMetH Tryd.prog Rows.bitsOrderRow.laid w) :
    Calls Tryd.prog 6 #[.slice a len cap, .int .i64 z] w (TruePost w) := by
  by_cases h : len ≤ 60
  · exact order_law a len cap zs z w hl hz (tab_of_laid hL) h
  · exact order_long a len cap z w hl.max hl.le (tab_of_laid hL) h

end Go.Proofs.YtpfpieakemnadaaDoor

/-
  WordRows, walked: it returns true, and writes nothing that was there.
-/
import Derived.Test.YtibafpbfgmjcgaaBack
namespace Go.Proofs.Ytibafpbfgmjcgaa
open Go.RowKit

/-- Numbers put one behind the other. -/
def encs (us : List Nat) : List Nat := us.flatMap (encF 9)

theorem encs_snoc (us : List Nat) (i : Nat) (h : i < us.length) : encs (us.take (i + 1)) = encs (us.take i) ++ encF 9 (us.getD i 0) := by
  rw [List.take_succ_eq_append_getElem h, encs, encs, List.flatMap_append]
  simp [List.getD, List.getElem?_eq_getElem h]

theorem encs_len (us : List Nat) : (encs us).length ≤ 10 * us.length := by
  induction us with
  | nil => simp [encs]
  | cons u us ih =>
    have := enc_len 9 u
    simp only [encs, List.flatMap_cons, List.length_append, List.length_cons] at ih ⊢
    omega

theorem takeAt_mid (pre post : List Nat) (u : Nat) (hu : u < 18446744073709551616) : takeAt (pre ++ (encF 9 u ++ post)) (pre.length : Int) = some (u, (encF 9 u).length) := by
  rw [takeAt, if_pos (by omega)]
  have e : (pre ++ (encF 9 u ++ post)).drop (pre.length : Int).toNat = encF 9 u ++ post := by simp
  rw [e, take_enc post 9 0 u 0 (by omega) (by simpa using hu) (by omega)]
  simp

theorem encs_split (us : List Nat) (i : Nat) (h : i < us.length) : encs us = encs (us.take i) ++ (encF 9 (us.getD i 0) ++ encs (us.drop (i + 1))) := by
  rw [← List.append_assoc, ← encs_snoc us i h]
  conv => lhs; rw [← List.take_append_drop (i + 1) us]
  rw [encs, List.flatMap_append]; rfl

theorem nats_casts (l : List Nat) : nats (l.map (fun (n : Nat) => (n : Int))) = l := by
  have := nats_append [] l
  simpa [nats] using this

theorem u64_nats {zs : List Int} (h : ∀ n ∈ zs, (Lit.int .u64 n).wf = true) (j : Nat) (hj : j < zs.length) : (((nats zs).getD j 0 : Nat) : Int) = zs.getD j 0 ∧ (nats zs).getD j 0 < 18446744073709551616 := by
  have hw := wf_u64 (h _ (List.getElem_mem hj))
  have e : (nats zs).getD j 0 = (zs[j]).toNat := by simp [nats, List.getD, List.getElem?_eq_getElem hj]
  rw [e]
  simp only [List.getD, List.getElem?_eq_getElem hj, Option.getD_some]
  omega

def RowsRel (zs : List Int) (w : World) (sb si : Value) (wr : World) : Prop :=
  ∃ (i : Nat) (a : Option Addr) (m cap : Nat), i ≤ zs.length ∧ si = .int .i64 i ∧ sb = .slice a m cap ∧ Row .u8 wr a m cap ((encs ((nats zs).take i)).map (fun (n : Nat) => (n : Int))) ∧ Below w.heap.size w wr

def AtRel (zs : List Int) (sat si : Value) : Prop :=
  ∃ i : Nat, i ≤ zs.length ∧ si = .int .i64 i ∧ sat = .int .i64 ((encs ((nats zs).take i)).length : Int)

theorem rows_long (a : Option Addr) (len cap : Nat) (w : World) (h : 60 < len) :
    Calls Try.prog 9 #[.slice a len cap] w (TruePost w) := by
  have t0 : decide ((60 : Int) < (len : Int)) = true := by simp; omega
  clear h
  go_enter Try.func9, Try.ntmps9
  go_wp2_with (go_at_call 10; refine (first_any _).mono ?_; rintro e w1 ⟨rfl, hb⟩)
  go_ret
  exact ⟨rfl, by assumption⟩

set_option maxRecDepth 100000 in
theorem rows_some (b off len cap : Nat) (zs : List Int) (w : World) (h : len ≤ 60) (hz : zs.length = len) (hwf : ∀ n ∈ zs, (Lit.int .u64 n).wf = true)
    (hc : ∀ j, j < len → w.cell? ⟨b, off + j, none⟩ = some (.int .u64 (zs.getD j 0))) (hblk : b < w.heap.size) :
    Calls Try.prog 9 #[.slice (some ⟨b, off, none⟩) len cap] w (TruePost w) := by
  have t0 : decide ((60 : Int) < (len : Int)) = false := by simp; omega
  have HZ := Lib.hid hz
  have HW := Lib.hid hwf
  have HC := Lib.hid hc
  have HN : Hid ((nats zs).length = len) := by rw [nats_length]; exact hz
  clear hz hwf hc
  go_enter Try.func9, Try.ntmps9
  go_wp2_with (go_at_call 10; refine (first_any _).mono ?_; rintro e w1 ⟨rfl, hb1⟩)
  have HB1 := Lib.hid hb1
  clear hb1
  go_loopw [4, 5] (fun sb si wr => RowsRel zs w sb si wr) (fun _ si _ => len - (intOf si).toNat)
  case atStart => exact ⟨0, none, 0, 0, Nat.zero_le _, rfl, rfl, row_nil _ _, HB1.out⟩
  case round =>
    obtain ⟨i, a, m, mc, hi, rfl, rfl, hrow, hbel⟩ := hrel
    have hmlen : m ≤ 10 * 60 := by
      rw [← hrow.len_eq, List.length_map]
      have := encs_len ((nats zs).take i)
      rw [List.length_take] at this
      have := HN.out
      omega
    have hi' : i ≤ len := by have := HZ.out; omega
    have HR := Lib.hid hrow
    have HB := Lib.hid hbel
    clear hrow hbel hi
    by_cases hlt : i < len
    · have t1 : decide ((i : Int) < (len : Int)) = true := by simp; omega
      have hu := u64_nats HW.out i (by have := HZ.out; omega)
      have hcell : wr.cell? ⟨b, off + i, none⟩ = some (.int .u64 (((nats zs).getD i 0 : Nat) : Int)) := by
        rw [hu.1, ← HC.out i hlt]; exact HB.out.cell (p := ⟨b, off + i, none⟩) hblk
      have HU := Lib.hid hu
      clear hu
      obtain ⟨x, hx⟩ : ∃ x, x = (nats zs).getD i 0 := ⟨_, rfl⟩
      rw [← hx] at hcell
      have HX := Lib.hid hx
      clear hx
      go_wp2_with fail
      refine (put_row a m mc _ x _ HR.out (by omega) (by rw [HX.out]; exact HU.out.2)).mono ?_
      rintro e w2 ⟨a2, m2, mc2, rfl, hrow2, _, hb2⟩
      have R : RowsRel zs w (.slice a2 m2 mc2) (.int .i64 ((i : Int) + 1)) w2 := by
        refine ⟨i + 1, a2, m2, mc2, by have := HZ.out; omega, rfl, rfl, ?_, HB.out.trans (hb2.mono HB.out.size)⟩
        rw [encs_snoc _ i (by have := HN.out; omega), List.map_append, ← HX.out]
        exact hrow2
      clear hrow2 hb2
      go_wp2
      go_roundw
      case rel => exact R
      case measure => simp [intOf]; omega
    · obtain rfl : i = len := by omega
      have t1 : decide ((i : Int) < (i : Int)) = false := by simp
      have e : (nats zs).take i = nats zs := List.take_of_length_le (by have := HN.out; omega)
      have hrow := HR.out
      rw [e] at hrow
      have HRR := Lib.hid hrow
      clear hrow e HR hlt hi'
      go_wp2
      go_loop [6, 7] (fun sat si => AtRel zs sat si) (fun _ si => i - (intOf si).toNat)
      case atStart => exact ⟨0, Nat.zero_le _, rfl, rfl⟩
      case round =>
        obtain ⟨j, hj, rfl, rfl⟩ := hrel
        have hj' : j ≤ i := by have := HZ.out; omega
        clear hj
        by_cases hlt : j < i
        · have t2 : decide ((j : Int) < (i : Int)) = true := by simp; omega
          have hu := u64_nats HW.out j (by have := HZ.out; omega)
          have hcell : wr.cell? ⟨b, off + j, none⟩ = some (.int .u64 (((nats zs).getD j 0 : Nat) : Int)) := by
            rw [hu.1, ← HC.out j hlt]; exact HB.out.cell (p := ⟨b, off + j, none⟩) hblk
          have ht : takeAt (nats ((encs (nats zs)).map (fun (n : Nat) => (n : Int)))) ((encs ((nats zs).take j)).length : Int) = some ((nats zs).getD j 0, (encF 9 ((nats zs).getD j 0)).length) := by
            rw [nats_casts]
            conv => lhs; rw [encs_split (nats zs) j (by have := HN.out; omega)]
            exact takeAt_mid _ _ _ hu.2
          have hnext : (encs ((nats zs).take (j + 1))).length = (encs ((nats zs).take j)).length + (encF 9 ((nats zs).getD j 0)).length := by
            rw [encs_snoc _ j (by have := HN.out; omega), List.length_append]
          have hp := enc_pos 9 ((nats zs).getD j 0)
          have hsz := encs_len ((nats zs).take (j + 1))
          rw [List.length_take, hnext] at hsz
          have HT := Lib.hid ht
          have HNX := Lib.hid hnext
          clear hu ht hnext
          generalize (nats zs).getD j 0 = x at *
          generalize hE : (encs ((nats zs).take j)).length = E at *
          generalize hG : (encF 9 x).length = G at *
          have HE := Lib.hid hE
          have HG := Lib.hid hG
          clear hE hG
          have f1 : decide ((E : Int) + (G : Int) ≤ (E : Int)) = false := by simp; omega
          go_wp2_with fail
          refine (take_yes a m mc _ (E : Int) x G _ HRR.out (by omega) HT.out).mono ?_
          rintro e w3 ⟨rfl, rfl⟩
          go_wp2
          go_round
          case rel => exact ⟨j + 1, by have := HZ.out; omega, by go_num, by rw [HNX.out]; go_num⟩
          case measure => simp [intOf]; omega
        · obtain rfl : j = i := by omega
          have t2 : decide ((j : Int) < (j : Int)) = false := by simp
          have e : (nats zs).take j = nats zs := List.take_of_length_le (by have := HN.out; omega)
          have hm : m = (encs ((nats zs).take j)).length := by rw [e, ← HRR.out.len_eq, List.length_map]
          have ht : takeAt (nats ((encs (nats zs)).map (fun (n : Nat) => (n : Int)))) (m : Int) = none := by
            rw [nats_casts, takeAt, if_pos (by omega), List.drop_of_length_le (by rw [hm, e]; omega)]; rfl
          rw [← hm]
          have HT := Lib.hid ht
          clear ht e hm
          go_wp2_with fail
          refine (take_no a m mc _ (m : Int) _ HRR.out (by omega) HT.out).mono ?_
          rintro e w3 ⟨rfl, rfl⟩
          go_wp2
          go_ret
          exact ⟨by simp, HB.out⟩

theorem rows_none (a : Option Addr) (cap : Nat) (w : World) :
    Calls Try.prog 9 #[.slice a 0 cap] w (TruePost w) := by
  go_enter Try.func9, Try.ntmps9
  go_wp2_with (go_at_call 10; refine (first_any _).mono ?_; rintro e w1 ⟨rfl, hb1⟩)
  have HB1 := Lib.hid hb1
  clear hb1
  go_loop [4, 5] (fun sb si => sb = .slice none 0 0 ∧ si = .int .i64 0) (fun _ _ => 0)
  case atStart => exact ⟨rfl, rfl⟩
  case round =>
    obtain ⟨rfl, rfl⟩ := hrel
    go_wp2
    go_loop [6, 7] (fun sat si => sat = .int .i64 0 ∧ si = .int .i64 0) (fun _ _ => 0)
    case atStart => exact ⟨rfl, rfl⟩
    case round =>
      obtain ⟨rfl, rfl⟩ := hrel
      go_wp2_with fail
      refine (take_no none 0 0 [] 0 _ (row_nil _ _) (by omega) (by rfl)).mono ?_
      rintro e w3 ⟨rfl, rfl⟩
      go_wp2
      go_ret
      exact ⟨rfl, HB1.out⟩

theorem rows_law (a : Option Addr) (len cap : Nat) (zs : List Int) (w : World) (hr : Row .u64 w a len cap zs) :
    Calls Try.prog 9 #[.slice a len cap] w (TruePost w) := by
  by_cases h : len ≤ 60
  · by_cases h0 : 0 < len
    · have hlt := Row_lt hr h0
      obtain ⟨b, off, rfl, hc⟩ := Row_at hr h0
      exact rows_some b off len cap zs w h hr.len_eq hr.wf hc (hlt _ rfl)
    · obtain rfl : len = 0 := by omega
      exact rows_none a cap w
  · exact rows_long a len cap w (by omega)
end Go.Proofs.Ytibafpbfgmjcgaa

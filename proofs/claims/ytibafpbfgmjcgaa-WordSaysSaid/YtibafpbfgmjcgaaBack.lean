/-
  WordBack, walked: it returns true, and writes nothing that was there.
-/
import Derived.Test.YtibafpbfgmjcgaaTakeAny
namespace Go.Proofs.Ytibafpbfgmjcgaa
open Go.RowKit

theorem nats_append (zs : List Int) (l : List Nat) : nats (zs ++ l.map (fun (n : Nat) => (n : Int))) = nats zs ++ l := by
  unfold nats
  rw [List.map_append, List.map_map]
  congr 1
  conv => rhs; rw [← List.map_id l]
  exact List.map_congr_left fun n _ => rfl

theorem enc_len : ∀ (f c : Nat), (encF f c).length ≤ f + 1 := by
  intro f
  induction f with
  | zero => intro c; simp [encF]
  | succ f ih => intro c; rw [encF]; split <;> simp [ih]

/-- What Take answers where nothing stands. -/
theorem take_no (a : Option Addr) (len cap : Nat) (zs : List Int) (i : Int) (w : World) (hr : Row .u8 w a len cap zs) (hreach : len ≤ 140737488351232) (hn : takeAt (nats zs) i = none) :
    Calls Try.prog 16 #[.slice a len cap, .int .i64 i] w fun e w' => e = .returned (.tuple #[.int .u64 0, .int .i64 0, .bool false]) ∧ w = w' := by
  refine (take_any a len cap zs i w hr hreach).mono ?_
  intro e w' h
  unfold TakePost at h
  rw [hn] at h
  exact h

/-- What Take answers where a number stands. -/
theorem take_yes (a : Option Addr) (len cap : Nat) (zs : List Int) (i : Int) (x n : Nat) (w : World) (hr : Row .u8 w a len cap zs) (hreach : len ≤ 140737488351232) (hn : takeAt (nats zs) i = some (x, n)) :
    Calls Try.prog 16 #[.slice a len cap, .int .i64 i] w fun e w' => e = .returned (.tuple #[.int .u64 (x : Int), .int .i64 (i + (n : Int)), .bool true]) ∧ w = w' := by
  refine (take_any a len cap zs i w hr hreach).mono ?_
  intro e w' h
  unfold TakePost at h
  rw [hn] at h
  exact h

theorem Row_sub {k : IntKind} {w : World} {b off len cap : Nat} {zs : List Int} (h : Row k w (some ⟨b, off, none⟩) len cap zs) (j m : Nat) (hjm : j + m ≤ len) :
    Row k w (some ⟨b, off + j, none⟩) m (cap - j) ((zs.drop j).take m) := by
  have hl := h.len_eq
  have hle := h.le
  refine ⟨by rw [List.length_take, List.length_drop]; omega, by omega, (by have := h.max; omega), fun e => (by cases e), fun ad had i hi => ?_, fun n hn => h.wf n (List.mem_of_mem_drop (List.mem_of_mem_take hn))⟩
  cases had
  obtain ⟨b', off', e, hc⟩ := Row_at h (by omega)
  cases e
  have e2 : (⟨b, off + j, none⟩ : Addr).add i = ⟨b, off + (j + i), none⟩ := by
    unfold Addr.add
    split
    · rename_i h0; subst h0; rfl
    · simp [Nat.add_assoc]
  rw [e2, hc (j + i) (by omega)]
  simp [List.getD, hi, List.getElem?_drop]

theorem back_long (n : Int) (u : Nat) (a : Option Addr) (len cap : Nat) (i : Int) (w : World) (h : 100 < len) :
    Calls Try.prog 4 #[.int .i64 n, .int .u64 u, .slice a len cap, .int .i64 i] w (TruePost w) := by
  have t0 : decide ((100 : Int) < (len : Int)) = true := by simp; omega
  clear h
  go_enter Try.func4, Try.ntmps4
  go_wp2_with (go_at_call 10; refine (first_any _).mono ?_; rintro e w1 ⟨rfl, hb⟩)
  go_ret
  exact ⟨rfl, by assumption⟩

set_option maxRecDepth 100000 in
theorem back_short (n : Int) (u : Nat) (a : Option Addr) (len cap : Nat) (zs : List Int) (i : Int) (w : World) (h : len ≤ 100) (hr : Row .u8 w a len cap zs)
    (n0 : -9223372036854775808 ≤ n) (n1 : n ≤ 9223372036854775807) (u1 : u < 18446744073709551616) (i1 : i ≤ 9223372036854775807) :
    Calls Try.prog 4 #[.int .i64 n, .int .u64 u, .slice a len cap, .int .i64 i] w (TruePost w) := by
  have t0 : decide ((100 : Int) < (len : Int)) = false := by simp; omega
  have f1 : (zag (zig n) != n) = false := by rw [zag_zig]; simp
  have f2 : (zig (zag (u : Int)) != (u : Int)) = false := by rw [zig_zag _ (by omega)]; simp
  have HR := Lib.hid hr
  have HN := Lib.hid (And.intro n0 n1)
  have HU := Lib.hid u1
  have HI := Lib.hid i1
  clear hr n0 n1 u1 i1
  go_enter Try.func4, Try.ntmps4
  go_wp2_with (go_at_call 10; refine (first_any _).mono ?_; rintro e w1 ⟨rfl, hb1⟩)
  refine (put_row a len cap zs u _ (Row_cells HR.out hb1) (by omega) HU.out).mono ?_
  rintro e w2 ⟨pa, pm, pcap, rfl, hp, hpa, hb2⟩
  have hb : Below w.heap.size w w2 := hb1.trans (hb2.mono hb1.size)
  have hl2 : Row .u8 w2 a len cap zs := Row_cells HR.out hb
  have hpm : pm = len + (encF 9 u).length := by rw [← hp.len_eq, List.length_append, List.length_map, HR.out.len_eq]
  have ht : takeAt (nats (zs ++ (encF 9 u).map (fun (n : Nat) => (n : Int)))) (len : Int) = some (u, (encF 9 u).length) := by
    have e := takeAt_put (nats zs) u HU.out
    rw [nats_length, HR.out.len_eq] at e
    rw [nats_append]; exact e
  have hlen : (encF 9 u).length ≤ 10 := enc_len 9 u
  have f3 : ((len : Int) + ((encF 9 u).length : Int) != (pm : Int)) = false := by simp; omega
  have H2 := Lib.hid hl2
  have HP := Lib.hid hp
  have HPA := Lib.hid hpa
  have HB := Lib.hid hb
  have HT := Lib.hid ht
  have HPM := Lib.hid hpm
  clear hl2 hp hpa hb ht hpm hb1 hb2
  go_wp2_with fail
  refine (take_yes pa pm pcap _ (len : Int) u (encF 9 u).length _ HP.out (by have := HPM.out; omega) HT.out).mono ?_
  rintro e w3 ⟨rfl, rfl⟩
  go_wp2_with fail
  refine (zig_any n _ HN.out.1 HN.out.2).mono ?_
  rintro e w' ⟨rfl, rfl⟩
  go_wp2_with fail
  refine (zag_any (zig n) _ (zig_range n HN.out.1 HN.out.2).1 (zig_range n HN.out.1 HN.out.2).2).mono ?_
  rintro e w' ⟨rfl, rfl⟩
  go_wp2_with fail
  refine (zag_any (u : Int) _ (by omega) (by have := HU.out; omega)).mono ?_
  rintro e w' ⟨rfl, rfl⟩
  go_wp2_with fail
  refine (zig_any (zag (u : Int)) _ (zag_range _ (by omega) (by have := HU.out; omega)).1 (zag_range _ (by omega) (by have := HU.out; omega)).2).mono ?_
  rintro e w' ⟨rfl, rfl⟩
  go_wp2_with fail
  cases hq : takeAt (nats zs) i with
  | none =>
    have HQ := Lib.hid hq
    clear hq
    refine (take_no a len cap zs i _ H2.out (by omega) HQ.out).mono ?_
    rintro e w' ⟨rfl, rfl⟩
    go_wp2
    go_ret
    exact ⟨rfl, HB.out⟩
  | some xn =>
    obtain ⟨x, k⟩ := xn
    have hk := takeAt_back (nats zs) i x k (nats_lt HR.out.wf) hq
    rw [nats_length, HR.out.len_eq] at hk
    obtain ⟨i0, k0, hik, hx, he⟩ := hk
    obtain ⟨j, rfl⟩ := Int.eq_ofNat_of_zero_le i0
    simp only [Int.toNat_natCast] at hik he
    obtain ⟨b, off, ha, hc⟩ := Row_at H2.out (by omega)
    subst ha
    have HQ := Lib.hid hq
    have HX := Lib.hid hx
    have HE := Lib.hid he
    have HC := Lib.hid hc
    clear hq hx he hc i0
    have hcap := HR.out.le
    have hmax := HR.out.max
    unfold maxLen at hmax
    have g1 : decide ((j : Int) < 0) = false := by simp
    have g2 : decide ((j : Int) + (k : Int) ≤ (j : Int)) = false := by simp; omega
    have g3 : decide ((len : Int) < (j : Int) + (k : Int)) = false := by simp; omega
    refine (take_yes _ len cap zs (j : Int) x k _ H2.out (by omega) HQ.out).mono ?_
    rintro e w' ⟨rfl, rfl⟩
    go_wp2_with fail
    refine (put_row none 0 0 [] x _ (row_nil _ _) (by omega) HX.out).mono ?_
    rintro e w3 ⟨qa, qm, qcap, rfl, hq, hqa, hb3⟩
    have HQR := Lib.hid hq
    have HB3 := Lib.hid hb3
    clear hq hqa hb3
    go_wp2_with fail
    have hb3 := HB3.out
    have hl3 : Row .u8 w3 (some ⟨b, off, none⟩) len cap zs := Row_cells H2.out hb3
    have hs3 := Row_sub hl3 j k hik
    have hq3 := HQR.out
    have heq : ([] : List Int) ++ (encF 9 x).map (fun (n : Nat) => (n : Int)) = (zs.drop j).take k := by
      rw [HE.out, List.nil_append, List.map_take, List.map_drop, nats_cast HR.out.wf]
    rw [heq] at hq3
    refine (same_any qa _ qm qcap k (cap - j) _ _ w3 hq3 hs3 (by have := hq3.len_eq; rw [List.length_take, List.length_drop] at this; omega)).mono ?_
    rintro e w4 ⟨rfl, m, rfl⟩
    clear hl3 hs3 hq3 heq hb3
    go_wp2
    go_ret
    exact ⟨by simp, below_drewN (HB.out.trans (HB3.out.mono HB.out.size)) m⟩

theorem back_law (n u : Int) (a : Option Addr) (len cap : Nat) (zs : List Int) (i : Int) (w : World) (hn : (Lit.int .i64 n).wf = true) (hu : (Lit.int .u64 u).wf = true) (hr : Row .u8 w a len cap zs) (hi : (Lit.int .i64 i).wf = true) :
    Calls Try.prog 4 #[.int .i64 n, .int .u64 u, .slice a len cap, .int .i64 i] w (TruePost w) := by
  obtain ⟨u0, u1⟩ := wf_u64 hu
  obtain ⟨v, rfl⟩ := Int.eq_ofNat_of_zero_le u0
  by_cases h : len ≤ 100
  · exact back_short n v a len cap zs i w h hr (wf_i64 hn).1 (wf_i64 hn).2 (by omega) (wf_i64 hi).2
  · exact back_long n v a len cap i w (by omega)
end Go.Proofs.Ytibafpbfgmjcgaa

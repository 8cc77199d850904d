/-
  word.Take at whatever place of whatever bytes; word.Put on rows; numbers put are taken.
-/
import Derived.Test.YtjcklfbpdjfibaaDoorWrdT
namespace Go.Proofs.YtjcklfbpdjfibaaDoor
open Go.RowKit

theorem pow_small9 (c : Nat) (h : c < 2 ^ (64 - 7 * 9)) : c < 2 := by simpa using h

/-- What is put is taken. -/
theorem take_enc (rest : List Nat) : ∀ (f k c U : Nat), f + k = 9 → c < 2 ^ (64 - 7 * k) → (0 < k → 0 < c) → takeL (encF f c ++ rest) k U = some (U + c * 128 ^ k, k + (encF f c).length) := by
  intro f
  induction f with
  | zero =>
    intro k c U hk hc hp
    obtain rfl : k = 9 := by omega
    have h2 := pow_small9 c hc
    rw [encF, List.singleton_append, takeL_good c rest 9 U (by omega) (by omega) (by omega)]
    rfl
  | succ f ih =>
    intro k c U hk hc hp
    by_cases h : c < 128
    · rw [encF, if_pos h, List.singleton_append, takeL_good c rest k U (by omega) h (by omega)]
      rfl
    · have hs := put_step k c (by omega) hc (by omega)
      rw [encF, if_neg h, List.cons_append, takeL_more _ _ k U (by omega) (by omega), ih (k + 1) (c / 128) _ (by omega) hs.2 (by omega)]
      have e1 : (c % 128 + 128) % 128 = c % 128 := by omega
      have e2 : c = c % 128 + 128 * (c / 128) := by omega
      congr 2
      · rw [e1, Nat.pow_succ]
        have : c / 128 * (128 ^ k * 128) = 128 * (c / 128) * 128 ^ k := by rw [Nat.mul_comm (128 ^ k), ← Nat.mul_assoc, Nat.mul_comm (c / 128)]
        rw [this, Nat.add_assoc, ← Nat.add_mul, ← e2]
      · simp only [List.length_cons]; omega

theorem takeAt_put (bs : List Nat) (u : Nat) (hu : u < 18446744073709551616) : takeAt (bs ++ encF 9 u) (bs.length : Int) = some (u, (encF 9 u).length) := by
  rw [takeAt, if_pos (by omega)]
  have e : (bs ++ encF 9 u).drop (bs.length : Int).toNat = encF 9 u ++ [] := by simp
  rw [e, take_enc [] 9 0 u 0 (by omega) (by simpa using hu) (by omega)]
  simp

theorem enc_pos (f c : Nat) : 0 < (encF f c).length := by
  cases f with
  | zero => simp [encF]
  | succ f => rw [encF]; split <;> simp

/-- What is taken is as it is put. -/
theorem enc_take : ∀ (l : List Nat) (k U x n : Nat), (∀ g ∈ l, g < 256) → takeL l k U = some (x, n) → ∃ c, x = U + c * 128 ^ k ∧ c < 2 ^ (64 - 7 * k) ∧ (0 < k → 0 < c) ∧ k < n ∧ k ≤ 9 ∧ n ≤ k + l.length ∧ encF (9 - k) c = l.take (n - k) := by
  intro l
  induction l with
  | nil => intro k U x n _ h; cases h
  | cons g r ih =>
    intro k U x n hl h
    by_cases hk : 10 ≤ k
    · rw [takeL_end _ _ _ hk] at h; cases h
    · by_cases hg : g < 128
      · by_cases hb : (g = 0 ∧ 0 < k) ∨ (k = 9 ∧ 1 < g)
        · rw [takeL_bad g r k U (by omega) hg hb] at h; cases h
        · rw [takeL_good g r k U (by omega) hg hb] at h
          simp only [Option.some.injEq, Prod.mk.injEq] at h
          obtain ⟨rfl, rfl⟩ := h
          refine ⟨g, rfl, ?_, by omega, by omega, by omega, by simp only [List.length_cons]; omega, ?_⟩
          · rcases pow_le9 k (by omega) with rfl | rfl | rfl | rfl | rfl | rfl | rfl | rfl | rfl | rfl <;> simp <;> omega
          · rw [enc_end (9 - k) g (by omega), show k + 1 - k = 1 by omega]; rfl
      · rw [takeL_more g r k U (by omega) (by omega)] at h
        obtain ⟨c, hx, hc, hp, hn, hk9, hlen, he⟩ := ih (k + 1) _ x n (fun y hy => hl y (List.mem_cons_of_mem _ hy)) h
        have hg256 := hl g List.mem_cons_self
        have hc0 := hp (by omega)
        refine ⟨g % 128 + 128 * c, ?_, ?_, by omega, by omega, by omega, by simp only [List.length_cons]; omega, ?_⟩
        · rw [hx, Nat.pow_succ, Nat.add_mul]
          have : c * (128 ^ k * 128) = 128 * c * 128 ^ k := by rw [Nat.mul_comm (128 ^ k), ← Nat.mul_assoc, Nat.mul_comm c]
          omega
        · rcases pow_le9 (k + 1) hk9 with e | e | e | e | e | e | e | e | e | e <;> first | omega | (obtain rfl : k = _ := Nat.succ.inj e; simp at hc ⊢; omega)
        · rw [show 9 - k = (9 - (k + 1)) + 1 by omega, encF, if_neg (by omega), show n - k = (n - (k + 1)) + 1 by omega, List.take_succ_cons]
          have e1 : (g % 128 + 128 * c) % 128 + 128 = g := by omega
          have e2 : (g % 128 + 128 * c) / 128 = c := by omega
          rw [e1, e2, he]

theorem takeAt_back (bs : List Nat) (i : Int) (x n : Nat) (hb : ∀ g ∈ bs, g < 256) (h : takeAt bs i = some (x, n)) :
    0 ≤ i ∧ 0 < n ∧ i.toNat + n ≤ bs.length ∧ x < 18446744073709551616 ∧ encF 9 x = (bs.drop i.toNat).take n := by
  unfold takeAt at h
  split at h
  · rename_i hi
    obtain ⟨c, hx, hc, _, hn, _, hlen, he⟩ := enc_take _ 0 0 x n (fun g hg => hb g (List.mem_of_mem_drop hg)) h
    have hxc : x = c := by simpa using hx
    subst hxc
    rw [List.length_drop] at hlen
    refine ⟨hi, hn, by omega, by simpa using hc, by simpa using he⟩
  · cases h
/-- The bytes of a row as numbers. -/
def nats (zs : List Int) : List Nat := zs.map Int.toNat

theorem nats_length (zs : List Int) : (nats zs).length = zs.length := by simp [nats]

theorem nats_lt {zs : List Int} (h : ∀ n ∈ zs, (Lit.int .u8 n).wf = true) : ∀ g ∈ nats zs, g < 256 := by
  intro g hg
  obtain ⟨n, hn, rfl⟩ := List.mem_map.1 hg
  have := wf_u8 (h n hn)
  omega

theorem nats_cast {zs : List Int} (h : ∀ n ∈ zs, (Lit.int .u8 n).wf = true) : (nats zs).map (fun (n : Nat) => (n : Int)) = zs := by
  unfold nats
  rw [List.map_map]
  conv => rhs; rw [← List.map_id zs]
  refine List.map_congr_left fun n hn => ?_
  have := wf_u8 (h n hn)
  show ((n.toNat : Nat) : Int) = n
  omega

theorem cells_cast {zs : List Int} (h : ∀ n ∈ zs, (Lit.int .u8 n).wf = true) : (nats zs).map (fun (n : Nat) => Value.int .u8 (n : Int)) = zs.map (Value.int .u8) := by
  conv => rhs; rw [← nats_cast h]
  rw [List.map_map]; rfl

theorem getD_nats {zs : List Int} (h : ∀ n ∈ zs, (Lit.int .u8 n).wf = true) (j : Nat) : (((nats zs).getD j 0 : Nat) : Int) = zs.getD j 0 := by
  conv => rhs; rw [← nats_cast h]
  by_cases hj : j < (nats zs).length
  · simp [List.getD, List.getElem?_eq_getElem hj]
  · simp [List.getD, List.getElem?_eq_none (show (nats zs).length ≤ j by omega)]

set_option maxRecDepth 100000 in
theorem take_any (a : Option Addr) (len cap : Nat) (zs : List Int) (i : Int) (w : World) (hr : Row .u8 w a len cap zs) (hreach : len ≤ 140737488351232) :
    Calls Tryd.prog 151 #[.slice a len cap, .int .i64 i] w (TakePost (nats zs) i w) := by
  by_cases h0 : 0 ≤ i
  · by_cases h1 : i < len
    · obtain ⟨b, off, rfl, hc⟩ := Row_at hr (by omega)
      obtain ⟨n, rfl⟩ := Int.eq_ofNat_of_zero_le h0
      exact take_in b off len cap (nats zs) n w (by rw [nats_length, hr.len_eq]) (by omega) hreach (nats_lt hr.wf) (fun j hj => by rw [hc j hj, getD_nats hr.wf])
    · have hn : takeAt (nats zs) i = none := by
        rw [takeAt, if_pos h0, List.drop_of_length_le (by rw [nats_length, hr.len_eq]; omega)]; rfl
      have HN := Lib.hid hn
      have t0 : decide (i < 0) = false := by simp; omega
      have t1 : decide ((len : Int) ≤ i) = true := by simp; omega
      clear hn hr h0 h1
      go_enter Tryd.func151, Tryd.ntmps151
      go_wp2
      go_ret3
      exact post_none HN.out
  · have hn : takeAt (nats zs) i = none := by rw [takeAt, if_neg h0]
    have HN := Lib.hid hn
    have t0 : decide (i < 0) = true := by simp; omega
    clear hn hr h0
    go_enter Tryd.func151, Tryd.ntmps151
    go_wp2
    go_ret3
    exact post_none HN.out

/-- Put, its answer as a row of the call's own. -/
def PutRow (w : World) (zs : List Int) (u : Nat) (e : Ending) (w' : World) : Prop :=
  ∃ a m cap, e = .returned (.slice a m cap) ∧ Row .u8 w' a m cap (zs ++ (encF 9 u).map (fun (n : Nat) => (n : Int))) ∧ (∀ ad, a = some ad → w.heap.size ≤ ad.block) ∧ Below w.heap.size w w'

theorem enc_lt : ∀ (f c : Nat), c < 2 ^ (64 - 7 * (9 - f)) → f ≤ 9 → ∀ g ∈ encF f c, g < 256 := by
  intro f
  induction f with
  | zero => intro c hc _ g hg; have := pow_small9 c hc; simp [encF] at hg; omega
  | succ f ih =>
    intro c hc hf g hg
    rw [encF] at hg
    split at hg
    · simp at hg; omega
    · rcases List.mem_cons.1 hg with rfl | hg
      · omega
      · have hs := put_step (9 - (f + 1)) c (by omega) hc (by omega)
        refine ih (c / 128) ?_ (by omega) g hg
        have e : 9 - (f + 1) + 1 = 9 - f := by omega
        rw [e] at hs
        exact hs.2

theorem put_row (b : Option Addr) (len cap : Nat) (zs : List Int) (u : Nat) (w : World) (hb : Row .u8 w b len cap zs) (hreach : len ≤ 140737488351232) (hu : u < 18446744073709551616) :
    Calls Tryd.prog 115 #[.slice b len cap, .int .u64 u] w (PutRow w zs u) := by
  refine (put_any b len cap zs u w hb hreach hu).mono ?_
  rintro e w' ⟨v, m, rfl, hown, hbel⟩
  have e1 : zs.map (Value.int .u8) ++ (encF 9 u).map (fun (n : Nat) => Value.int .u8 (n : Int)) = (zs ++ (encF 9 u).map (fun (n : Nat) => (n : Int))).map (Value.int .u8) := by
    rw [List.map_append, List.map_map]; rfl
  rw [e1] at hown
  have hwf : ∀ n ∈ zs ++ (encF 9 u).map (fun (n : Nat) => (n : Int)), (Lit.int .u8 n).wf = true := by
    intro n hn
    rcases List.mem_append.1 hn with h | h
    · exact hb.wf n h
    · obtain ⟨g, hg, rfl⟩ := List.mem_map.1 h
      have := enc_lt 9 u (by simpa using hu) (by omega) g hg
      simp [Lit.wf, IntKind.min, IntKind.max, IntKind.signed, IntKind.bits]; omega
  obtain ⟨a, cap', rfl, hrow⟩ := row_of_owns hown hwf
  refine ⟨a, m, cap', rfl, hrow, fun ad had => ?_, hbel⟩
  subst had
  exact (hown.lt ad.block rfl).1

theorem takeAt_mid (pre post : List Nat) (u : Nat) (hu : u < 18446744073709551616) : takeAt (pre ++ (encF 9 u ++ post)) (pre.length : Int) = some (u, (encF 9 u).length) := by
  rw [takeAt, if_pos (by omega)]
  have e : (pre ++ (encF 9 u ++ post)).drop (pre.length : Int).toNat = encF 9 u ++ post := by simp
  rw [e, take_enc post 9 0 u 0 (by omega) (by simpa using hu) (by omega)]
  simp

end Go.Proofs.YtjcklfbpdjfibaaDoor

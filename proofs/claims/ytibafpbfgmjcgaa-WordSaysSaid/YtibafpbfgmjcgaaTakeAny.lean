/-
  word.Take at whatever place of whatever bytes; word.Put and SameBytes on rows.
-/
import Derived.Test.YtibafpbfgmjcgaaFirst
import Derived.Test.YtibafpbfgmjcgaaBackL
namespace Go.Proofs.Ytibafpbfgmjcgaa
open Go.RowKit

/-- The bytes of a row as numbers. -/
def nats (zs : List Int) : List Nat := zs.map Int.toNat

theorem nats_length (zs : List Int) : (nats zs).length = zs.length := by simp [nats]

theorem nats_lt {zs : List Int} (h : ∀ n ∈ zs, (Lit.int .u8 n).wf = true) : ∀ g ∈ nats zs, g < 256 := by
  intro g hg
  obtain ⟨n, hn, rfl⟩ := List.mem_map.1 hg
  have := wf_u8 (h n hn)
  omega

theorem nats_cast {zs : List Int} (h : ∀ n ∈ zs, (Lit.int .u8 n).wf = true) : (nats zs).map (fun (n : Nat) => (n : Int)) = zs := by
  unfold nats
  rw [List.map_map]
  conv => rhs; rw [← List.map_id zs]
  refine List.map_congr_left fun n hn => ?_
  have := wf_u8 (h n hn)
  show ((n.toNat : Nat) : Int) = n
  omega

theorem cells_cast {zs : List Int} (h : ∀ n ∈ zs, (Lit.int .u8 n).wf = true) : (nats zs).map (fun (n : Nat) => Value.int .u8 (n : Int)) = zs.map (Value.int .u8) := by
  conv => rhs; rw [← nats_cast h]
  rw [List.map_map]; rfl

theorem getD_nats {zs : List Int} (h : ∀ n ∈ zs, (Lit.int .u8 n).wf = true) (j : Nat) : (((nats zs).getD j 0 : Nat) : Int) = zs.getD j 0 := by
  conv => rhs; rw [← nats_cast h]
  by_cases hj : j < (nats zs).length
  · simp [List.getD, List.getElem?_eq_getElem hj]
  · simp [List.getD, List.getElem?_eq_none (show (nats zs).length ≤ j by omega)]

set_option maxRecDepth 100000 in
theorem take_any (a : Option Addr) (len cap : Nat) (zs : List Int) (i : Int) (w : World) (hr : Row .u8 w a len cap zs) (hreach : len ≤ 140737488351232) :
    Calls Try.prog 16 #[.slice a len cap, .int .i64 i] w (TakePost (nats zs) i w) := by
  by_cases h0 : 0 ≤ i
  · by_cases h1 : i < len
    · obtain ⟨b, off, rfl, hc⟩ := Row_at hr (by omega)
      obtain ⟨n, rfl⟩ := Int.eq_ofNat_of_zero_le h0
      exact take_in b off len cap (nats zs) n w (by rw [nats_length, hr.len_eq]) (by omega) hreach (nats_lt hr.wf) (fun j hj => by rw [hc j hj, getD_nats hr.wf])
    · have hn : takeAt (nats zs) i = none := by
        rw [takeAt, if_pos h0, List.drop_of_length_le (by rw [nats_length, hr.len_eq]; omega)]; rfl
      have HN := Lib.hid hn
      have t0 : decide (i < 0) = false := by simp; omega
      have t1 : decide ((len : Int) ≤ i) = true := by simp; omega
      clear hn hr h0 h1
      go_enter Try.func16, Try.ntmps16
      go_wp2
      go_ret3
      exact post_none HN.out
  · have hn : takeAt (nats zs) i = none := by rw [takeAt, if_neg h0]
    have HN := Lib.hid hn
    have t0 : decide (i < 0) = true := by simp; omega
    clear hn hr h0
    go_enter Try.func16, Try.ntmps16
    go_wp2
    go_ret3
    exact post_none HN.out

/-- Put, its answer as a row of the call's own. -/
def PutRow (w : World) (zs : List Int) (u : Nat) (e : Ending) (w' : World) : Prop :=
  ∃ a m cap, e = .returned (.slice a m cap) ∧ Row .u8 w' a m cap (zs ++ (encF 9 u).map (fun (n : Nat) => (n : Int))) ∧ (∀ ad, a = some ad → w.heap.size ≤ ad.block) ∧ Below w.heap.size w w'

theorem enc_lt : ∀ (f c : Nat), c < 2 ^ (64 - 7 * (9 - f)) → f ≤ 9 → ∀ g ∈ encF f c, g < 256 := by
  intro f
  induction f with
  | zero => intro c hc _ g hg; have := pow_small9 c hc; simp [encF] at hg; omega
  | succ f ih =>
    intro c hc hf g hg
    rw [encF] at hg
    split at hg
    · simp at hg; omega
    · rcases List.mem_cons.1 hg with rfl | hg
      · omega
      · have hs := put_step (9 - (f + 1)) c (by omega) hc (by omega)
        refine ih (c / 128) ?_ (by omega) g hg
        have e : 9 - (f + 1) + 1 = 9 - f := by omega
        rw [e] at hs
        exact hs.2

theorem put_row (b : Option Addr) (len cap : Nat) (zs : List Int) (u : Nat) (w : World) (hb : Row .u8 w b len cap zs) (hreach : len ≤ 140737488351232) (hu : u < 18446744073709551616) :
    Calls Try.prog 18 #[.slice b len cap, .int .u64 u] w (PutRow w zs u) := by
  refine (put_any b len cap zs u w hb hreach hu).mono ?_
  rintro e w' ⟨v, m, rfl, hown, hbel⟩
  have e1 : zs.map (Value.int .u8) ++ (encF 9 u).map (fun (n : Nat) => Value.int .u8 (n : Int)) = (zs ++ (encF 9 u).map (fun (n : Nat) => (n : Int))).map (Value.int .u8) := by
    rw [List.map_append, List.map_map]; rfl
  rw [e1] at hown
  have hwf : ∀ n ∈ zs ++ (encF 9 u).map (fun (n : Nat) => (n : Int)), (Lit.int .u8 n).wf = true := by
    intro n hn
    rcases List.mem_append.1 hn with h | h
    · exact hb.wf n h
    · obtain ⟨g, hg, rfl⟩ := List.mem_map.1 h
      have := enc_lt 9 u (by simpa using hu) (by omega) g hg
      simp [Lit.wf, IntKind.min, IntKind.max, IntKind.signed, IntKind.bits]; omega
  obtain ⟨a, cap', rfl, hrow⟩ := row_of_owns hown hwf
  refine ⟨a, m, cap', rfl, hrow, fun ad had => ?_, hbel⟩
  subst had
  exact (hown.lt ad.block rfl).1
end Go.Proofs.Ytibafpbfgmjcgaa

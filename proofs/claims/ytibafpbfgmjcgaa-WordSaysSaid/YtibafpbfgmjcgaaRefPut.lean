/-
  overdriveref1.Put and overdriveref.Bytes: new slices.
-/
import Derived.Test.YtibafpbfgmjcgaaRefTake
import Derived.Test.YtibafpbfgmjcgaaRef1
namespace Go.Proofs.Ytibafpbfgmjcgaa
open Go.RowKit

def RPutRel (w : World) (u : Nat) (su so : Value) (wr : World) : Prop :=
  ∃ (k c : Nat) (xs : List Nat), k ≤ 9 ∧ su = .int .u64 c ∧ wr.ownsRow w.heap.size 5 1 so k (xs.map (fun (n : Nat) => Value.int .u8 n)) ∧ xs ++ encF (9 - k) c = encF 9 u ∧ c < 2 ^ (64 - 7 * k) ∧ Below w.heap.size w wr

def RPutPost (w : World) (u : Nat) (e : Ending) (w' : World) : Prop :=
  ∃ v m, e = .returned v ∧ w'.ownsRow w.heap.size 5 1 v m ((encF 9 u).map (fun (n : Nat) => Value.int .u8 n)) ∧ Below w.heap.size w w'

theorem own_block_lt {B : Nat} {w : World} {v : Value} {e n : Nat} {xs : List Value} (h : w.ownsRow B e 1 v n xs) : ∀ k, v.ownBlock = some k → B ≤ k := fun k hk => (h.lt k hk).1

set_option maxRecDepth 100000 in
theorem rput_any (u : Nat) (w : World) (hu : u < 18446744073709551616) :
    Calls Try.prog 20 #[.int .u64 u] w (RPutPost w u) := by
  obtain ⟨i0, hi, hz0, hz1, hz2⟩ := info_parts info5
  have HU := Lib.hid hu
  clear hu
  go_enter Try.func20, Try.ntmps20
  go_wp2
  go_loopw [0, 3] (fun su so wr => RPutRel w u su so wr) (fun su _ _ => (intOf su).toNat)
  case atStart => exact ⟨0, u, [], by omega, rfl, World.ownsRow_nil _ _ _ _, rfl, by simpa using HU.out, Below.refl _ _⟩
  case round =>
    obtain ⟨k, c, xs, hk, rfl, hown, henc, hc, hbel⟩ := hrel
    have hsz' : w.heap.size ≤ wr.heap.size := hbel.size
    have HC := Lib.hid hc
    have HE := Lib.hid henc
    clear hc henc
    have b1 : k + 1 ≤ maxLen := by unfold maxLen; omega
    by_cases h128 : 128 ≤ c
    · have hd : decide ((128 : Int) ≤ (c : Int)) = true := by simp; omega
      have hk9 : k < 9 := (put_step k c hk HC.out h128).1
      have e1 : (c : Int) % 128 % 256 = (c : Int) % 128 := by omega
      have e2 : IntKind.u8.wrap ((c : Int) % 128 + 128) = (c : Int) % 128 + 128 := by rw [IntKind.wrap_u8']; omega
      have e4 : IntKind.u64.wrap ((c : Int) / 128) = (c : Int) / 128 := by
        rw [IntKind.wrap_u64]
        have : 2 ^ (64 - 7 * k) ≤ 2 ^ 64 := Nat.pow_le_pow_right (by omega) (by omega)
        have e : (2 : Nat) ^ 64 = 18446744073709551616 := by decide
        have := HC.out
        omega
      have e3 : ((c : Int) % 128 + 128) % 256 = (c : Int) % 128 + 128 := by omega
      go_wp2_with (at_builtin; refine wpList_append_own _ rfl (.tmp 6) (.tmp 11) 23 rfl w.heap.size 5 i0 (.int .u8 0) 1 1 Try.underlying23 hi hz0 hz1 hz2 rfl (by decide) _ k _ rfl (hown.alloc _) ⟨wr.heap.size, 0, none⟩ 1 1 [.int .u8 ((c : Int) % 128 + 128)] rfl rfl (by intro t u ht; match t, ht with | 0, ht => simp at ht; subst ht; simp [Addr.add]) (by intro u hu; simp at hu; subst hu; rfl) b1 (by omega) (by simp; omega) ?_; intro v1 w1 hown1 hgrow1 _)
      have R : RPutRel w u (.int .u64 ((c / 128 : Nat) : Int)) v1 w1 := ⟨k + 1, c / 128, xs ++ [c % 128 + 128], by omega, rfl, by simpa using hown1, by rw [← HE.out, List.append_assoc]; congr 1; exact enc_step k c hk9 h128, (put_step k c hk HC.out h128).2, (hbel.alloc hsz' _).grown hgrow1 (by simp; omega) (own_block_lt hown)⟩
      clear hown1 hgrow1
      go_wp2
      go_roundw
      case rel => exact R
      case measure => simp [intOf]; omega
    · have hd : decide ((128 : Int) ≤ (c : Int)) = false := by simp; omega
      have hcc : (c : Int) % 256 = (c : Int) := by omega
      go_wp2_with (at_builtin; refine wpList_append_own _ rfl (.tmp 15) (.tmp 18) 23 rfl w.heap.size 5 i0 (.int .u8 0) 1 1 Try.underlying23 hi hz0 hz1 hz2 rfl (by decide) _ k _ rfl (hown.alloc _) ⟨wr.heap.size, 0, none⟩ 1 1 [.int .u8 (c : Int)] rfl rfl (by intro t u ht; match t, ht with | 0, ht => simp at ht; subst ht; simp [Addr.add]) (by intro u hu; simp at hu; subst hu; rfl) b1 (by omega) (by simp; omega) ?_; intro v1 w1 hown1 hgrow1 _)
      have e : encF 9 u = xs ++ [c] := by rw [← HE.out, enc_end (9 - k) c h128]
      have R : w1.ownsRow w.heap.size 5 1 v1 (k + 1) ((encF 9 u).map (fun (n : Nat) => Value.int .u8 n)) := by rw [e]; simpa using hown1
      have B := (hbel.alloc hsz' (.cells #[.int .u8 (c : Int)] 5)).grown hgrow1 (by simp; omega) (own_block_lt hown)
      clear hown1 hgrow1 e
      go_wp2
      go_ret
      exact ⟨v1, k + 1, rfl, R, B⟩

def BytesPost (w : World) (zs : List Int) (len : Nat) (e : Ending) (w' : World) : Prop :=
  e = .returned (.slice (some ⟨w.heap.size, 0, none⟩) len len) ∧ w'.ownsRow w.heap.size 5 1 (.slice (some ⟨w.heap.size, 0, none⟩) len len) len (zs.map (Value.int .u8)) ∧ Below w.heap.size w w'

def BytesRel (w : World) (zs : List Int) (len : Nat) (so si : Value) (wr : World) : Prop :=
  ∃ i : Nat, i ≤ len ∧ si = .int .i64 i ∧ so = .slice (some ⟨w.heap.size, 0, none⟩) i len ∧ wr.ownsRow w.heap.size 5 1 (.slice (some ⟨w.heap.size, 0, none⟩) i len) i ((zs.take i).map (Value.int .u8)) ∧ Below w.heap.size w wr

set_option maxRecDepth 100000 in
theorem bytes_some (b off len cap : Nat) (zs : List Int) (w : World) (hz : zs.length = len) (hreach : len ≤ 140737488351232)
    (hc : ∀ j, j < len → w.cell? ⟨b, off + j, none⟩ = some (.int .u8 (zs.getD j 0))) (hblk : b < w.heap.size) :
    Calls Try.prog 19 #[.slice (some ⟨b, off, none⟩) len cap] w (BytesPost w zs len) := by
  obtain ⟨i0, hi, hz0, hz1, hz2⟩ := info_parts info5
  have HC := Lib.hid hc
  have HZ := Lib.hid hz
  have hmax : len ≤ maxLen := by unfold maxLen; omega
  have hby : i0.bytes * len ≤ 281474976710656 := by rw [hz2]; omega
  clear hc hz
  go_enter Try.func19, Try.ntmps19
  go_wp2_with (at_make; refine wpList_make_own _ rfl _ _ 23 rfl w.heap.size 5 i0 (.int .u8 0) 1 Try.underlying23 hi hz0 hz1 _ _ _ len rfl rfl (by simp) hby hmax (Nat.le_refl _) ?_; intro w0 hown0 hgrow0)
  go_wp2
  go_loopw [3, 4] (fun so si wr => BytesRel w zs len so si wr) (fun _ si _ => len - (intOf si).toNat)
  case atStart => exact ⟨0, Nat.zero_le _, rfl, rfl, by simpa using hown0, (Below.refl _ _).grown hgrow0 (Nat.le_refl _) (fun k h => by cases h)⟩
  case round =>
    obtain ⟨i, hil, rfl, rfl, hown, hbel⟩ := hrel
    clear hown0 hgrow0
    have hsz' : w.heap.size ≤ wr.heap.size := hbel.size
    by_cases hlt : i < len
    · have t1 : decide ((i : Int) < (len : Int)) = true := by simp; omega
      obtain ⟨x, hx⟩ : ∃ x, x = zs.getD i 0 := ⟨_, rfl⟩
      have hcell : wr.cell? ⟨b, off + i, none⟩ = some (.int .u8 x) := by
        rw [hx, ← HC.out i hlt]; exact hbel.cell (p := ⟨b, off + i, none⟩) hblk
      have HX := Lib.hid hx
      clear hx
      go_wp2_with (at_builtin; refine wpList_append_fits _ rfl (.tmp 14) (.tmp 19) 23 rfl w.heap.size 5 i0 1 Try.underlying23 hi hz1 w.heap.size i len _ rfl (hown.alloc _) ⟨wr.heap.size, 0, none⟩ 1 1 [.int .u8 x] rfl rfl (by intro t u ht; match t, ht with | 0, ht => simp at ht; subst ht; simp [Addr.add]) (by intro u hu; simp at hu; subst hu; rfl) (by omega) ?_; intro w1 hown1 hgrow1)
      have hlz : i < zs.length := by have := HZ.out; omega
      have R : BytesRel w zs len (.slice (some ⟨w.heap.size, 0, none⟩) (i + 1) len) (.int .i64 ((i : Int) + 1)) w1 := by
        refine ⟨i + 1, by omega, rfl, rfl, ?_, (hbel.alloc hsz' _).grown hgrow1 (by simp; omega) (fun k hk => by cases hk; exact Nat.le_refl _)⟩
        rw [List.take_succ_eq_append_getElem hlz, List.map_append]
        have : zs[i] = x := by rw [HX.out]; simp [List.getD, List.getElem?_eq_getElem hlz]
        rw [this]
        simpa using hown1
      clear hown1 hgrow1
      go_wp2
      go_roundw
      case rel => exact R
      case measure => simp [intOf]; omega
    · obtain rfl : i = len := by omega
      have t1 : decide ((i : Int) < (i : Int)) = false := by simp
      have e : zs.take i = zs := List.take_of_length_le (by have := HZ.out; omega)
      rw [e] at hown
      clear e hlt hil
      go_wp2
      go_ret
      exact ⟨rfl, hown, hbel⟩

set_option maxRecDepth 100000 in
theorem bytes_none (a : Option Addr) (cap : Nat) (w : World) :
    Calls Try.prog 19 #[.slice a 0 cap] w (BytesPost w [] 0) := by
  obtain ⟨i0, hi, hz0, hz1, hz2⟩ := info_parts info5
  have hmax : 0 ≤ maxLen := by unfold maxLen; omega
  have hby : i0.bytes * 0 ≤ 281474976710656 := by rw [hz2]; omega
  go_enter Try.func19, Try.ntmps19
  go_wp2_with (at_make; refine wpList_make_own _ rfl _ _ 23 rfl w.heap.size 5 i0 (.int .u8 0) 1 Try.underlying23 hi hz0 hz1 _ _ _ 0 rfl rfl (by simp) hby hmax (Nat.le_refl _) ?_; intro w0 hown0 hgrow0)
  go_wp2
  go_loop [3, 4] (fun so si => so = .slice (some ⟨w.heap.size, 0, none⟩) 0 0 ∧ si = .int .i64 0) (fun _ _ => 0)
  case atStart => exact ⟨rfl, rfl⟩
  case round =>
    obtain ⟨rfl, rfl⟩ := hrel
    go_wp2
    go_ret
    exact ⟨rfl, hown0, (Below.refl _ _).grown hgrow0 (Nat.le_refl _) (fun k h => by cases h)⟩

theorem bytes_any (a : Option Addr) (len cap : Nat) (zs : List Int) (w : World) (hr : Row .u8 w a len cap zs) (hreach : len ≤ 140737488351232) :
    Calls Try.prog 19 #[.slice a len cap] w (BytesPost w zs len) := by
  by_cases h0 : 0 < len
  · have hlt := Row_lt hr h0
    obtain ⟨b, off, rfl, hc⟩ := Row_at hr h0
    exact bytes_some b off len cap zs w hr.len_eq hreach hc (hlt _ rfl)
  · obtain rfl : len = 0 := by omega
    obtain rfl : zs = [] := List.eq_nil_of_length_eq_zero hr.len_eq
    exact bytes_none a cap w
end Go.Proofs.Ytibafpbfgmjcgaa

/-
  A copy of a row (the statements' own Longs).
-/
import Derived.Test.YtpfpieakemnadaaDoorPlays0
namespace Go.Proofs.YtpfpieakemnadaaDoor
open Go.RowKit

def LongsPost (n : Nat) (f : Nat → Int) (w : World) (e : Ending) (w' : World) : Prop :=
  ∃ h2, e = .returned (.slice (some ⟨h2, 0, none⟩) n n) ∧ w.heap.size ≤ h2 ∧ RowF h2 n f w' ∧ Below w.heap.size w w'

def LongsRel (w : World) (f : Nat → Int) (len : Nat) (so si : Value) (wr : World) : Prop :=
  ∃ i : Nat, i ≤ len ∧ si = .int .i64 i ∧ so = .slice (some ⟨w.heap.size, 0, none⟩) i len ∧ wr.ownsRow w.heap.size 2 1 (.slice (some ⟨w.heap.size, 0, none⟩) i len) i ((wasL f 0 i).map (Value.int .i64)) ∧ Below w.heap.size w wr

set_option maxRecDepth 100000 in
theorem longs_any {h len : Nat} {f : Nat → Int} (w : World) (r : RowF h len f w) (hlen : len ≤ 65536) (hblk : h < w.heap.size) :
    Calls Tryd.prog 52 #[.slice (some ⟨h, 0, none⟩) len len] w (LongsPost len f w) := by
  obtain ⟨i0, hi, hz0, hz1, hz2⟩ := info_parts i64info
  have hmax : len ≤ maxLen := by unfold maxLen; omega
  have hby : i0.bytes * len ≤ 281474976710656 := by rw [hz2]; omega
  have HR := Lib.hid r
  clear r
  go_enter Tryd.func52, Tryd.ntmps52
  go_wp2_with (at_make; refine wpList_make_own _ rfl _ _ 83 rfl w.heap.size 2 i0 (.int .i64 0) 1 Tryd.underlying83 hi hz0 hz1 _ _ _ len rfl rfl (by simp) hby hmax (Nat.le_refl _) ?_; intro w0 hown0 hgrow0)
  go_wp2
  go_loopw [3, 4] (fun so si wr => LongsRel w f len so si wr) (fun _ si _ => len - (intOf si).toNat)
  case atStart => exact ⟨0, Nat.zero_le _, rfl, rfl, by simpa [wasL] using hown0, (Below.refl _ _).grown hgrow0 (Nat.le_refl _) (fun k h => by cases h)⟩
  case round =>
    obtain ⟨i, hil, rfl, rfl, hown, hbel⟩ := hrel
    clear hown0 hgrow0
    have hsz' : w.heap.size ≤ wr.heap.size := hbel.size
    by_cases hlt : i < len
    · have t1 : decide ((i : Int) < (len : Int)) = true := by simp; omega
      obtain ⟨x, hx⟩ : ∃ x, f i = x := ⟨_, rfl⟩
      have hcell : wr.cell? ⟨h, i, none⟩ = some (.int .i64 x) := by
        rw [← hx, ← HR.out.cell i hlt]; exact hbel.cell (p := ⟨h, i, none⟩) hblk
      have HX := Lib.hid hx
      clear hx
      go_wp2_with (at_builtin; refine wpList_append_fits _ rfl (.tmp 14) (.tmp 19) 83 rfl w.heap.size 2 i0 1 Tryd.underlying83 hi hz1 w.heap.size i len _ rfl (hown.alloc _) ⟨wr.heap.size, 0, none⟩ 1 1 [.int .i64 x] rfl rfl (by intro t u ht; match t, ht with | 0, ht => simp at ht; subst ht; simp [Addr.add]) (by intro u hu; simp at hu; subst hu; rfl) (by omega) ?_; intro w1 hown1 hgrow1)
      have R : LongsRel w f len (.slice (some ⟨w.heap.size, 0, none⟩) (i + 1) len) (.int .i64 ((i : Int) + 1)) w1 := by
        refine ⟨i + 1, by omega, rfl, rfl, ?_, (hbel.alloc hsz' _).grown hgrow1 (by simp; omega) (fun k hk => by cases hk; exact Nat.le_refl _)⟩
        rw [wasL_next, List.map_append, Nat.zero_add, HX.out]
        simpa using hown1
      clear hown1 hgrow1
      go_wp2
      go_roundw
      case rel => exact R
      case measure => simp [intOf]; omega
    · obtain rfl : i = len := by omega
      have t1 : decide ((i : Int) < (i : Int)) = false := by simp
      have hrow := row_full hown
      have hres : RowF w.heap.size i f wr := ⟨wasL f 0 i, wasL_len _ _ _, hrow, fun j hj => by rw [wasL_get _ _ _ _ hj, Nat.zero_add]⟩
      have HRES := Lib.hid hres
      clear hown hrow hres
      go_wp2
      go_ret
      exact ⟨_, rfl, Nat.le_refl _, HRES.out, hbel⟩

end Go.Proofs.YtpfpieakemnadaaDoor

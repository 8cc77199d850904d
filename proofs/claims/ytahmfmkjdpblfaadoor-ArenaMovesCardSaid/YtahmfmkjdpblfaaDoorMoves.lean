/-
  The law on moves: true, whatever comes.
-/
import Derived.Test.YtahmfmkjdpblfaaDoorClear
namespace Go.Proofs.YtahmfmkjdpblfaaDoor
open Go.RowKit

theorem low6_i64 (a : Int) : bits BinOp.and IntKind.i64 a 63 = a % 64 := by
  have key : (BitVec.ofInt 64 a &&& BitVec.ofInt 64 63).toNat = (a % ((2 ^ 64 : Nat) : Int)).toNat % 2 ^ 6 := by
    have hm : BitVec.ofInt 64 63 = BitVec.ofNat 64 (2 ^ 6 - 1) := by decide
    rw [BitVec.toNat_and, hm, BitVec.toNat_ofNat, BitVec.toNat_ofInt, Nat.mod_eq_of_lt (by omega), Nat.and_two_pow_sub_one_eq_mod]
  show IntKind.i64.wrap ((BitVec.ofInt 64 a &&& BitVec.ofInt 64 63).toNat : Nat) = _
  rw [key, IntKind.wrap_i64]
  have e64 : (2 : Nat) ^ 64 = 18446744073709551616 := by decide
  have e6 : (2 : Nat) ^ 6 = 64 := by decide
  rw [e64, e6]
  omega

theorem AnF.congr {B b g n : Nat} {f f' : Nat → Int} {w : World} (h : AnF B b g n f w) (hf : ∀ j, j < n → f j = f' j) : AnF B b g n f' w := by
  obtain ⟨zs, hA, hz⟩ := h
  exact ⟨zs, hA, fun j hj => (hz j hj).trans (hf j hj)⟩

theorem AnF.blocks {B b g n : Nat} {f : Nat → Int} {w : World} (h : AnF B b g n f w) : b < w.heap.size ∧ g < w.heap.size := by
  obtain ⟨zs, hA, hz⟩ := h
  refine ⟨World.block_lt_of_cell? w ⟨b, 0, none⟩ hA.box, ?_⟩
  exact (Array.getElem?_eq_some_iff.1 hA.row).1

theorem AnF.below {B b g n M : Nat} {f : Nat → Int} {w w' : World} (h : AnF B b g n f w) (hb : Below M w w') (h1 : b < M) (h2 : g < M) : AnF B b g n f w' := h.kept (hb.block g h2) (hb.block b h1)

theorem new_300 (w : World) : Calls Tryd.prog 43 #[.int .i64 300] w (NewPost 300 w) := new_yes 300 w (by omega)

theorem loadI {B b g n : Nat} {f : Nat → Int} (I : Int) (i : Nat) (v : Int) (w : World) (h : AnF B b g n f w) (hI : I = i) (h1 : i < n) (hv : f i = v) :
    Calls Tryd.prog 50 #[.pointer (some ⟨b, 0, none⟩), .int .i64 I] w fun e w' => e = .returned (.tuple #[.int .i64 v, .bool true]) ∧ w = w' := by
  subst hI; subst hv
  exact loadF i w h h1

theorem storeI {B b g n : Nat} {f : Nat → Int} (I : Int) (i : Nat) (v : Int) (w : World) (h : AnF B b g n f w) (hI : I = i) (h1 : i < n) :
    Calls Tryd.prog 46 #[.pointer (some ⟨b, 0, none⟩), .int .i64 I, .int .i64 v] w (ArnPost B b g n (fun j => if j = i then v else f j) w) := by
  subst hI
  exact storeF i v w h h1

theorem copyI {B b g n : Nat} {f : Nat → Int} (T I M : Int) (tt fr m : Nat) (w : World) (h : AnF B b g n f w) (hT : T = tt) (hI : I = fr) (hM : M = m) (h1 : tt + m ≤ n) (h2 : fr + m ≤ n) :
    Calls Tryd.prog 47 #[.pointer (some ⟨b, 0, none⟩), .int .i64 T, .int .i64 I, .int .i64 M] w (ArnPost B b g n (fun j => if tt ≤ j ∧ j < tt + m then f (fr + (j - tt)) else f j) w) := by
  subst hT; subst hI; subst hM
  exact copyF tt fr m w h h1 h2

theorem copy_out {B b g : Nat} {f : Nat → Int} (w : World) (h : AnF B b g 300 f w) :
    Calls Tryd.prog 47 #[.pointer (some ⟨b, 0, none⟩), .int .i64 0, .int .i64 300, .int .i64 1] w fun e w' => e = .returned (.bool false) ∧ w = w' := by
  obtain ⟨zs, hA, _⟩ := h
  have hb := hA.box
  clear hA
  go_enter Tryd.func47, Tryd.ntmps47
  go_wp2
  go_ret
  exact ⟨rfl, rfl⟩

theorem clear_300 {B b g : Nat} {f : Nat → Int} (w : World) (h : AnF B b g 300 f w) :
    Calls Tryd.prog 49 #[.pointer (some ⟨b, 0, none⟩), .int .i64 0, .int .i64 300] w (ClearPost B b g 300 w) := clearF (n := 300) w h (by omega)

/-- What stands behind the first loop's k rounds. -/
def M1 (zs : List Int) (k : Nat) : Nat → Int := fun j => if 100 ≤ j ∧ j < 100 + k then zs.getD (j - 100) 0 else 0

theorem M1_next (zs : List Int) (k : Nat) (j : Nat) : (if j = 100 + k then zs.getD k 0 else M1 zs k j) = M1 zs (k + 1) j := by
  unfold M1
  by_cases h : j = 100 + k
  · subst h
    rw [if_pos rfl, if_pos ⟨by omega, by omega⟩]
    congr 1
    omega
  · rw [if_neg h]
    by_cases h2 : 100 ≤ j ∧ j < 100 + k
    · rw [if_pos h2, if_pos ⟨by omega, by omega⟩]
    · rw [if_neg h2, if_neg (by omega)]

def Rel1 (w : World) (b g len : Nat) (zs : List Int) (si : Value) (wr : World) : Prop :=
  ∃ i : Nat, i ≤ len ∧ si = .int .i64 i ∧ AnF w.heap.size b g 300 (M1 zs i) wr ∧ Below w.heap.size w wr

def M3 (zs : List Int) (len : Nat) (f : Nat → Int) : Prop := ∀ j, j < len → f j = zs.getD j 0 ∧ f (100 + j) = zs.getD j 0 ∧ f (200 + j) = zs.getD j 0

theorem M3_of (zs : List Int) (len : Nat) (h : len ≤ 100) :
    M3 zs len (fun j => if 0 ≤ j ∧ j < 0 + len then (fun j => if 200 ≤ j ∧ j < 200 + len then M1 zs len (100 + (j - 200)) else M1 zs len j) (200 + (j - 0)) else (fun j => if 200 ≤ j ∧ j < 200 + len then M1 zs len (100 + (j - 200)) else M1 zs len j) j) := by
  intro j hj
  unfold M1
  refine ⟨?_, ?_, ?_⟩
  · show (if 0 ≤ j ∧ j < 0 + len then (if 200 ≤ 200 + (j - 0) ∧ 200 + (j - 0) < 200 + len then (if 100 ≤ 100 + (200 + (j - 0) - 200) ∧ 100 + (200 + (j - 0) - 200) < 100 + len then zs.getD (100 + (200 + (j - 0) - 200) - 100) 0 else 0) else _) else _) = _
    rw [if_pos ⟨by omega, by omega⟩, if_pos ⟨by omega, by omega⟩, if_pos ⟨by omega, by omega⟩, show 100 + (200 + (j - 0) - 200) - 100 = j by omega]
  · show (if 0 ≤ 100 + j ∧ 100 + j < 0 + len then _ else (if 200 ≤ 100 + j ∧ 100 + j < 200 + len then _ else (if 100 ≤ 100 + j ∧ 100 + j < 100 + len then zs.getD (100 + j - 100) 0 else 0))) = _
    rw [if_neg (by omega), if_neg (by omega), if_pos ⟨by omega, by omega⟩, show 100 + j - 100 = j by omega]
  · show (if 0 ≤ 200 + j ∧ 200 + j < 0 + len then _ else (if 200 ≤ 200 + j ∧ 200 + j < 200 + len then (if 100 ≤ 100 + (200 + j - 200) ∧ 100 + (200 + j - 200) < 100 + len then zs.getD (100 + (200 + j - 200) - 100) 0 else 0) else _)) = _
    rw [if_neg (by omega), if_pos ⟨by omega, by omega⟩, if_pos ⟨by omega, by omega⟩, show 100 + (200 + j - 200) - 100 = j by omega]

theorem rep_get (n j : Nat) : (List.replicate n (0 : Int)).getD j 0 = 0 := by
  simp only [List.getD_eq_getElem?_getD, List.getElem?_replicate]
  split <;> rfl

def wasL (f : Nat → Int) (fr k : Nat) : List Int := (List.range k).map fun j => f (fr + j)
theorem wasL_len (f : Nat → Int) (fr k : Nat) : (wasL f fr k).length = k := by simp [wasL]
theorem wasL_next (f : Nat → Int) (fr k : Nat) : wasL f fr (k + 1) = wasL f fr k ++ [f (fr + k)] := by simp [wasL, List.range_succ]
theorem wasL_get (f : Nat → Int) (fr k j : Nat) (h : j < k) : (wasL f fr k).getD j 0 = f (fr + j) := by simp [wasL, List.getD, h]

def Rel3 (w : World) (base b g N fr : Nat) (f : Nat → Int) (sv si : Value) (wr : World) : Prop :=
  ∃ k : Nat, k ≤ N ∧ si = .int .i64 k ∧ wr.ownsRow base 2 1 sv k ((wasL f fr k).map (Value.int .i64)) ∧ AnF w.heap.size b g 300 f wr ∧ Below w.heap.size w wr ∧ base ≤ wr.heap.size

set_option maxRecDepth 100000 in
theorem moves_law (a : Option Addr) (len cap : Nat) (zs : List Int) (p q r : Int) (w : World)
    (hl : Row .i64 w a len cap zs) (hp : (Lit.int .i64 p).wf = true) (hq : (Lit.int .i64 q).wf = true) (hr : (Lit.int .i64 r).wf = true) :
    Calls Tryd.prog 11 #[.slice a len cap, .int .i64 p, .int .i64 q, .int .i64 r] w (TruePost w) := by
  have e1 := low6_i64 p
  have e2 := low6_i64 q
  have e3 := low6_i64 r
  obtain ⟨T, hT⟩ : ∃ F : Nat, p % 64 = (F : Int) := ⟨(p % 64).toNat, by omega⟩
  obtain ⟨U, hU⟩ : ∃ F : Nat, q % 64 = (F : Int) := ⟨(q % 64).toNat, by omega⟩
  obtain ⟨N, hN⟩ : ∃ F : Nat, r % 64 = (F : Int) := ⟨(r % 64).toNat, by omega⟩
  have hT1 : T < 64 := by omega
  have hU1 : U < 64 := by omega
  have hN1 : N < 64 := by omega
  rw [hT] at e1
  rw [hU] at e2
  rw [hN] at e3
  have hmax := hl.max
  have hle := hl.le
  have HR := Lib.hid hl
  clear hT hU hN hl hp hq hr
  unfold maxLen at hmax
  by_cases h100 : len ≤ 100
  · have d1 : decide ((100 : Int) < (len : Int)) = false := by simp; omega
    go_enter Tryd.func11, Tryd.ntmps11
    go_wp2_with fail
    refine (afirst _).mono ?_
    rintro e w1 ⟨rfl, hB⟩
    go_wp2_with fail
    refine (new_300 _).mono ?_
    rintro e w2 ⟨b, g, rfl, hb0, hb1, hA, hB2⟩
    have hsz1 := hB.size
    have hA1 : An w.heap.size b g 300 (List.replicate 300 0) w2 := ⟨hA.len, hA.small, hA.box, hA.row, hA.ne, Nat.le_trans hB.size hA.lo⟩
    have hA2 : AnF w.heap.size b g 300 (M1 zs 0) w2 := ⟨_, hA1, fun j hj => by unfold M1; rw [if_neg (by omega)]; exact rep_get 300 j⟩
    have hB3 : Below w.heap.size w w2 := hB.trans (hB2.mono hB.size)
    clear hA hB hB2 hA1 hsz1
    have HA2 := Lib.hid hA2
    have HB3 := Lib.hid hB3
    clear hA2 hB3
    go_wp2_with fail
    go_loopw [12] (fun si wr => Rel1 w b g len zs si wr) (fun si _ => len - (intOf si).toNat)
    case atStart => exact ⟨0, Nat.zero_le _, rfl, HA2.out, HB3.out⟩
    case round =>
      obtain ⟨i, hi, rfl, hA, hB⟩ := hrel
      clear HA2 HB3
      have HA := Lib.hid hA
      have HB := Lib.hid hB
      clear hA hB
      by_cases hlt : i < len
      · have t1 : decide ((i : Int) < (len : Int)) = true := by simp; omega
        obtain ⟨lb, lo, rfl, hc⟩ := Row_at HR.out (by omega)
        have hblk : lb < w.heap.size := Row_lt HR.out (by omega) ⟨lb, lo, none⟩ rfl
        obtain ⟨x, hx⟩ : ∃ x, x = zs.getD i 0 := ⟨_, rfl⟩
        have cx : wr.cell? ⟨lb, lo + i, none⟩ = some (.int .i64 x) := by
          rw [hx, ← hc i hlt]; exact HB.out.cell (p := ⟨lb, lo + i, none⟩) hblk
        have HX := Lib.hid hx
        clear hx hc
        go_wp2_with fail
        refine (storeI (100 + (i : Int)) (100 + i) x _ HA.out (by omega) (by omega)).mono ?_
        rintro e w3 ⟨rfl, hA3, hg3⟩
        have HA3 : Hid (AnF w.heap.size b g 300 (M1 zs (i + 1)) w3) := Lib.hid (hA3.congr fun j hj => by rw [HX.out]; exact M1_next zs i j)
        have HB3 : Hid (Below w.heap.size w w3) := Lib.hid (below_grown HB.out hg3 HB.out.size HA.out.lo)
        clear hA3 hg3 cx
        go_wp2_with fail
        go_roundw
        case rel => exact ⟨i + 1, by omega, by go_num, HA3.out, HB3.out⟩
        case measure => simp [intOf]; omega
      · obtain rfl : i = len := by omega
        have t1 : decide ((i : Int) < (i : Int)) = false := by simp
        clear hlt hi
        go_wp2_with fail
        refine (copyI 200 100 (i : Int) 200 100 i _ HA.out (by omega) (by omega) rfl (by omega) (by omega)).mono ?_
        rintro e w3 ⟨rfl, hA3, hg3⟩
        have HA3 := Lib.hid hA3
        have HB3 : Hid (Below w.heap.size w w3) := Lib.hid (below_grown HB.out hg3 HB.out.size HA.out.lo)
        clear hA3 hg3
        go_wp2_with fail
        refine (copyI 0 200 (i : Int) 0 200 i _ HA3.out (by omega) (by omega) rfl (by omega) (by omega)).mono ?_
        rintro e w4 ⟨rfl, hA4, hg4⟩
        obtain ⟨f, hA5, hM⟩ : ∃ f, AnF w.heap.size b g 300 f w4 ∧ M3 zs i f := ⟨_, hA4, M3_of zs i h100⟩
        have HM := Lib.hid hM
        have HA4 := Lib.hid hA5
        have HB4 : Hid (Below w.heap.size w w4) := Lib.hid (below_grown HB3.out hg4 HB3.out.size HA3.out.lo)
        clear hM hA4 hA5 hg4 HA3 HB3 HA HB
        go_wp2_with fail
        go_loop [13] (fun si => ∃ k : Nat, k ≤ i ∧ si = .int .i64 k) (fun si => i - (intOf si).toNat)
        case atStart => exact ⟨0, Nat.zero_le _, rfl⟩
        case round =>
          obtain ⟨k, hk, rfl⟩ := hrel
          by_cases hlt : k < i
          · have t1 : decide ((k : Int) < (i : Int)) = true := by simp; omega
            obtain ⟨lb, lo, rfl, hc⟩ := Row_at HR.out (by omega)
            have hblk : lb < w.heap.size := Row_lt HR.out (by omega) ⟨lb, lo, none⟩ rfl
            obtain ⟨m1, m2, m3⟩ := HM.out k hlt
            obtain ⟨x, hx⟩ : ∃ x, zs.getD k 0 = x := ⟨_, rfl⟩
            have cx : w4.cell? ⟨lb, lo + k, none⟩ = some (.int .i64 x) := by
              rw [← hx, ← hc k hlt]; exact HB4.out.cell (p := ⟨lb, lo + k, none⟩) hblk
            rw [hx] at m1 m2 m3
            have N1 := Lib.hid m1
            have N2 := Lib.hid m2
            have N3 := Lib.hid m3
            clear m1 m2 m3 hx hc
            go_wp2_with fail
            refine (loadI (k : Int) k x _ HA4.out rfl (by omega) N1.out).mono ?_
            rintro e w' ⟨rfl, rfl⟩
            go_wp2_with fail
            refine (loadI (100 + (k : Int)) (100 + k) x _ HA4.out (by omega) (by omega) N2.out).mono ?_
            rintro e w' ⟨rfl, rfl⟩
            go_wp2_with fail
            refine (loadI (200 + (k : Int)) (200 + k) x _ HA4.out (by omega) (by omega) N3.out).mono ?_
            rintro e w' ⟨rfl, rfl⟩
            go_wp2_with fail
            go_round
            case rel => exact ⟨k + 1, by omega, by go_num⟩
            case measure => simp [intOf]; omega
          · obtain rfl : k = i := by omega
            have t1 : decide ((k : Int) < (k : Int)) = false := by simp
            clear hlt hk
            obtain ⟨base, hbase⟩ : ∃ base, base = w4.heap.size := ⟨_, rfl⟩
            have hbl := HA4.out.blocks
            rw [← hbase] at hbl
            have hbw : w.heap.size ≤ base := by rw [hbase]; exact HB4.out.size
            have hown0 : w4.ownsRow base 2 1 (.slice none 0 0) 0 ((wasL f U 0).map (Value.int .i64)) := World.ownsRow_nil _ _ _ _
            have HBASE : Hid (base ≤ w4.heap.size) := Lib.hid (Nat.le_of_eq hbase)
            have HO := Lib.hid hown0
            clear hbase hown0
            go_wp2_with fail
            go_loopw [20, 21] (fun sv si wr => Rel3 w base b g N U f sv si wr) (fun _ si _ => N - (intOf si).toNat)
            case atStart => exact ⟨0, Nat.zero_le _, rfl, HO.out, HA4.out, HB4.out, HBASE.out⟩
            case round =>
              obtain ⟨j, hj, rfl, hown, hA, hB, hbs⟩ := hrel
              clear HO HA4 HB4 HBASE
              have HA := Lib.hid hA
              have HB := Lib.hid hB
              have HO := Lib.hid hown
              have HBS := Lib.hid hbs
              clear hA hB hown hbs
              by_cases hlt : j < N
              · have t1 : decide ((j : Int) < (N : Int)) = true := by simp; omega
                obtain ⟨i0, hi, hz0, hz1, hz2⟩ := info_parts i64info
                have HI := Lib.hid hi
                have HZ0 := Lib.hid hz0
                have HZ1 := Lib.hid hz1
                have HZ2 := Lib.hid hz2
                clear hi hz0 hz1 hz2
                obtain ⟨y, hy⟩ : ∃ y, f (U + j) = y := ⟨_, rfl⟩
                have HY := Lib.hid hy
                clear hy
                have b1 : j + 1 ≤ maxLen := by unfold maxLen; omega
                go_wp2_with fail
                refine (loadI ((U : Int) + (j : Int)) (U + j) y _ HA.out (by omega) (by omega) HY.out).mono ?_
                rintro e w' ⟨rfl, rfl⟩
                go_wp2_with (at_builtin; refine wpList_append_own _ rfl (.tmp 142) (.tmp 144) 68 rfl base 2 i0 (.int .i64 0) 1 8 Tryd.underlying68 HI.out HZ0.out HZ1.out HZ2.out rfl (by decide) _ j _ rfl (HO.out.alloc _) ⟨wr.heap.size, 0, none⟩ 1 1 [.int .i64 y] rfl rfl (by intro t u ht; match t, ht with | 0, ht => simp at ht; subst ht; simp [Addr.add]) (by intro u hu; simp at hu; subst hu; rfl) b1 (by omega) (by have := HBS.out; simp; omega) ?_; intro v1 w5 hown1 hgrow1 _)
                have hb5 : Below base wr w5 := Below.grown ((Below.refl base wr).alloc HBS.out _) hgrow1 (by have := HBS.out; simp; omega) (own_block_lt HO.out)
                have R : Rel3 w base b g N U f v1 (.int .i64 ((j + 1 : Nat) : Int)) w5 := by
                  refine ⟨j + 1, by omega, rfl, ?_, HA.out.below hb5 hbl.1 hbl.2, HB.out.trans (hb5.mono hbw), Nat.le_trans HBS.out hb5.size⟩
                  rw [wasL_next, List.map_append, HY.out]
                  simpa using hown1
                have HRR := Lib.hid R
                clear R hown1 hgrow1 hb5
                go_roundw
                case rel => simpa using HRR.out
                case measure => simp [intOf]; omega
              · obtain rfl : j = N := by omega
                have t1 : decide ((j : Int) < (j : Int)) = false := by simp
                clear hlt hj
                go_wp2_with fail
                refine (copyI (T : Int) (U : Int) (j : Int) T U j _ HA.out rfl rfl rfl (by omega) (by omega)).mono ?_
                rintro e w5 ⟨rfl, hA5, hg5⟩
                obtain ⟨f2, hA6, hf2⟩ : ∃ f2, AnF w.heap.size b g 300 f2 w5 ∧ ∀ x, x < j → f2 (T + x) = f (U + x) := ⟨_, hA5, fun x hx => by
                  show (if T ≤ T + x ∧ T + x < T + j then f (U + (T + x - T)) else _) = _
                  rw [if_pos ⟨by omega, by omega⟩, show U + (T + x - T) = U + x by omega]⟩
                have HO5 := Lib.hid (HO.out.kept hg5 (.inr fun e => by have := own_block_lt HO.out g e; omega))
                have HB5 : Hid (Below w.heap.size w w5) := Lib.hid (below_grown HB.out hg5 HB.out.size HA.out.lo)
                have HA6 := Lib.hid hA6
                have HF2 := Lib.hid hf2
                clear hA5 hA6 hf2 hg5 HO HB HA HBS
                go_wp2_with fail
                go_loop [24] (fun si => ∃ k : Nat, k ≤ j ∧ si = .int .i64 k) (fun si => j - (intOf si).toNat)
                case atStart => exact ⟨0, Nat.zero_le _, rfl⟩
                case round =>
                  obtain ⟨k, hk, rfl⟩ := hrel
                  by_cases hlt : k < j
                  · have t2 : decide ((k : Int) < (j : Int)) = true := by simp; omega
                    obtain ⟨gb, wcap, rfl⟩ := own_form HO5.out (by omega)
                    obtain ⟨y, hy⟩ : ∃ y, f (U + k) = y := ⟨_, rfl⟩
                    have h2 : f2 (T + k) = y := by rw [HF2.out k hlt, hy]
                    have hcell : w5.cell? ⟨gb, k, none⟩ = some (.int .i64 y) := by
                      rw [HO5.out.cellAt k (by omega), List.getElem?_map, List.getElem?_eq_getElem (by rw [wasL_len]; omega)]
                      simp [wasL, hy]
                    have H2 := Lib.hid h2
                    clear hy h2
                    go_wp2_with fail
                    refine (loadI ((T : Int) + (k : Int)) (T + k) y _ HA6.out (by omega) (by omega) H2.out).mono ?_
                    rintro e w' ⟨rfl, rfl⟩
                    go_wp2_with fail
                    go_round
                    case rel => exact ⟨k + 1, by omega, by go_num⟩
                    case measure => simp [intOf]; omega
                  · obtain rfl : k = j := by omega
                    have t2 : decide ((k : Int) < (k : Int)) = false := by simp
                    clear hlt hk
                    go_wp2_with fail
                    refine (clear_300 _ HA6.out).mono ?_
                    rintro e w6 ⟨rfl, hA7, hg7⟩
                    have HA7 := Lib.hid hA7
                    have HB7 : Hid (Below w.heap.size w w6) := Lib.hid (below_grown HB5.out hg7 HB5.out.size HA6.out.lo)
                    clear hA7 hg7 HA6 HB5 HO5
                    go_wp2_with fail
                    go_loop [27] (fun si => ∃ m : Nat, m ≤ 300 ∧ si = .int .i64 m) (fun si => 300 - (intOf si).toNat)
                    case atStart => exact ⟨0, Nat.zero_le _, rfl⟩
                    case round =>
                      obtain ⟨m, hm, rfl⟩ := hrel
                      by_cases hlt : m < 300
                      · have t3 : decide ((m : Int) < 300) = true := by simp; omega
                        go_wp2_with fail
                        refine (loadI (m : Int) m 0 _ HA7.out rfl hlt rfl).mono ?_
                        rintro e w' ⟨rfl, rfl⟩
                        go_wp2_with fail
                        go_round
                        case rel => exact ⟨m + 1, by omega, by go_num⟩
                        case measure => simp [intOf]; omega
                      · obtain rfl : m = 300 := by omega
                        have t3 : decide ((300 : Int) < 300) = false := by decide
                        clear hlt hm
                        go_wp2_with fail
                        refine (copy_out _ HA7.out).mono ?_
                        rintro e w' ⟨rfl, rfl⟩
                        go_wp2_with fail
                        refine (copyI 0 300 0 0 300 0 _ HA7.out rfl rfl rfl (by omega) (by omega)).mono ?_
                        rintro e w7 ⟨rfl, hA8, hg8⟩
                        have HB8 : Hid (Below w.heap.size w w7) := Lib.hid (below_grown HB7.out hg8 HB7.out.size HA7.out.lo)
                        clear hA8 hg8
                        go_wp2_with fail
                        go_ret
                        exact ⟨rfl, HB8.out⟩
  · have d1 : decide ((100 : Int) < (len : Int)) = true := by simp; omega
    go_enter Tryd.func11, Tryd.ntmps11
    go_wp2_with (go_at_call 42; refine (afirst _).mono ?_; rintro e w1 ⟨rfl, hB⟩)
    go_ret
    exact ⟨rfl, hB⟩

end Go.Proofs.YtahmfmkjdpblfaaDoor

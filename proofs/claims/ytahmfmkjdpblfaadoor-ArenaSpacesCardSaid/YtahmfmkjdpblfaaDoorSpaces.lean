/-
  The law on spaces: true, whatever comes.
-/
import Derived.Test.YtahmfmkjdpblfaaDoorPack
import Derived.Deep.DeepCutAuto
namespace Go.Proofs.YtahmfmkjdpblfaaDoor
open Go.RowKit

theorem low10_i64 (a : Int) : bits BinOp.and IntKind.i64 a 1023 = a % 1024 := by
  have key : (BitVec.ofInt 64 a &&& BitVec.ofInt 64 1023).toNat = (a % ((2 ^ 64 : Nat) : Int)).toNat % 2 ^ 10 := by
    have hm : BitVec.ofInt 64 1023 = BitVec.ofNat 64 (2 ^ 10 - 1) := by decide
    rw [BitVec.toNat_and, hm, BitVec.toNat_ofNat, BitVec.toNat_ofInt, Nat.mod_eq_of_lt (by omega), Nat.and_two_pow_sub_one_eq_mod]
  show IntKind.i64.wrap ((BitVec.ofInt 64 a &&& BitVec.ofInt 64 1023).toNat : Nat) = _
  rw [key, IntKind.wrap_i64]
  have e64 : (2 : Nat) ^ 64 = 18446744073709551616 := by decide
  have e10 : (2 : Nat) ^ 10 = 1024 := by decide
  rw [e64, e10]
  omega

theorem Sp.base {B s : Nat} {f t p : Int} {w : World} (h : Sp B s f t p w) : Sp B s f t f (w.setCell ⟨s, 2, none⟩ (.int .i64 f)) := h.top f

def ResetPost (B s : Nat) (f t : Int) (w : World) (e : Ending) (w' : World) : Prop := e = .returned (.tuple #[]) ∧ Sp B s f t f w' ∧ w.grownBy w' (some s)

theorem reset_any {B s : Nat} {f t p : Int} (w : World) (h : Sp B s f t p w) :
    Calls Tryd.prog 51 #[.pointer (some ⟨s, 0, none⟩)] w (ResetPost B s f t w) := by
  obtain ⟨c0, c1, c2⟩ := h.cells
  have cf := h.frozen 2
  have H := Lib.hid h
  clear h c1
  go_enter Tryd.func51, Tryd.ntmps51
  go_wp2
  refine bodyPost_ret (v := .tuple #[]) (by simp [results, Tryd.results51, go_sem]) rfl ⟨rfl, H.out.base, ⟨rfl, rfl, rfl, by simp, fun k _ hk => heap_setCell_other _ ⟨s, 2, none⟩ k _ (fun e => hk (by simp [e]))⟩⟩

theorem shas_yes {B s : Nat} {f t p : Int} (i : Int) (w : World) (h : Sp B s f t p w) (h0 : f ≤ i) (h1 : i < p) :
    Calls Tryd.prog 54 #[.pointer (some ⟨s, 0, none⟩), .int .i64 i] w fun e w' => e = .returned (.bool true) ∧ w = w' := by
  rw [← taken_of h0 h1]; exact shas_any i w h
theorem shas_no {B s : Nat} {f t p : Int} (i : Int) (w : World) (h : Sp B s f t p w) (h0 : ¬ (f ≤ i ∧ i < p)) :
    Calls Tryd.prog 54 #[.pointer (some ⟨s, 0, none⟩), .int .i64 i] w fun e w' => e = .returned (.bool false) ∧ w = w' := by
  rw [← untaken_of h0]; exact shas_any i w h

theorem room_su {B s F S u : Nat} (w : World) (h : Sp B s F ((F : Int) + S) ((F : Int) + u) w) (h1 : u ≤ S) (hF : F < 1024) (hS : S < 1024) :
    Calls Tryd.prog 52 #[.pointer (some ⟨s, 0, none⟩)] w (RoomPost ((S : Int) - u) w) := by
  have k := room_any w h (by omega) (by omega) (by omega)
  have e : (F : Int) + S - ((F : Int) + u) = (S : Int) - u := by omega
  rw [e] at k
  exact k

def SpRel (w : World) (g F S len : Nat) (su si : Value) (wr : World) : Prop :=
  ∃ u i : Nat, i ≤ len ∧ u ≤ S ∧ su = .int .i64 u ∧ si = .int .i64 i ∧ Sp w.heap.size g F ((F : Int) + S) ((F : Int) + u) wr ∧ Below w.heap.size w wr

def CutRel (w : World) (g F S : Nat) (su : Value) (wr : World) : Prop :=
  ∃ u : Nat, u ≤ S ∧ su = .int .i64 u ∧ Sp w.heap.size g F ((F : Int) + S) ((F : Int) + u) wr ∧ Below w.heap.size w wr

set_option maxRecDepth 100000 in
theorem spaces_law (f z : Int) (a : Option Addr) (len cap : Nat) (zs : List Int) (r : Int) (w : World)
    (hf : (Lit.int .i64 f).wf = true) (hz : (Lit.int .i64 z).wf = true) (hl : Row .i64 w a len cap zs) (hr : (Lit.int .i64 r).wf = true) :
    Calls Tryd.prog 9 #[.int .i64 f, .int .i64 z, .slice a len cap, .int .i64 r] w (TruePost w) := by
  have e1 := low10_i64 f
  have e2 := low10_i64 z
  obtain ⟨F, hF⟩ : ∃ F : Nat, f % 1024 = (F : Int) := ⟨(f % 1024).toNat, by omega⟩
  obtain ⟨S, hS⟩ : ∃ S : Nat, z % 1024 = (S : Int) := ⟨(z % 1024).toNat, by omega⟩
  have hF1 : F < 1024 := by omega
  have hS1 : S < 1024 := by omega
  rw [hF] at e1
  rw [hS] at e2
  have hmax := hl.max
  have hle := hl.le
  have hw := hl.wf
  have hlen := hl.len_eq
  have HR := Lib.hid hl
  clear hF hS hl hf hz hr
  unfold maxLen at hmax
  by_cases h60 : len ≤ 60
  · have d1 : decide ((60 : Int) < (len : Int)) = false := by simp; omega
    go_enter Tryd.func9, Tryd.ntmps9
    have HW := Lib.hid hw
    have HLEN := Lib.hid hlen
    clear hw hlen
    go_wp2_with (go_at_call 42; refine (afirst _).mono ?_; rintro e w1 ⟨rfl, hB⟩)
    obtain ⟨g, hg⟩ : ∃ g, g = w1.heap.size := ⟨_, rfl⟩
    have hB2 : Below w.heap.size w (w1.alloc (.cells #[.int .i64 (F : Int), .int .i64 ((F : Int) + S), .int .i64 (F : Int)] 79)) := hB.alloc hB.size _
    have hS0 : Sp w.heap.size g F ((F : Int) + S) ((F : Int) + (0 : Nat)) (w1.alloc (.cells #[.int .i64 (F : Int), .int .i64 ((F : Int) + S), .int .i64 (F : Int)] 79)) := by
      rw [hg, show (F : Int) + (0 : Nat) = F by simp]
      exact sp_new w1 F ((F : Int) + S) F hB.size
    rw [← hg]
    clear hg hB
    go_loopw [11, 12] (fun su si wr => SpRel w g F S len su si wr) (fun _ si _ => len - (intOf si).toNat)
    case atStart => exact ⟨0, 0, Nat.zero_le _, Nat.zero_le _, rfl, rfl, hS0, hB2⟩
    case round =>
      obtain ⟨u, i, hi, hu, rfl, rfl, hsp, hbel⟩ := hrel
      clear hS0 hB2
      have HS := Lib.hid hsp
      have HB := Lib.hid hbel
      clear hsp hbel
      by_cases hlt : i < len
      · have t1 : decide ((i : Int) < (len : Int)) = true := by simp; omega
        obtain ⟨lb, lo, rfl, hc⟩ := Row_at HR.out (by omega)
        have HC := Lib.hid hc
        clear hc
        have hblk : lb < w.heap.size := Row_lt HR.out (by omega) ⟨lb, lo, none⟩ rfl
        obtain ⟨x, hx⟩ : ∃ x, x = zs.getD i 0 := ⟨_, rfl⟩
        have hxw : (Lit.int .i64 x).wf = true := by
          rw [hx, List.getD_eq_getElem?_getD, List.getElem?_eq_getElem (by have := HLEN.out; omega)]
          exact HW.out _ (List.getElem_mem _)
        obtain ⟨x0, x1⟩ := wf_i64 hxw
        have cx : Hid (∀ w', Below w.heap.size w w' → w'.cell? ⟨lb, lo + i, none⟩ = some (.int .i64 x)) := Lib.hid fun w' hb => by
          rw [hx, ← HC.out i hlt]; exact hb.cell (p := ⟨lb, lo + i, none⟩) hblk
        clear hx hxw
        go_upto_if 43 with (fail)
        go_cut [11] (fun su wx => CutRel w g F S su wx)
        case first =>
          go_wp2_with (go_at_call 51; refine (reset_any _ HS.out).mono ?_; rintro e w2 ⟨rfl, hs2, hg2⟩)
          all_goals
            go_meet
            first
              | exact ⟨u, hu, rfl, HS.out, HB.out⟩
              | exact ⟨0, Nat.zero_le _, rfl, by simpa using hs2, below_grown HB.out hg2 HB.out.size HS.out.lo⟩
        case rest =>
          obtain ⟨v, hv, rfl, hsp, hbel⟩ := hcut
          clear HS HB
          obtain ⟨c0, c1, c2⟩ := hsp.cells
          have HS := Lib.hid hsp
          have HB := Lib.hid hbel
          have cw := cx.out _ hbel
          clear hsp hbel c0 c1 hu
          go_wp2_with fail
          refine (room_su _ HS.out hv hF1 hS1).mono ?_
          rintro e w2 ⟨rfl, nq, rfl⟩
          go_wp2_with fail
          have HS2 : Hid (Sp w.heap.size g F ((F : Int) + S) ((F : Int) + v) (wc.drewN nq)) := Lib.hid (Sp.kept HS.out rfl)
          have HB2 : Hid (Below w.heap.size w (wc.drewN nq)) := Lib.hid (below_drewN HB.out nq)
          by_cases hgood : 1 ≤ x ∧ x ≤ (S : Int) - v
          · obtain ⟨g1, g2⟩ := hgood
            have q1 : decide (1 ≤ x) = true := by simp; omega
            have q2 : decide (x ≤ (S : Int) - v) = true := by simp; omega
            refine (take_yes _ _ HS2.out (by omega) (by omega) (by omega) g1 (by omega)).mono ?_
            rintro e w3 ⟨rfl, hs3, hg3⟩
            have HS3 := Lib.hid hs3
            have hb3 := below_grown HB2.out hg3 HB2.out.size HS2.out.lo
            have cw3 := cx.out _ hb3
            have HB3 := Lib.hid hb3
            clear hs3 hg3 hb3 cw c2
            go_wp2_with fail
            refine (shas_yes _ _ HS3.out (by omega) (by omega)).mono ?_
            rintro e w' ⟨rfl, rfl⟩
            go_wp2_with fail
            refine (shas_yes _ _ HS3.out (by omega) (by omega)).mono ?_
            rintro e w' ⟨rfl, rfl⟩
            go_wp2_with fail
            refine (shas_no _ _ HS3.out (by omega)).mono ?_
            rintro e w' ⟨rfl, rfl⟩
            go_wp2_with fail
            go_roundw
            case rel =>
              refine ⟨v + x.toNat, i + 1, by omega, by omega, ?_, by go_num, ?_, HB3.out⟩
              · rw [show (v : Int) + x = ((v + x.toNat : Nat) : Int) by omega]
              · rw [show (F : Int) + ((v + x.toNat : Nat) : Int) = (F : Int) + v + x by omega]
                exact HS3.out
            case measure => simp [intOf]; omega
          · refine (take_no _ _ HS2.out (by omega) (by omega) (by omega) (by omega)).mono ?_
            rintro e w3 ⟨rfl, hs3, hg3⟩
            have HS3 := Lib.hid hs3
            have hb3 := below_grown HB2.out hg3 HB2.out.size HS2.out.lo
            have cw3 := cx.out _ hb3
            have HB3 := Lib.hid hb3
            clear hs3 hg3 hb3 cw c2
            by_cases g1 : 1 ≤ x
            · have q1 : decide (1 ≤ x) = true := by simp; omega
              have q2 : decide (x ≤ (S : Int) - v) = false := by simp; omega
              clear hgood
              go_wp2_with fail
              go_roundw
              case rel => exact ⟨v, i + 1, by omega, by omega, rfl, by go_num, HS3.out, HB3.out⟩
              case measure => simp [intOf]; omega
            · have q1 : decide (1 ≤ x) = false := by simp; omega
              clear hgood
              go_wp2_with fail
              go_roundw
              case rel => exact ⟨v, i + 1, by omega, by omega, rfl, by go_num, HS3.out, HB3.out⟩
              case measure => simp [intOf]; omega
      · obtain rfl : i = len := by omega
        have t1 : decide ((i : Int) < (i : Int)) = false := by simp
        obtain ⟨c0, c1, c2⟩ := HS.out.cells
        clear c2
        go_wp2_with fail
        refine (shas_no _ _ HS.out (by omega)).mono ?_
        rintro e w' ⟨rfl, rfl⟩
        go_wp2_with fail
        refine (shas_no _ _ HS.out (by omega)).mono ?_
        rintro e w' ⟨rfl, rfl⟩
        go_wp2_with fail
        go_ret
        exact ⟨rfl, HB.out⟩
  · have d1 : decide ((60 : Int) < (len : Int)) = true := by simp; omega
    clear hw hlen
    go_enter Tryd.func9, Tryd.ntmps9
    go_wp2_with (go_at_call 42; refine (afirst _).mono ?_; rintro e w1 ⟨rfl, hB⟩)
    go_ret
    exact ⟨rfl, hB⟩

end Go.Proofs.YtahmfmkjdpblfaaDoor

/-
  Four of the listed errors alone (those that package script names): what the premise on them gives; may, May, Print at two picks, the chapter's examples, by these alone.
-/
import Derived.Test.YtjcklfbpdjfibaaDoorSFirst
namespace Go.Proofs.YtjcklfbpdjfibaaDoor
open Go.RowKit Go.ChangeShapes

/-- The listed errors that package script names. -/
structure Sents4 (a : Nat → Addr) (w : World) : Prop where
  c0 : w.cell? ⟨0, 0, none⟩ = some (.iface 211 (.pointer (some (a 0))))
  c1 : w.cell? ⟨4, 0, none⟩ = some (.iface 211 (.pointer (some (a 1))))
  c2 : w.cell? ⟨1, 0, none⟩ = some (.iface 211 (.pointer (some (a 2))))
  c4 : w.cell? ⟨2, 0, none⟩ = some (.iface 211 (.pointer (some (a 4))))

theorem Sents4.below {a : Nat → Addr} {w w' : World} (h : Sents4 a w) (hb : Below w.heap.size w w') : Sents4 a w' := by
  have k : ∀ (p : Addr) v, w.cell? p = some v → w'.cell? p = some v := fun p v hv => (hb.cell (World.block_lt_of_cell? w p hv)).trans hv
  exact ⟨k _ _ h.c0, k _ _ h.c1, k _ _ h.c2, k _ _ h.c4⟩

def texts4 : List (String × List UInt8) :=
  [("overdrive/api.ErrMany", [116, 111, 111, 32, 109, 97, 110, 121]),
   ("overdrive/api.ErrKind", [110, 111, 32, 115, 117, 99, 104, 32, 107, 105, 110, 100]),
   ("overdrive/api.ErrIndex", [110, 111, 32, 115, 117, 99, 104, 32, 116, 104, 105, 110, 103]),
   ("overdrive/api.ErrShape", [110, 111, 116, 32, 116, 104, 101, 32, 115, 104, 97, 112, 101, 32, 116, 104, 97, 116, 32, 105, 116, 32, 104, 97, 115, 32, 116, 111, 32, 104, 97, 118, 101])]

theorem sents4_of_laid {laid : List (String × DataW Unit)} {w : World} (e : texts4.map mkSent = laid) (hh : (laid.filter fun x => x.2.handleName?.isSome) = []) (h : laidMetH Tryd.prog laid w) : ∃ a, Sents4 a w := by
  unfold laidMetH at h
  rw [hh] at h
  subst e
  obtain ⟨ps, hv, hnd, hrows⟩ := h
  obtain ⟨ads, _, _, _, hat⟩ := sents_of_vars (ti := 50) (tp := 211) (te := 228) Tryd.underlying50 typeT Tryd.underlying211 Tryd.underlying228 rfl rfl Tryd.underlying9 (by kernel_rfl) (by kernel_rfl) texts4 ps hv hnd hrows (by
    have hall : (texts4.all fun x => match Tryd.prog.globalNamed x.1 with | some g => decide ((Tryd.prog.globals[g]?).map (·.type) = some 50) | none => false) = true := by kernel_rfl
    intro x hx
    have := List.all_eq_true.1 hall x hx
    cases hg : Tryd.prog.globalNamed x.1 with
    | none => rw [hg] at this; cases this
    | some g => rw [hg] at this; exact ⟨g, rfl, by simpa using this⟩)
  have key : ∀ (i : Nat) (n : String) (t : List UInt8) (g : Nat), texts4[i]? = some (n, t) → Tryd.prog.globalNamed n = some g → w.cell? ⟨g, 0, none⟩ = some (.iface 211 (.pointer (some (ads.getD i ⟨0, 0, none⟩)))) := by
    intro i n t g hi hg
    obtain ⟨a, g', ha, hg', hc⟩ := hat i (n, t) hi
    obtain rfl := Option.some.inj (hg.symm.trans hg')
    rw [hc, List.getD_eq_getElem?_getD, ha]
    rfl
  exact ⟨fun i => ads.getD (if i = 4 then 3 else i) ⟨0, 0, none⟩, key 0 _ _ _ rfl (by kernel_rfl), key 1 _ _ _ rfl (by kernel_rfl), key 2 _ _ _ rfl (by kernel_rfl), key 3 _ _ _ rfl (by kernel_rfl)⟩

set_option maxHeartbeats 1000000 in
set_option maxRecDepth 100000 in
theorem may_any4 (a : Nat → Addr) (T K A B H : Int) (w : World) (h : Sents4 a w) :
    Calls Tryd.prog 120 #[.agg #[.int .i64 T, .int .i64 K, .int .i64 A, .int .i64 B], .int .i64 H] w (MayPost a (pickC T K A B H) w) := by
  have hbl : Below w.heap.size w (w.alloc (Obj.cells #[.int .i64 T, .int .i64 K, .int .i64 A, .int .i64 B] 107)) := (Below.refl _ _).alloc (Nat.le_refl _) _
  have hS := h.below hbl
  have c1 := hS.c1
  have c2 := hS.c2
  have c4 := hS.c4
  have HB := Lib.hid hbl
  obtain ⟨x1, e1⟩ : ∃ x, a 1 = x := ⟨_, rfl⟩
  obtain ⟨x2, e2⟩ : ∃ x, a 2 = x := ⟨_, rfl⟩
  obtain ⟨x4, e4⟩ : ∃ x, a 4 = x := ⟨_, rfl⟩
  rw [e1] at c1
  rw [e2] at c2
  rw [e4] at c4
  have E1 := Lib.hid e1
  have E2 := Lib.hid e2
  have E4 := Lib.hid e4
  clear h hbl hS e1 e2 e4
  obtain ⟨W, hW⟩ : ∃ W, (w.alloc (Obj.cells #[.int .i64 T, .int .i64 K, .int .i64 A, .int .i64 B] 107)) = W := ⟨_, rfl⟩
  have HW := Lib.hid hW
  rw [hW] at HB
  have fin2 : Hid (pickC T K A B H = 2 → MayPost a (pickC T K A B H) w (.returned (.iface 211 (.pointer (some x1)))) W) := Lib.hid fun h1 => ⟨by rw [h1, ← E1.out]; rfl, HB.out⟩
  have fin3 : Hid (pickC T K A B H = 3 → MayPost a (pickC T K A B H) w (.returned (.iface 211 (.pointer (some x2)))) W) := Lib.hid fun h1 => ⟨by rw [h1, ← E2.out]; rfl, HB.out⟩
  have fin5 : Hid (pickC T K A B H = 5 → MayPost a (pickC T K A B H) w (.returned (.iface 211 (.pointer (some x4)))) W) := Lib.hid fun h1 => ⟨by rw [h1, ← E4.out]; rfl, HB.out⟩
  have fin0 : Hid (pickC T K A B H = 0 → MayPost a (pickC T K A B H) w (.returned .nilIface) W) := Lib.hid fun h1 => ⟨by rw [h1]; rfl, HB.out⟩
  rw [← hW] at fin2 fin3 fin5 fin0
  clear hW
  by_cases k3 : K = 3
  · subst k3
    have m1 : mostA 3 = 11 := rfl
    have m2 : mostB 3 = 2047 := rfl
    have M1 := Lib.hid m1
    have M2 := Lib.hid m2
    clear m1 m2
    go_enter Tryd.func120, Tryd.ntmps120
    go_wp2
    all_goals
      go_ret
      first
        | exact fin3.out (by rw [pickC, if_neg (by omega), if_pos (by rw [M1.out, M2.out]; omega)])
        | exact fin5.out (by rw [pickC, if_neg (by omega), if_neg (by rw [M1.out, M2.out]; omega), if_pos (by omega)])
        | exact fin0.out (by rw [pickC, if_neg (by omega), if_neg (by rw [M1.out, M2.out]; omega), if_neg (by omega)])
        | (exfalso; omega)
  · by_cases k5 : K = 5
    · subst k5
      have m1 : mostA 5 = 0 := rfl
      have m2 : mostB 5 = 2047 := rfl
      have M1 := Lib.hid m1
      have M2 := Lib.hid m2
      clear m1 m2
      go_enter Tryd.func120, Tryd.ntmps120
      go_wp2
      all_goals
        go_ret
        first
          | exact fin3.out (by rw [pickC, if_neg (by omega), if_pos (by rw [M1.out, M2.out]; omega)])
          | exact fin5.out (by rw [pickC, if_neg (by omega), if_neg (by rw [M1.out, M2.out]; omega), if_pos (by omega)])
          | exact fin0.out (by rw [pickC, if_neg (by omega), if_neg (by rw [M1.out, M2.out]; omega), if_neg (by omega)])
          | (exfalso; omega)
    · have t3 : (K == 3) = false := by simpa using k3
      have t5 : (K == 5) = false := by simpa using k5
      have m1 : mostA K = 0 := by simp [mostA, k3]
      have m2 : mostB K = 0 := by simp [mostB, k3, k5]
      have M1 := Lib.hid m1
      have M2 := Lib.hid m2
      clear m1 m2
      go_enter Tryd.func120, Tryd.ntmps120
      go_wp2
      all_goals
        go_ret
        first
          | exact fin2.out (by rw [pickC, if_pos (by omega)])
          | exact fin3.out (by rw [pickC, if_neg (by omega), if_pos (by rw [M1.out, M2.out]; omega)])
          | exact fin5.out (by rw [pickC, if_neg (by omega), if_neg (by rw [M1.out, M2.out]; omega), if_pos (by omega)])
          | exact fin0.out (by rw [pickC, if_neg (by omega), if_neg (by rw [M1.out, M2.out]; omega), if_neg (by omega)])
          | (exfalso; omega)

set_option maxHeartbeats 2000000 in
set_option maxRecDepth 100000 in
/-- n: how many picks may be ahead of the first that may not. -/
theorem may_list4 (a : Nat → Addr) (ad : Option Addr) (len cap : Nat) (gv : Nat → Nat → Int) (n : Nat) (w : World) (h : Sents4 a w) (hp : Picks w ad len cap gv) (h400 : len ≤ 400) (hn : n ≤ len) (hok : ∀ i, i < n → codeAt gv i = 0) (hbad : n < len → codeAt gv n ≠ 0) :
    Calls Tryd.prog 69 #[.slice ad len cap] w (MayListPost a gv len n w) := by
  have HS := Lib.hid h
  have HP := Lib.hid hp
  have HOK := Lib.hid hok
  have HBAD := Lib.hid hbad
  clear h hp hok hbad
  have d1 : decide ((400 : Int) < (len : Int)) = false := by simp; omega
  have R0 : Hid (MayRel w gv n (.int .i64 0) (.int .i64 ((0 : Nat) : Int)) w) := Lib.hid ⟨0, Nat.zero_le _, rfl, rfl, Below.refl _ _⟩
  go_enter Tryd.func69, Tryd.ntmps69
  go_wp2_with fail
  go_loopw [3, 13] (fun sh si wr => MayRel w gv n sh si wr) (fun _ si _ => len - (intOf si).toNat)
  case atStart => exact R0.out
  case round =>
    obtain ⟨k, hk, rfl, rfl, hb⟩ := hrel
    clear R0
    have HB := Lib.hid hb
    clear hb
    by_cases hlt : k < len
    · have t1 : decide (k < len) = true := by simpa using hlt
      obtain ⟨lb, lo, rfl, hlb, hc⟩ := Picks_at HP.out (by omega)
      have hcell : ∀ j, j < 4 → wr.cell? ⟨lb, lo + (k * 4 + j), none⟩ = some (.int .i64 (gv k j)) := fun j hj =>
        (HB.out.cell (p := ⟨lb, lo + (k * 4 + j), none⟩) hlb).trans (hc k j hlt hj)
      have k0 := hcell 0 (by omega)
      have k1 := hcell 1 (by omega)
      have k2 := hcell 2 (by omega)
      have k3 := hcell 3 (by omega)
      have hcd : codeAt gv k = pickC (gv k 0) (gv k 1) (gv k 2) (gv k 3) (aheadOf gv k) := rfl
      have hnx : aheadOf gv (k + 1) = gv k 0 := rfl
      have HNX := Lib.hid hnx
      clear hcell hc hnx
      generalize aheadOf gv k = H at *
      generalize gv k 0 = T at *
      generalize gv k 1 = K at *
      generalize gv k 2 = A at *
      generalize gv k 3 = B at *
      have HCD := Lib.hid hcd
      clear hcd
      rw [Nat.add_zero] at k0
      rw [← Nat.add_assoc] at k1 k2 k3
      have hblt : Below w.heap.size w (wr.alloc (Obj.cells #[.int .i64 T, .int .i64 K, .int .i64 A, .int .i64 B] 107)) := HB.out.alloc HB.out.size _
      have hmay := may_any4 a T K A B H _ (HS.out.below hblt)
      rw [← HCD.out] at hmay
      have HM := Lib.hid hmay
      have HBL := Lib.hid hblt
      clear hmay hblt
      go_wp2_with fail
      refine HM.out.mono ?_
      rintro e w2 ⟨rfl, hb2⟩
      have hal := heap_alloc_new wr (Obj.cells #[.int .i64 T, .int .i64 K, .int .i64 A, .int .i64 B] 107)
      have hsz : wr.heap.size < (wr.alloc (Obj.cells #[.int .i64 T, .int .i64 K, .int .i64 A, .int .i64 B] 107)).heap.size := by simp
      have f0 : w2.cell? ⟨wr.heap.size, 0, none⟩ = some (.int .i64 T) := (hb2.cell (p := ⟨wr.heap.size, 0, none⟩) hsz).trans ((cell_of_row _ wr.heap.size 0 _ 107 (0, 0) hal).trans rfl)
      have HB2 : Hid (Below w.heap.size w w2) := Lib.hid (HBL.out.trans (hb2.mono HBL.out.size))
      clear hb2 hal hsz HM HBL k0 k1 k2 k3
      by_cases hkn : k < n
      · have hz := HOK.out k hkn
        have h0 : errV a 0 = .nilIface := rfl
        rw [hz, h0]
        clear h0 hz
        go_wp2_with fail
        go_roundw
        case rel => exact ⟨k + 1, by omega, by go_num, by rw [HNX.out], HB2.out⟩
        case measure => simp [intOf]; omega
      · obtain rfl : k = n := by omega
        obtain ⟨c, hc⟩ : ∃ c, codeAt gv k = c + 1 := ⟨codeAt gv k - 1, by have := HBAD.out hlt; omega⟩
        rw [hc]
        have HC := Lib.hid hc
        clear hc
        have he : errV a (c + 1) = .iface 211 (.pointer (some (a c))) := rfl
        rw [he]
        obtain ⟨x, hx⟩ : ∃ x, a c = x := ⟨_, rfl⟩
        rw [hx]
        have HX := Lib.hid hx
        clear hx he
        go_wp2_with fail
        go_ret
        refine ⟨HB2.out.alloc HB2.out.size _, .inr ⟨hlt, _, rfl, HB2.out.size, ?_⟩⟩
        unfold AtBox
        rw [heap_alloc_new, HC.out, Nat.add_sub_cancel, HX.out]
    · obtain rfl : n = len := by omega
      obtain rfl : k = n := by omega
      have t1 : decide (k < k) = false := by simp
      go_wp2_with fail
      go_ret
      exact ⟨HB.out, .inl ⟨rfl, rfl⟩⟩

theorem may_many4 (a : Nat → Addr) (ad : Option Addr) (len cap : Nat) (w : World) (h : Sents4 a w) (_hm : cap ≤ maxLen) (_hl : len ≤ cap) (h400 : 400 < len) :
    Calls Tryd.prog 69 #[.slice ad len cap] w fun e w' => e = .returned (.iface 211 (.pointer (some (a 0)))) ∧ w = w' := by
  have c0 := h.c0
  clear h
  unfold maxLen at _hm
  have d1 : decide ((400 : Int) < (len : Int)) = true := by simp; omega
  go_enter Tryd.func69, Tryd.ntmps69
  go_wp2_with fail
  go_ret
  exact ⟨rfl, rfl⟩

set_option maxHeartbeats 2000000 in
set_option maxRecDepth 100000 in
theorem print_two4 (a : Nat → Addr) (b : Nat) (w : World) (h : Sents4 a w) (hp : Picks w (some ⟨b, 0, none⟩) 2 2 gvE) :
    Calls Tryd.prog 66 #[.slice (some ⟨b, 0, none⟩) 2 2] w fun e w' => ∃ oa oc, e = .returned (.tuple #[.slice oa 6 oc, .nilIface]) ∧ Row .u8 w' oa 6 oc [3, 1, 0, 3, 2, 33] ∧ Below w.heap.size w w' := by
  have HS := Lib.hid h
  have HP := Lib.hid hp
  obtain ⟨b', off', he, hlb, hc⟩ := Picks_at hp (by omega)
  cases he
  have HC := Lib.hid hc
  clear h hp hc
  go_enter Tryd.func66, Tryd.ntmps66
  go_wp2_with fail
  refine (may_list4 a _ 2 2 gvE 2 _ HS.out HP.out (by omega) (by omega) (fun i hi => by match i, hi with | 0, _ => decide | 1, _ => decide) (fun h => by omega)).mono ?_
  rintro e w1 ⟨hb1, ⟨_, rfl⟩ | ⟨hlt, _⟩⟩
  · have R0 : Hid (PrintRel w (.slice none 0 0) (.int .i64 0) (.int .i64 ((0 : Nat) : Int)) w1) := Lib.hid ⟨0, by omega, rfl, rfl, none, 0, rfl, row_nil _ _, hb1⟩
    clear hb1
    go_wp2_with fail
    go_loopw [5, 6, 16] (fun so sa si wr => PrintRel w so sa si wr) (fun _ _ si _ => 2 - (intOf si).toNat)
    case atStart => exact R0.out
    case round =>
      obtain ⟨k, hk, rfl, rfl, oa, oc, rfl, hrow, hb⟩ := hrel
      clear R0
      have HB := Lib.hid hb
      have HR := Lib.hid hrow
      have hcell : k < 2 → ∀ j, j < 4 → wr.cell? ⟨b, 0 + (k * 4 + j), none⟩ = some (.int .i64 (gvE k j)) := fun hk j hj =>
        (HB.out.cell (p := ⟨b, 0 + (k * 4 + j), none⟩) hlb).trans (HC.out k j hk hj)
      clear hb hrow
      by_cases h0 : k = 0
      · subst h0
        have k0 : wr.cell? ⟨b, 0, none⟩ = some (.int .i64 3) := hcell (by omega) 0 (by omega)
        have k1 : wr.cell? ⟨b, 1, none⟩ = some (.int .i64 1) := hcell (by omega) 1 (by omega)
        have k2 : wr.cell? ⟨b, 2, none⟩ = some (.int .i64 0) := hcell (by omega) 2 (by omega)
        have k3 : wr.cell? ⟨b, 3, none⟩ = some (.int .i64 0) := hcell (by omega) 3 (by omega)
        have e0 : atK 0 = 0 := rfl
        have e1 : outK 0 = [] := rfl
        have e2 : (outK 0).length = 0 := rfl
        rw [e0, e2]
        rw [e2, e1] at HR
        have HR1 := Lib.hid (Row_alloc HR.out (Obj.cells #[.int .i64 3, .int .i64 1, .int .i64 0, .int .i64 0] 107))
        have hbx : PBox wr.heap.size 3 1 0 0 (wr.alloc (Obj.cells #[.int .i64 3, .int .i64 1, .int .i64 0, .int .i64 0] 107)) := heap_alloc_new wr _
        have HBX := Lib.hid hbx
        have HB1 : Hid (Below w.heap.size w (wr.alloc (Obj.cells #[.int .i64 3, .int .i64 1, .int .i64 0, .int .i64 0] 107))) := Lib.hid (HB.out.alloc HB.out.size _)
        clear hbx hcell e0 e1 e2 HR
        go_wp2_with fail
        refine (put_lit _ 0 _ _ 3 _ HR1.out (by omega) (by omega)).mono ?_
        rintro e w2 ⟨pa, pc, rfl, hr2, hb2⟩
        have HR2 := Lib.hid hr2
        have HBX2 := Lib.hid (HBX.out.stays hb2)
        have HB2 : Hid (Below w.heap.size w w2) := Lib.hid (HB1.out.trans (hb2.mono HB1.out.size))
        obtain ⟨q0, q1, q2, q3⟩ := HBX2.out.cells
        clear hr2 hb2 k0 k1 k2 k3
        go_wp2_with fail
        refine (put_lit _ (0 + 1) _ _ 1 _ HR2.out (by omega) (by omega)).mono ?_
        rintro e w3 ⟨ra, rc, rfl, hr3, hb3⟩
        have HR3 := Lib.hid hr3
        have HBX3 := Lib.hid (HBX2.out.stays hb3)
        have HB3 : Hid (Below w.heap.size w w3) := Lib.hid (HB2.out.trans (hb3.mono HB2.out.size))
        clear hr3 hb3 q0 q1 q2 q3
        obtain ⟨q0, q1, q2, q3⟩ := HBX3.out.cells
        go_wp2_with fail
        go_roundw
        case rel => exact ⟨1, by omega, rfl, rfl, ra, rc, rfl, HR3.out, HB3.out⟩
        case measure => simp [intOf]
      · by_cases h1 : k = 1
        · subst h1
          have k0 : wr.cell? ⟨b, 4, none⟩ = some (.int .i64 3) := hcell (by omega) 0 (by omega)
          have k1 : wr.cell? ⟨b, 5, none⟩ = some (.int .i64 3) := hcell (by omega) 1 (by omega)
          have k2 : wr.cell? ⟨b, 6, none⟩ = some (.int .i64 2) := hcell (by omega) 2 (by omega)
          have k3 : wr.cell? ⟨b, 7, none⟩ = some (.int .i64 33) := hcell (by omega) 3 (by omega)
          have e0 : atK 1 = 3 := rfl
          have e1 : outK 1 = [3, 1] := rfl
          have e2 : (outK 1).length = 2 := rfl
          rw [e0, e2]
          rw [e2, e1] at HR
          have HR1 := Lib.hid (Row_alloc HR.out (Obj.cells #[.int .i64 3, .int .i64 3, .int .i64 2, .int .i64 33] 107))
          have hbx : PBox wr.heap.size 3 3 2 33 (wr.alloc (Obj.cells #[.int .i64 3, .int .i64 3, .int .i64 2, .int .i64 33] 107)) := heap_alloc_new wr _
          have HBX := Lib.hid hbx
          have HB1 : Hid (Below w.heap.size w (wr.alloc (Obj.cells #[.int .i64 3, .int .i64 3, .int .i64 2, .int .i64 33] 107))) := Lib.hid (HB.out.alloc HB.out.size _)
          clear hbx hcell e0 e1 e2 HR h0
          go_wp2_with fail
          refine (put_lit _ 2 _ _ 0 _ HR1.out (by omega) (by omega)).mono ?_
          rintro e w2 ⟨pa, pc, rfl, hr2, hb2⟩
          have HR2 := Lib.hid hr2
          have HBX2 := Lib.hid (HBX.out.stays hb2)
          have HB2 : Hid (Below w.heap.size w w2) := Lib.hid (HB1.out.trans (hb2.mono HB1.out.size))
          obtain ⟨q0, q1, q2, q3⟩ := HBX2.out.cells
          clear hr2 hb2 k0 k1 k2 k3
          go_wp2_with fail
          refine (put_lit _ (2 + 1) _ _ 3 _ HR2.out (by omega) (by omega)).mono ?_
          rintro e w3 ⟨ra, rc, rfl, hr3, hb3⟩
          have HR3 := Lib.hid hr3
          have HBX3 := Lib.hid (HBX2.out.stays hb3)
          have HB3 : Hid (Below w.heap.size w w3) := Lib.hid (HB2.out.trans (hb3.mono HB2.out.size))
          clear hr3 hb3 q0 q1 q2 q3
          obtain ⟨q0, q1, q2, q3⟩ := HBX3.out.cells
          go_wp2_with fail
          refine (put_lit _ (2 + 1 + 1) _ _ 2 _ HR3.out (by omega) (by omega)).mono ?_
          rintro e w4 ⟨sa, sc, rfl, hr4, hb4⟩
          have HR4 := Lib.hid hr4
          have HBX4 := Lib.hid (HBX3.out.stays hb4)
          have HB4 : Hid (Below w.heap.size w w4) := Lib.hid (HB3.out.trans (hb4.mono HB3.out.size))
          clear hr4 hb4 q0 q1 q2 q3
          obtain ⟨q0, q1, q2, q3⟩ := HBX4.out.cells
          go_wp2_with fail
          refine (put_lit _ (2 + 1 + 1 + 1) _ _ 33 _ HR4.out (by omega) (by omega)).mono ?_
          rintro e w5 ⟨ta, tc, rfl, hr5, hb5⟩
          have HR5 := Lib.hid hr5
          have HBX5 := Lib.hid (HBX4.out.stays hb5)
          have HB5 : Hid (Below w.heap.size w w5) := Lib.hid (HB4.out.trans (hb5.mono HB4.out.size))
          clear hr5 hb5 q0 q1 q2 q3
          obtain ⟨q0, q1, q2, q3⟩ := HBX5.out.cells
          go_wp2_with fail
          go_roundw
          case rel => exact ⟨2, by omega, rfl, rfl, ta, tc, rfl, HR5.out, HB5.out⟩
          case measure => simp [intOf]
        · obtain rfl : k = 2 := by omega
          have e2 : (outK 2).length = 6 := rfl
          have e1 : outK 2 = [3, 1, 0, 3, 2, 33] := rfl
          rw [e2]
          rw [e2, e1] at HR
          clear hcell h0 h1 e1 e2
          go_wp2_with fail
          go_ret2
          exact ⟨oa, oc, rfl, HR.out, HB.out⟩
  · omega

set_option maxHeartbeats 2000000 in
set_option maxRecDepth 100000 in
theorem sfirst4 (a : Nat → Addr) (w : World) (h : Sents4 a w) : Calls Tryd.prog 65 #[] w (TruePost w) := by
  have hb0 : Below w.heap.size w (w.alloc (Obj.cells #[.int .i64 3, .int .i64 1, .int .i64 0, .int .i64 0, .int .i64 3, .int .i64 3, .int .i64 2, .int .i64 33] 107)) := (Below.refl _ _).alloc (Nat.le_refl _) _
  have HS := Lib.hid (h.below hb0)
  have HP := Lib.hid (picks_new w)
  have HB0 := Lib.hid hb0
  clear h hb0
  go_enter Tryd.func65, Tryd.ntmps65
  go_wp2_with fail
  refine (print_two4 a _ _ HS.out HP.out).mono ?_
  rintro e w1 ⟨oa, oc, rfl, hr1, hb1⟩
  have HR1 := Lib.hid hr1
  have HB1 : Hid (Below w.heap.size w w1) := Lib.hid (HB0.out.trans (hb1.mono HB0.out.size))
  clear hr1 hb1
  go_wp2_with fail
  refine (unpack_33 _).mono ?_
  rintro e w2 ⟨rfl, hb2⟩
  have HR2 := Lib.hid (Row_alloc (Row_cells HR1.out hb2) (Obj.cells #[Value.bool true, Value.bool false, Value.bool false, Value.bool false, Value.bool false, Value.int IntKind.i64 2] 90))
  have hbx : OBox w2.heap.size (w2.alloc (Obj.cells #[Value.bool true, Value.bool false, Value.bool false, Value.bool false, Value.bool false, Value.int IntKind.i64 2] 90)) := heap_alloc_new w2 _
  have hb3 := HB1.out.trans (hb2.mono HB1.out.size)
  have HB2 : Hid (Below w.heap.size w (w2.alloc (Obj.cells #[Value.bool true, Value.bool false, Value.bool false, Value.bool false, Value.bool false, Value.int IntKind.i64 2] 90))) := Lib.hid (hb3.alloc hb3.size _)
  have HBX := Lib.hid hbx
  have HR3 := Lib.hid (Row_alloc HR2.out (.cells #[.int .u8 3, .int .u8 1, .int .u8 0, .int .u8 3, .int .u8 2, .int .u8 33] 5))
  clear hb2 hbx hb3 HR1 HR2
  go_wp2_with fail
  have HQ := Lib.hid (row_six (w2.alloc (Obj.cells #[Value.bool true, Value.bool false, Value.bool false, Value.bool false, Value.bool false, Value.int IntKind.i64 2] 90)))
  rw [World.size_alloc] at HQ
  refine (same_bytes oa _ 6 oc 6 6 _ _ _ HR3.out HQ.out (by omega)).mono ?_
  rintro e w3 ⟨he, nq, rfl⟩
  obtain rfl : e = .returned (.bool true) := by rw [he]; simp
  have hb6 : Below w.heap.size w (((w2.alloc (Obj.cells #[Value.bool true, Value.bool false, Value.bool false, Value.bool false, Value.bool false, Value.int IntKind.i64 2] 90)).alloc (.cells #[.int .u8 3, .int .u8 1, .int .u8 0, .int .u8 3, .int .u8 2, .int .u8 33] 5)).drewN nq) := below_drewN (HB2.out.alloc HB2.out.size _) nq
  have hbx2 : OBox w2.heap.size (((w2.alloc (Obj.cells #[Value.bool true, Value.bool false, Value.bool false, Value.bool false, Value.bool false, Value.int IntKind.i64 2] 90)).alloc (.cells #[.int .u8 3, .int .u8 1, .int .u8 0, .int .u8 3, .int .u8 2, .int .u8 33] 5)).drewN nq) := HBX.out.stays (below_drewN ((Below.refl _ _).alloc (Nat.le_refl _) _) nq)
  obtain ⟨o0, o1, o2, o3, o4, o5⟩ := hbx2.cells
  have HB6 := Lib.hid hb6
  clear he hb6 hbx2 HR3 HQ HBX
  generalize (((w2.alloc (Obj.cells #[Value.bool true, Value.bool false, Value.bool false, Value.bool false, Value.bool false, Value.int IntKind.i64 2] 90)).alloc (.cells #[.int .u8 3, .int .u8 1, .int .u8 0, .int .u8 3, .int .u8 2, .int .u8 33] 5)).drewN nq) = w6 at *
  go_wp2_with fail
  refine (pack_33 _).mono ?_
  rintro e w7 ⟨rfl, hb7⟩
  go_wp2_with fail
  go_ret
  exact ⟨rfl, HB6.out.trans (hb7.mono HB6.out.size)⟩

end Go.Proofs.YtjcklfbpdjfibaaDoor

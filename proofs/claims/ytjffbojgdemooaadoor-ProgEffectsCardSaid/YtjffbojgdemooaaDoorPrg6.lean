/-
  Package prog: May, behind what mayClass and mayMethod answer.
-/
import Derived.Test.YtjffbojgdemooaaDoorPrg5
namespace Go.Proofs.YtjffbojgdemooaaDoor
open Go.RowKit

/-- What May answers: kc how many classes may be ahead of the first that may not, n how many methods. -/
def progW (nc kc nm n : Nat) (cv : Nat → Nat) (mv : Nat → Option (Nat × Int × Int)) : Option (Nat × Int × Int) :=
  if kc < nc then some (cv kc - 1, kc, -1) else if n < nm then mv n else none

set_option maxHeartbeats 4000000 in
set_option maxRecDepth 100000 in
theorem May_any (a : Nat → Addr) (ca : Option Addr) (nc cc : Nat) (ma : Option Addr) (nm mc : Nat) (f : Nat → ByteArray) (kc n : Nat) (cv : Nat → Nat) (mv : Nat → Option (Nat × Int × Int)) (w : World)
    (h1 : nc ≤ 12) (h2 : 1 ≤ nm) (h3 : nm ≤ 12) (hF : Cls w ca nc cc f)
    (hC : ∀ i, i < nc → ∀ w', Below w.heap.size w w' → Calls Tryd.prog 98 #[.agg #[.string (f i)]] w' (MayPost a (cv i) w'))
    (hk : kc ≤ nc) (hok : ∀ i, i < kc → cv i = 0) (hbad : kc < nc → cv kc ≠ 0)
    (hM : ∀ i : Nat, i < nm → ∀ w', Below w.heap.size w w' → Calls Tryd.prog 99 #[.agg #[.slice ca nc cc, .slice ma nm mc], .int .i64 i] w' (WherePost a (mv i) w'))
    (hn : n ≤ nm) (gok : ∀ i, i < n → mv i = none) (gbad : n < nm → mv n ≠ none) :
    Calls Tryd.prog 36 #[.agg #[.slice ca nc cc, .slice ma nm mc]] w (WherePost a (progW nc kc nm n cv mv) w) := by
  have hbl : Below w.heap.size w (w.alloc (.cells #[.slice ca nc cc, .slice ma nm mc] 46)) := (Below.refl _ _).alloc (Nat.le_refl _) _
  have HC := Lib.hid hC
  have HM := Lib.hid hM
  have HF := Lib.hid hF
  have HOK := Lib.hid hok
  have HBAD := Lib.hid hbad
  have GOK := Lib.hid gok
  have GBAD := Lib.hid gbad
  have PB : Hid (∀ w', Below (w.heap.size + 1) (w.alloc (.cells #[.slice ca nc cc, .slice ma nm mc] 46)) w' → w'.cell? ⟨w.heap.size, 0, none⟩ = some (.slice ca nc cc) ∧ w'.cell? ⟨w.heap.size, 1, none⟩ = some (.slice ma nm mc)) := Lib.hid fun w' hb => by
    have hr := (hb.block w.heap.size (by omega)).trans (heap_alloc_new w (.cells #[.slice ca nc cc, .slice ma nm mc] 46))
    exact ⟨(cell_of_row _ _ 0 _ 46 (0, 0) hr).trans rfl, (cell_of_row _ _ 1 _ 46 (0, 0) hr).trans rfl⟩
  have t1 : decide (12 < (nc : Int)) = false := by simp; omega
  have t2 : ((nm : Int) == 0) = false := by simp; omega
  have t3 : decide (12 < (nm : Int)) = false := by simp; omega
  have R0 : Hid (MRel w (w.alloc (.cells #[.slice ca nc cc, .slice ma nm mc] 46)) kc (.int .i64 ((0 : Nat) : Int)) (w.alloc (.cells #[.slice ca nc cc, .slice ma nm mc] 46))) := Lib.hid ⟨0, Nat.zero_le _, rfl, hbl, Below.refl _ _⟩
  clear hbl hC hM hF hok hbad gok gbad
  go_enter Tryd.func36, Tryd.ntmps36
  go_wp2_with fail
  go_loopw [28] (fun si wr => MRel w (w.alloc (.cells #[.slice ca nc cc, .slice ma nm mc] 46)) kc si wr) (fun si _ => nc - (intOf si).toNat)
  case atStart => exact R0.out
  case round =>
    obtain ⟨k, hkk, rfl, hb, hb1⟩ := hrel
    clear R0
    by_cases hlt : k < nc
    · have t4 : decide (k < nc) = true := by simpa using hlt
      obtain ⟨lb, lo, rfl, hlb, hcl⟩ := Cls_at HF.out (by omega)
      have hcell : wr.cell? ⟨lb, lo + k, none⟩ = some (.string (f k)) := (hb.cell (p := ⟨lb, lo + k, none⟩) hlb).trans (hcl k hlt)
      have hbl2 : Below w.heap.size w (wr.alloc (.cells #[.string (f k)] 90)) := hb.alloc hb.size _
      have hbl3 : Below (w.heap.size + 1) (w.alloc (.cells #[.slice (some ⟨lb, lo, none⟩) nc cc, .slice ma nm mc] 46)) (wr.alloc (.cells #[.string (f k)] 90)) := hb1.alloc (by have := hb1.size; simp at this; omega) _
      have HC2 := Lib.hid (HC.out k hlt _ hbl2)
      have HBA := Lib.hid hbl2
      have HBB := Lib.hid hbl3
      clear hcl hb hb1 hbl2 hbl3
      generalize f k = s at *
      go_wp2_with fail
      refine HC2.out.mono ?_
      rintro e w3 ⟨rfl, hb3⟩
      have HA3 : Hid (Below w.heap.size w w3) := Lib.hid (HBA.out.trans (hb3.mono HBA.out.size))
      have HB3 : Hid (Below (w.heap.size + 1) (w.alloc (.cells #[.slice (some ⟨lb, lo, none⟩) nc cc, .slice ma nm mc] 46)) w3) := Lib.hid (HBB.out.trans (hb3.mono (by have := HBB.out.size; simp at this ⊢; omega)))
      clear hb3 HC2 HBA HBB hcell
      by_cases hkn : k < kc
      · have hz := HOK.out k hkn
        have h0 : errV a 0 = .nilIface := rfl
        rw [hz, h0]
        clear h0 hz
        go_wp2_with fail
        go_roundw
        case rel => exact ⟨k + 1, by omega, by go_num, HA3.out, HB3.out⟩
        case measure => simp [intOf]; omega
      · obtain rfl : k = kc := by omega
        obtain ⟨c, hc⟩ : ∃ c, cv k = c + 1 := ⟨cv k - 1, by have := HBAD.out hlt; omega⟩
        have hmw : progW nc k nm n cv mv = some (c, (k : Int), -1) := by rw [progW, if_pos hlt, hc]; rfl
        have HMW := Lib.hid hmw
        rw [hc]
        have he : errV a (c + 1) = .iface 272 (.pointer (some (a c))) := rfl
        rw [he]
        obtain ⟨x, hx⟩ : ∃ x, a c = x := ⟨_, rfl⟩
        rw [hx]
        have HX2 := Lib.hid hx
        clear hx he hmw hc
        go_wp2_with fail
        go_ret
        rw [HMW.out]
        refine where_some (HA3.out.alloc HA3.out.size _) _ rfl HA3.out.size ?_
        unfold WBox
        rw [heap_alloc_new, HX2.out]
    · have t4 : decide (k < nc) = false := by simpa using hlt
      obtain rfl : kc = nc := by omega
      obtain rfl : k = kc := by omega
      have R1 : Hid (MRel w (w.alloc (.cells #[.slice ca k cc, .slice ma nm mc] 46)) n (.int .i64 ((0 : Nat) : Int)) wr) := Lib.hid ⟨0, Nat.zero_le _, rfl, hb, hb1⟩
      obtain ⟨p0, p1⟩ := PB.out wr hb1
      clear hb hb1 HC HF HOK HBAD
      go_wp2_with fail
      clear p0 p1
      go_loopw [46] (fun si wr => MRel w (w.alloc (.cells #[.slice ca k cc, .slice ma nm mc] 46)) n si wr) (fun si _ => nm - (intOf si).toNat)
      case atStart => exact R1.out
      case round =>
        obtain ⟨j, hj, rfl, hb, hb1⟩ := hrel
        clear R1
        by_cases hjl : j < nm
        · have t5 : decide (j < nm) = true := by simpa using hjl
          have HM2 := Lib.hid (HM.out j hjl _ hb)
          obtain ⟨p0, p1⟩ := PB.out _ hb1
          have HBA := Lib.hid hb
          have HBB := Lib.hid hb1
          clear hb hb1
          go_wp2_with fail
          refine HM2.out.mono ?_
          rintro e w3 hpost
          by_cases hjn : j < n
          · rw [GOK.out j hjn] at hpost
            obtain ⟨hb3, rfl⟩ := hpost
            have HA3 : Hid (Below w.heap.size w w3) := Lib.hid (HBA.out.trans (hb3.mono HBA.out.size))
            have HB3 : Hid (Below (w.heap.size + 1) (w.alloc (.cells #[.slice ca k cc, .slice ma nm mc] 46)) w3) := Lib.hid (HBB.out.trans (hb3.mono (by have := HBB.out.size; simp at this ⊢; omega)))
            clear hb3 HM2 HBA HBB p0 p1
            go_wp2_with fail
            go_roundw
            case rel => exact ⟨j + 1, by omega, by go_num, HA3.out, HB3.out⟩
            case measure => simp [intOf]; omega
          · obtain rfl : j = n := by omega
            have hne := GBAD.out hjl
            have HMW : Hid (progW k k nm j cv mv = mv j) := Lib.hid (by rw [progW, if_neg (by omega), if_pos hjl])
            obtain ⟨⟨c, x, y⟩, hv⟩ := Option.ne_none_iff_exists'.1 hne
            rw [hv] at hpost HMW
            obtain ⟨hb3, b, rfl, hbb, hbox⟩ := hpost
            have HA3 : Hid (Below w.heap.size w w3) := Lib.hid (HBA.out.trans (hb3.mono HBA.out.size))
            have HX := Lib.hid hbox
            have HBG : Hid (w.heap.size ≤ b) := Lib.hid (Nat.le_trans HBA.out.size hbb)
            clear hb3 HM2 HBA HBB p0 p1 hv hne hbb hbox
            go_wp2_with fail
            go_ret
            rw [HMW.out]
            exact where_some HA3.out _ rfl HBG.out HX.out
        · have t5 : decide (j < nm) = false := by simpa using hjl
          obtain rfl : n = nm := by omega
          have HMW : Hid (progW k k n n cv mv = none) := Lib.hid (by rw [progW, if_neg (by omega), if_neg (by omega)])
          have HBF := Lib.hid hb
          clear hb hb1
          go_wp2_with fail
          go_ret
          rw [HMW.out]
          exact where_none HBF.out rfl

end Go.Proofs.YtjffbojgdemooaaDoor

/-
  The document's May, at a program of few classes and methods. (Written by genrfc.py.)
-/
import Derived.Test.YtjffbojgdemooaaDoorVrd
import Derived.Test.YtjffbojgdemooaaDoorRfB
import Derived.Test.YtjffbojgdemooaaDoorSeeW2
import Derived.StillTailTactics
namespace Go.Proofs.YtjffbojgdemooaaDoor
open Go.RowKit

theorem rnone_any (w : World) : Calls Tryd.prog 103 #[] w (PlainPost 0 w) := by
  go_enter Tryd.func103, Tryd.ntmps103
  go_wp2
  exact bodyPost_ret (v := .agg #[.int .i64 0, .slice none 0 0]) (by simp [results, Tryd.results103, go_sem]) rfl ⟨rfl, (Below.refl _ _).alloc (Nat.le_refl _) _⟩

def ThereAt (c x y : Int) (w : World) (e : Ending) (w' : World) : Prop := ∃ g, e = .returned (.agg #[.int .i64 c, .slice (some ⟨g, 0, none⟩) 2 2]) ∧ w.heap.size ≤ g ∧ w'.cell? ⟨g, 0, none⟩ = some (.int .i64 x) ∧ w'.cell? ⟨g, 1, none⟩ = some (.int .i64 y) ∧ Below w.heap.size w w'

theorem there_at (c x y : Int) (w : World) :
    Calls Tryd.prog 96 #[.int .i64 c, .int .i64 x, .int .i64 y] w (ThereAt c x y w) := by
  go_enter Tryd.func96, Tryd.ntmps96
  go_wp2_with fail
  have hX := heap_alloc_new w (Obj.cells #[Value.int IntKind.i64 c, Value.slice (some ⟨w.heap.size + 1, 0, none⟩) 2 2] 53)
  have hs : (w.alloc (Obj.cells #[Value.int IntKind.i64 c, Value.slice (some ⟨w.heap.size + 1, 0, none⟩) 2 2] 53)).heap.size = w.heap.size + 1 := by simp
  have hY := heap_alloc_new (w.alloc (Obj.cells #[Value.int IntKind.i64 c, Value.slice (some ⟨w.heap.size + 1, 0, none⟩) 2 2] 53)) (Obj.cells #[Value.int IntKind.i64 x, Value.int IntKind.i64 y] 3)
  rw [hs] at hY
  have hb : Below w.heap.size w ((w.alloc (Obj.cells #[Value.int IntKind.i64 c, Value.slice (some ⟨w.heap.size + 1, 0, none⟩) 2 2] 53)).alloc (Obj.cells #[Value.int IntKind.i64 x, Value.int IntKind.i64 y] 3)) := ((Below.refl _ _).alloc (Nat.le_refl _) _).alloc (by simp) _
  have hX2 : ((w.alloc (Obj.cells #[Value.int IntKind.i64 c, Value.slice (some ⟨w.heap.size + 1, 0, none⟩) 2 2] 53)).alloc (Obj.cells #[Value.int IntKind.i64 x, Value.int IntKind.i64 y] 3)).heap[w.heap.size]? = _ := (Below.heap_alloc _ _ _ (by simp)).trans hX
  have f0 := (cell_of_row _ w.heap.size 0 _ 53 (0, 0) hX2).trans rfl
  have f1 := (cell_of_row _ w.heap.size 1 _ 53 (0, 0) hX2).trans rfl
  exact bodyPost_ret (v := .agg #[.int .i64 c, .slice (some ⟨w.heap.size + 1, 0, none⟩) 2 2]) (by simp [results, Tryd.results96, go_sem, f0, f1]) rfl ⟨_, rfl, by omega, (cell_of_row _ (w.heap.size + 1) 0 _ 3 (0, 0) hY).trans rfl, (cell_of_row _ (w.heap.size + 1) 1 _ 3 (0, 0) hY).trans rfl, hb⟩

/-- What the document's May answers. -/
def RefPost (v : Option (Nat × Int × Int)) (w : World) (e : Ending) (w' : World) : Prop :=
  Below w.heap.size w w' ∧ match v with
    | none => e = .returned (.agg #[.int .i64 0, .slice none 0 0])
    | some (c, m, pc) => ∃ g, e = .returned (.agg #[.int .i64 ((101 + c : Nat) : Int), .slice (some ⟨g, 0, none⟩) 2 2]) ∧ w'.cell? ⟨g, 0, none⟩ = some (.int .i64 m) ∧ w'.cell? ⟨g, 1, none⟩ = some (.int .i64 pc)

/-- A place, as it is handed back. -/
def ThereRet (C m pc : Int) (w : World) (e : Ending) (w' : World) : Prop :=
  Below w.heap.size w w' ∧ ∃ g, e = .returned (.agg #[.int .i64 C, .slice (some ⟨g, 0, none⟩) 2 2]) ∧ w'.cell? ⟨g, 0, none⟩ = some (.int .i64 m) ∧ w'.cell? ⟨g, 1, none⟩ = some (.int .i64 pc)

def rmW (ca : Option Addr) (nc cc : Nat) (ma : Option Addr) (nm mc : Nat) (w : World) : World :=
  (w.alloc (.cells #[.slice ca nc cc, .slice ma nm mc] 46)).alloc (Obj.cells #[Value.int IntKind.i64 0, Value.slice none 0 0] 53)

theorem rmW_below (ca : Option Addr) (nc cc : Nat) (ma : Option Addr) (nm mc : Nat) (w : World) : Below w.heap.size w (rmW ca nc cc ma nm mc w) := ((Below.refl _ _).alloc (Nat.le_refl _) _).alloc (by simp) _
theorem rmW_size (ca : Option Addr) (nc cc : Nat) (ma : Option Addr) (nm mc : Nat) (w : World) : (rmW ca nc cc ma nm mc w).heap.size = w.heap.size + 1 + 1 := by simp [rmW]
theorem rmW_prog {ca : Option Addr} {nc cc : Nat} {ma : Option Addr} {nm mc : Nat} {w w' : World} (hb : Below (rmW ca nc cc ma nm mc w).heap.size (rmW ca nc cc ma nm mc w) w') : w'.cell? ⟨w.heap.size, 0, none⟩ = some (.slice ca nc cc) ∧ w'.cell? ⟨w.heap.size, 1, none⟩ = some (.slice ma nm mc) := by
  have hr : (rmW ca nc cc ma nm mc w).heap[w.heap.size]? = some (.cells #[.slice ca nc cc, .slice ma nm mc] 46 (0, 0)) := by
    unfold rmW
    rw [Below.heap_alloc _ _ _ (by simp)]
    exact heap_alloc_new w _
  have h2 := (hb.block w.heap.size (by rw [rmW_size]; omega)).trans hr
  exact ⟨(cell_of_row _ _ 0 _ 46 (0, 0) h2).trans rfl, (cell_of_row _ _ 1 _ 46 (0, 0) h2).trans rfl⟩

theorem grown_storeR (w : World) (g j : Nat) (v : Value) : w.grownBy (w.setCell ⟨g, j, none⟩ v) (some g) :=
  ⟨rfl, rfl, rfl, by simp, fun k _ hk => heap_setCell_other w ⟨g, j, none⟩ k v (fun e => hk (by simp [e]))⟩

theorem rm_fin {ca : Option Addr} {nc cc : Nat} {ma : Option Addr} {nm mc : Nat} {w w2 : World} (hb : Below (rmW ca nc cc ma nm mc w).heap.size (rmW ca nc cc ma nm mc w) w2) (C m pc : Int) (g : Nat) (hg : (rmW ca nc cc ma nm mc w).heap.size ≤ g) (c0 : w2.cell? ⟨g, 0, none⟩ = some (.int .i64 m)) (c1 : w2.cell? ⟨g, 1, none⟩ = some (.int .i64 pc)) :
    ThereRet C m pc w (.returned (.agg #[.int .i64 C, .slice (some ⟨g, 0, none⟩) 2 2])) ((w2.setCell ⟨(w.alloc (.cells #[.slice ca nc cc, .slice ma nm mc] 46)).heap.size, 0, none⟩ (.int .i64 C)).setCell ⟨(w.alloc (.cells #[.slice ca nc cc, .slice ma nm mc] 46)).heap.size, 1, none⟩ (.slice (some ⟨g, 0, none⟩) 2 2)) := by
  have hB := (rmW_below ca nc cc ma nm mc w).trans (hb.mono (rmW_below ca nc cc ma nm mc w).size)
  have hs := rmW_size ca nc cc ma nm mc w
  have hgl := World.block_lt_of_cell? w2 _ c0
  have e1 : (w.alloc (.cells #[.slice ca nc cc, .slice ma nm mc] 46)).heap.size = w.heap.size + 1 := by simp
  rw [e1]
  have k : ((w2.setCell ⟨w.heap.size + 1, 0, none⟩ (.int .i64 C)).setCell ⟨w.heap.size + 1, 1, none⟩ (.slice (some ⟨g, 0, none⟩) 2 2)).heap[g]? = w2.heap[g]? := by
    have a1 := (grown_storeR w2 (w.heap.size + 1) 0 (.int .i64 C)).block g hgl (fun e => by cases e; omega)
    have a2 := (grown_storeR (w2.setCell ⟨w.heap.size + 1, 0, none⟩ (.int .i64 C)) (w.heap.size + 1) 1 (.slice (some ⟨g, 0, none⟩) 2 2)).block g (Nat.lt_of_lt_of_le hgl (grown_storeR w2 (w.heap.size + 1) 0 (.int .i64 C)).size) (fun e => by cases e; omega)
    exact a2.trans a1
  exact ⟨(hB.setCell (by show w.heap.size ≤ w.heap.size + 1; omega) _).setCell (by show w.heap.size ≤ w.heap.size + 1; omega) _, g, rfl, (World.cell?_of_block (w := w2) (a := ⟨g, 0, none⟩) k).trans c0, (World.cell?_of_block (w := w2) (a := ⟨g, 1, none⟩) k).trans c1⟩

theorem ref_some {c : Nat} {C m pc : Int} {w : World} {e : Ending} {w' : World} (hC : C = ((101 + c : Nat) : Int)) (h : ThereRet C m pc w e w') : RefPost (some (c, m, pc)) w e w' := by
  subst hC
  exact h

def RRel (ca : Option Addr) (nc cc : Nat) (ma : Option Addr) (nm mc : Nat) (w : World) (n : Nat) (si : Value) (wr : World) : Prop := ∃ k : Nat, k ≤ n ∧ si = .int .i64 k ∧ Below (rmW ca nc cc ma nm mc w).heap.size (rmW ca nc cc ma nm mc w) wr
def RRel3 (ca : Option Addr) (nc cc : Nat) (ma : Option Addr) (nm mc : Nat) (w wM : World) (n : Nat) (si : Value) (wr : World) : Prop := ∃ k : Nat, k ≤ n ∧ si = .int .i64 k ∧ Below (rmW ca nc cc ma nm mc w).heap.size (rmW ca nc cc ma nm mc w) wr ∧ Below wM.heap.size wM wr

theorem retK_ways (rt : ByteArray) : rt = ⟨#[]⟩ ∨ rt = ⟨#[73]⟩ ∨ rt = ⟨#[82]⟩ ∨ (retK rt = 3 ∧ rt ≠ ⟨#[]⟩ ∧ rt ≠ ⟨#[73]⟩ ∧ rt ≠ ⟨#[82]⟩) := by
  by_cases h0 : rt = ⟨#[]⟩
  · exact .inl h0
  · by_cases h1 : rt = ⟨#[73]⟩
    · exact .inr (.inl h1)
    · by_cases h2 : rt = ⟨#[82]⟩
      · exact .inr (.inr (.inl h2))
      · exact .inr (.inr (.inr ⟨by unfold retK; rw [if_neg h0, if_neg h1, if_neg h2], h0, h1, h2⟩))

theorem str_eq {s : ByteArray} {l : List UInt8} : s.toList = l ↔ s = ⟨l.toArray⟩ := by
  rw [ByteArray.toList_eq]
  constructor
  · intro e
    apply ByteArray.ext
    apply Array.ext'
    simpa using e
  · intro e
    subst e
    rfl

theorem str_no {s : ByteArray} {l : List UInt8} (h : s ≠ ⟨l.toArray⟩) : ¬ s.toList = l := fun e => h (str_eq.1 e)

theorem str_isEmpty {s : ByteArray} (h : s ≠ ⟨#[]⟩) : s.toList.isEmpty = false := by
  have := str_no (l := []) h
  cases hs : s.toList with
  | nil => exact absurd hs this
  | cons a l => rfl

def MBox (ps ls rt : ByteArray) (co : Option Addr) (len cp b : Nat) (w' : World) : Prop :=
  w'.cell? ⟨b, 0, none⟩ = some (.string ps) ∧ w'.cell? ⟨b, 1, none⟩ = some (.string ls) ∧ w'.cell? ⟨b, 2, none⟩ = some (.string rt) ∧ w'.cell? ⟨b, 3, none⟩ = some (.slice co len cp)

theorem mbox_of (ps ls rt : ByteArray) (co : Option Addr) (len cp : Nat) (wr w' : World) (hb : Below (wr.alloc (.cells #[.string ps, .string ls, .string rt, .slice co len cp] 62)).heap.size (wr.alloc (.cells #[.string ps, .string ls, .string rt, .slice co len cp] 62)) w') : MBox ps ls rt co len cp wr.heap.size w' := by
  have h2 := (hb.block wr.heap.size (by simp)).trans (heap_alloc_new wr _)
  exact ⟨(cell_of_row _ _ 0 _ 62 (0, 0) h2).trans rfl, (cell_of_row _ _ 1 _ 62 (0, 0) h2).trans rfl, (cell_of_row _ _ 2 _ 62 (0, 0) h2).trans rfl, (cell_of_row _ _ 3 _ 62 (0, 0) h2).trans rfl⟩

set_option maxHeartbeats 16000000 in
set_option maxRecDepth 100000 in
theorem rMay_any (ca : Option Addr) (nc cc : Nat) (f : Nat → ByteArray) (ma : Option Addr) (nm mc : Nat) (ms : Nat → Meth) (w : World) (h1 : nc ≤ 12) (h2 : 1 ≤ nm) (h3 : nm ≤ 12) (hP : Prg w ca nc cc f ma nm mc ms) (hS : Sml nc f nm ms) :
    Calls Tryd.prog 37 #[.agg #[.slice ca nc cc, .slice ma nm mc]] w (RefPost (verdict nc nm f ms) w) := by
  have HP := Lib.hid hP
  have HS := Lib.hid hS
  have PB : Hid (∀ w', Below (rmW ca nc cc ma nm mc w).heap.size (rmW ca nc cc ma nm mc w) w' → w'.cell? ⟨w.heap.size, 0, none⟩ = some (.slice ca nc cc) ∧ w'.cell? ⟨w.heap.size, 1, none⟩ = some (.slice ma nm mc)) := Lib.hid fun w' hb => rmW_prog hb
  have BW : Hid (∀ w', Below (rmW ca nc cc ma nm mc w).heap.size (rmW ca nc cc ma nm mc w) w' → Below w.heap.size w w') := Lib.hid fun w' hb => (rmW_below ca nc cc ma nm mc w).trans (hb.mono (rmW_below ca nc cc ma nm mc w).size)
  have LT : Hid (∀ s w, s.size ≤ maxLen → Calls Tryd.prog 101 #[.string s] w (LetPost s w)) := Lib.hid fun s w h => rletters_any s w h
  have t1 : decide (12 < (nc : Int)) = false := by simp; omega
  have t2 : decide ((nm : Int) < 1) = false := by simp; omega
  have t3 : decide (12 < (nm : Int)) = false := by simp; omega
  have R0 : Hid (RRel ca nc cc ma nm mc w (goodC nc f) (.int .i64 ((0 : Nat) : Int)) (rmW ca nc cc ma nm mc w)) := Lib.hid ⟨0, Nat.zero_le _, rfl, Below.refl _ _⟩
  have hsz := rmW_size ca nc cc ma nm mc w
  clear hP hS
  go_enter Tryd.func37, Tryd.ntmps37
  go_wp2_with fail
  go_loopw [3] (fun si wr => RRel ca nc cc ma nm mc w (goodC nc f) si wr) (fun si _ => nc - (intOf si).toNat)
  case atStart => exact R0.out
  case round =>
    obtain ⟨k, hk, rfl, hb⟩ := hrel
    clear R0 t1 t2 t3
    have HB := Lib.hid hb
    obtain ⟨p0, p1⟩ := PB.out wr hb
    by_cases hlt : k < nc
    · have tk : decide (k < nc) = true := by simpa using hlt
      obtain ⟨lb, lo, rfl, hlb, hcl⟩ := Cls_at HP.out.cls (by omega)
      have hcell : wr.cell? ⟨lb, lo + k, none⟩ = some (.string (f k)) := ((BW.out wr hb).cell (p := ⟨lb, lo + k, none⟩) hlb).trans (hcl k hlt)
      have hfs := HS.out.fs k hlt
      have HFS := Lib.hid hfs
      unfold maxLen at hfs
      by_cases hbad : clsC (f k) = 0
      · have hkn : k < goodC nc f := by
          rcases Nat.lt_or_ge k (goodC nc f) with h | h
          · exact h
          · obtain rfl : k = goodC nc f := by omega
            exact absurd hbad (goodC_bad hlt)
        have HKN := Lib.hid hkn
        have hfair : fairB (f k) = true ∧ (f k).size ≤ 10 := by
          unfold clsC at hbad
          split at hbad
          · cases hbad
          · split at hbad
            · exact ⟨by assumption, by omega⟩
            · cases hbad
        obtain ⟨hfr, hf10⟩ := hfair
        have HFR := Lib.hid hfr
        have L1 : Hid (∀ w, Calls Tryd.prog 101 #[.string (f k)] w (fun e w' => e = .returned (.bool true) ∧ w = w')) := Lib.hid fun w => (LT.out _ w HFS.out).mono (by rintro e w' ⟨rfl, rfl⟩; exact ⟨by rw [HFR.out], rfl⟩)
        have t4 : decide (10 < (f k).size) = false := by simp; omega
        have t4' : decide (10 < ((f k).size : Int)) = false := by simp; omega
        clear hcl hb hkn hbad hfr hf10
        generalize f k = s at *
        go_wp2_with (go_at_call 101; refine (L1.out _).mono ?_; rintro e w' ⟨rfl, rfl⟩)
        go_roundw
        case rel => exact ⟨k + 1, by have := HKN.out; omega, by go_num, HB.out⟩
        case measure => simp [intOf]; omega
      · have hke : k = goodC nc f := by
          rcases Nat.lt_or_ge k (goodC nc f) with h | h
          · exact absurd (goodC_ok h) hbad
          · omega
        have hvd : verdict nc nm f ms = some (clsC (f k) - 1, (k : Int), -1) := by
          unfold verdict progW
          rw [if_pos (by omega), ← hke]
        by_cases h10 : 10 < (f k).size
        · have VD0 : Hid (verdict nc nm f ms = some (0, (k : Int), -1)) := Lib.hid (by rw [hvd, clsC, if_pos h10])
          have VD : Hid (RefPost (verdict nc nm f ms) w = RefPost (some (0, (k : Int), -1)) w) := Lib.hid (by rw [VD0.out])
          have t4 : decide (10 < (f k).size) = true := by simpa using h10
          have t4' : decide (10 < ((f k).size : Int)) = true := by simp; omega
          clear hcl hb hke hbad hvd VD0
          generalize f k = s at *
          go_wp2_with fail
          refine (there_at 101 k (-1) _).mono ?_
          rintro e w2 ⟨g, rfl, hg, c0, c1, hb2⟩
          have hbx := HB.out.trans (hb2.mono HB.out.size)
          obtain ⟨f0, f1, g0, g1, hsz⟩ := boxed _ 53 hbx
          have HFIN := Lib.hid (rm_fin hbx 101 k (-1) g (Nat.le_trans HB.out.size hg) c0 c1)
          rw [World.size_alloc] at f0 f1 g0 g1 HFIN
          clear hb2 hbx c0 c1 hg hsz
          go_wp2_with fail
          exact bodyPost_ret (v := .agg #[.int .i64 101, .slice (some ⟨g, 0, none⟩) 2 2]) (by simp [results, Tryd.results37, go_sem, f0, f1]) rfl (by rw [VD.out]; exact ref_some rfl HFIN.out)
        · have hfr : fairB (f k) = false := by
            unfold clsC at hbad
            rw [if_neg h10] at hbad
            cases h : fairB (f k) with
            | false => rfl
            | true => rw [h] at hbad; simp at hbad
          have VD0 : Hid (verdict nc nm f ms = some (1, (k : Int), -1)) := Lib.hid (by rw [hvd, clsC, if_neg h10, hfr]; rfl)
          have VD : Hid (RefPost (verdict nc nm f ms) w = RefPost (some (1, (k : Int), -1)) w) := Lib.hid (by rw [VD0.out])
          have HFR := Lib.hid hfr
          have L1 : Hid (∀ w, Calls Tryd.prog 101 #[.string (f k)] w (fun e w' => e = .returned (.bool false) ∧ w = w')) := Lib.hid fun w => (LT.out _ w HFS.out).mono (by rintro e w' ⟨rfl, rfl⟩; exact ⟨by rw [HFR.out], rfl⟩)
          have t4 : decide (10 < (f k).size) = false := by simp; omega
          have t4' : decide (10 < ((f k).size : Int)) = false := by simp; omega
          clear hcl hb hke hbad hvd VD0 h10 hfr
          generalize f k = s at *
          go_wp2_with (go_at_call 101; refine (L1.out _).mono ?_; rintro e w' ⟨rfl, rfl⟩)
          refine (there_at 102 k (-1) _).mono ?_
          rintro e w2 ⟨g, rfl, hg, c0, c1, hb2⟩
          have hbx := HB.out.trans (hb2.mono HB.out.size)
          obtain ⟨f0, f1, g0, g1, hsz⟩ := boxed _ 53 hbx
          have HFIN := Lib.hid (rm_fin hbx 102 k (-1) g (Nat.le_trans HB.out.size hg) c0 c1)
          rw [World.size_alloc] at f0 f1 g0 g1 HFIN
          clear hb2 hbx c0 c1 hg hsz
          go_wp2_with fail
          exact bodyPost_ret (v := .agg #[.int .i64 102, .slice (some ⟨g, 0, none⟩) 2 2]) (by simp [results, Tryd.results37, go_sem, f0, f1]) rfl (by rw [VD.out]; exact ref_some rfl HFIN.out)
    · have tk : decide (k < nc) = false := by simpa using hlt
      obtain rfl : k = nc := by have := goodC_le (nc := nc) (f := f); omega
      have hgc : goodC k f = k := by have := goodC_le (nc := k) (f := f); omega
      have HGC := Lib.hid hgc
      have HVN : Hid (∀ m, m = goodM k nm f ms → m < nm → verdict k nm f ms = mthV k nm f ms m) := Lib.hid fun m hm hlt => by
        unfold verdict progW
        rw [if_neg (by omega), if_pos (by omega), ← hm]
      have HVE : Hid (goodM k nm f ms = nm → verdict k nm f ms = none) := Lib.hid fun hm => by
        unfold verdict progW
        rw [if_neg (by omega), if_neg (by omega)]
      have R1 : Hid (RRel ca k cc ma nm mc w (goodM k nm f ms) (.int .i64 ((0 : Nat) : Int)) wr) := Lib.hid ⟨0, Nat.zero_le _, rfl, hb⟩
      obtain ⟨mb, mo, rfl, hmb, hmc⟩ := Prg_at HP.out (by omega)
      have HMC := Lib.hid hmc
      have HMB := Lib.hid hmb
      clear hb HB hgc hmc hmb
      go_wp2_with fail
      clear p0 p1
      go_loopw [5] (fun si wr => RRel ca k cc (some ⟨mb, mo, none⟩) nm mc w (goodM k nm f ms) si wr) (fun si _ => nm - (intOf si).toNat)
      case atStart => exact R1.out
      case round =>
        obtain ⟨m, hm, rfl, hb⟩ := hrel
        clear R1
        obtain ⟨p0, p1⟩ := PB.out wr hb
        by_cases hml : m < nm
        · have tm : decide (m < nm) = true := by simpa using hml
          have hbw := BW.out wr hb
          obtain ⟨x0', x1', x2', x3'⟩ := HMC.out m hml
          have x0 := (hbw.cell (p := ⟨mb, mo + m * 4, none⟩) HMB.out).trans x0'
          have x1 := (hbw.cell (p := ⟨mb, mo + m * 4 + 1, none⟩) HMB.out).trans x1'
          have x2 := (hbw.cell (p := ⟨mb, mo + m * 4 + 2, none⟩) HMB.out).trans x2'
          have x3 := (hbw.cell (p := ⟨mb, mo + m * 4 + 3, none⟩) HMB.out).trans x3'
          clear x0' x1' x2' x3'
          have HVM := HVN.out m
          have hmv : mthV k nm f ms m = methW (headA (decide (m = 0)) (ms m).ps (ms m).ls (ms m).rt (ms m).len) m (ms m).len (firstBad (fun i => decide (icA k nm f (ms m) i ≠ 0)) (ms m).len) (icA k nm f (ms m)) := rfl
          have q1 := HS.out.ps m hml
          have q2 := HS.out.ls m hml
          have q3 := HS.out.rt m hml
          have q4 := HS.out.len m hml
          have HCD := Lib.hid (HP.out.code m hml)
          have HX := Lib.hid (show ∀ i, icA k nm f (ms m) i = icOf k nm ((ms m).ps.size + (ms m).ls.size) f (ms m).len (ms m).gv i from fun i => rfl)
          have HIL := Lib.hid (goodI_le (nc := k) (nm := nm) (f := f) (ms m))
          have HIO := Lib.hid (fun i => goodI_ok (nc := k) (nm := nm) (f := f) (ms m) (i := i))
          have HIB := Lib.hid (goodI_bad (nc := k) (nm := nm) (f := f) (ms m))
          have HGM : Hid ((mthV k nm f ms m = none → m < goodM k nm f ms) ∧ (mthV k nm f ms m ≠ none → m = goodM k nm f ms)) := Lib.hid ⟨fun h => by
            rcases Nat.lt_or_ge m (goodM k nm f ms) with h9 | h9
            · exact h9
            · obtain rfl : m = goodM k nm f ms := by omega
              exact absurd h (goodM_bad hml), fun h => by
            rcases Nat.lt_or_ge m (goodM k nm f ms) with h9 | h9
            · exact absurd (goodM_ok h9) h
            · omega⟩
          generalize icA k nm f (ms m) = ic at *
          generalize (ms m).ps = ps at *
          generalize (ms m).ls = ls at *
          generalize (ms m).rt = rt at *
          generalize (ms m).co = co at *
          generalize (ms m).len = len at *
          generalize (ms m).cp = cp at *
          generalize (ms m).gv = gv at *
          generalize mthV k nm f ms m = mv at *
          have HMV := Lib.hid hmv
          have HVM2 := Lib.hid HVM
          -- the head's verdict
          have HHD : Hid (∀ c : Nat, headA (decide (m = 0)) ps ls rt len = c + 1 → RefPost (verdict k nm f ms) w = RefPost (some (c, (m : Int), -1)) w) := Lib.hid fun c hc => by
            have e1 : mv = some (c, (m : Int), -1) := by rw [HMV.out, methW, if_pos (by omega), hc]; rfl
            rw [HVM2.out (HGM.out.2 (by rw [e1]; simp)) hml, e1]
          have hbM : Below (rmW ca k cc (some ⟨mb, mo, none⟩) nm mc w).heap.size (rmW ca k cc (some ⟨mb, mo, none⟩) nm mc w) (wr.alloc (.cells #[.string ps, .string ls, .string rt, .slice co len cp] 62)) := hb.alloc hb.size _
          have HBM := Lib.hid hbM
          clear hmv HVM hb hbw hbM
          have MB : Hid (∀ w', Below (wr.alloc (.cells #[.string ps, .string ls, .string rt, .slice co len cp] 62)).heap.size (wr.alloc (.cells #[.string ps, .string ls, .string rt, .slice co len cp] 62)) w' → MBox ps ls rt co len cp wr.heap.size w') := Lib.hid fun w' hb => mbox_of ps ls rt co len cp wr w' hb
          obtain ⟨GI, hGI⟩ : ∃ GI, firstBad (fun i => decide (ic i ≠ 0)) len = GI := ⟨_, rfl⟩
          rw [hGI] at HIL HIO HIB HMV
          clear hGI
          by_cases hS : 12 < ps.size + ls.size ∨ len = 0 ∨ 120 < len
          · have VD := Lib.hid (HHD.out 0 (by rw [headA, if_pos hS]))
            by_cases a1 : 12 < ps.size
            · have u1 : decide (12 < ps.size) = true := by simpa using a1
              have u1' : decide (12 < (ps.size : Int)) = true := by simp; omega
              clear hS a1
              go_wp2_with fail
              refine (there_at 101 m (-1) _).mono ?_
              rintro e w2 ⟨g, rfl, hg, c0, c1, hb2⟩
              have hbx := HBM.out.trans (hb2.mono HBM.out.size)
              obtain ⟨f0, f1, g0, g1, hsz⟩ := boxed _ 53 hbx
              have HFIN := Lib.hid (rm_fin hbx 101 m (-1) g (Nat.le_trans HBM.out.size hg) c0 c1)
              rw [World.size_alloc] at f0 f1 g0 g1 HFIN
              clear hb2 hbx c0 c1 hg hsz
              go_wp2_with fail
              exact bodyPost_ret (v := .agg #[.int .i64 101, .slice (some ⟨g, 0, none⟩) 2 2]) (by simp [results, Tryd.results37, go_sem, f0, f1]) rfl (by rw [VD.out]; exact ref_some rfl HFIN.out)
            · have u1 : decide (12 < ps.size) = false := by simpa using a1
              have u1' : decide (12 < (ps.size : Int)) = false := by simp; omega
              by_cases a2 : 12 < ps.size + ls.size
              · have u2 : decide (12 - (ps.size : Int) < (ls.size : Int)) = true := by simp; omega
                clear hS a1 a2
                go_wp2_with fail
                refine (there_at 101 m (-1) _).mono ?_
                rintro e w2 ⟨g, rfl, hg, c0, c1, hb2⟩
                have hbx := HBM.out.trans (hb2.mono HBM.out.size)
                obtain ⟨f0, f1, g0, g1, hsz⟩ := boxed _ 53 hbx
                have HFIN := Lib.hid (rm_fin hbx 101 m (-1) g (Nat.le_trans HBM.out.size hg) c0 c1)
                rw [World.size_alloc] at f0 f1 g0 g1 HFIN
                clear hb2 hbx c0 c1 hg hsz
                go_wp2_with fail
                exact bodyPost_ret (v := .agg #[.int .i64 101, .slice (some ⟨g, 0, none⟩) 2 2]) (by simp [results, Tryd.results37, go_sem, f0, f1]) rfl (by rw [VD.out]; exact ref_some rfl HFIN.out)
              · have u2 : decide (12 - (ps.size : Int) < (ls.size : Int)) = false := by simp; omega
                by_cases a3 : len = 0
                · have u3 : decide ((len : Int) < 1) = true := by simp; omega
                  clear hS a1 a2 a3
                  go_wp2_with fail
                  refine (there_at 101 m (-1) _).mono ?_
                  rintro e w2 ⟨g, rfl, hg, c0, c1, hb2⟩
                  have hbx := HBM.out.trans (hb2.mono HBM.out.size)
                  obtain ⟨f0, f1, g0, g1, hsz⟩ := boxed _ 53 hbx
                  have HFIN := Lib.hid (rm_fin hbx 101 m (-1) g (Nat.le_trans HBM.out.size hg) c0 c1)
                  rw [World.size_alloc] at f0 f1 g0 g1 HFIN
                  clear hb2 hbx c0 c1 hg hsz
                  go_wp2_with fail
                  exact bodyPost_ret (v := .agg #[.int .i64 101, .slice (some ⟨g, 0, none⟩) 2 2]) (by simp [results, Tryd.results37, go_sem, f0, f1]) rfl (by rw [VD.out]; exact ref_some rfl HFIN.out)
                · have u3 : decide ((len : Int) < 1) = false := by simp; omega
                  have u4 : decide (120 < (len : Int)) = true := by simp; omega
                  have u4' : decide (120 < len) = true := by simp; omega
                  clear hS a1 a2 a3
                  go_wp2_with fail
                  refine (there_at 101 m (-1) _).mono ?_
                  rintro e w2 ⟨g, rfl, hg, c0, c1, hb2⟩
                  have hbx := HBM.out.trans (hb2.mono HBM.out.size)
                  obtain ⟨f0, f1, g0, g1, hsz⟩ := boxed _ 53 hbx
                  have HFIN := Lib.hid (rm_fin hbx 101 m (-1) g (Nat.le_trans HBM.out.size hg) c0 c1)
                  rw [World.size_alloc] at f0 f1 g0 g1 HFIN
                  clear hb2 hbx c0 c1 hg hsz
                  go_wp2_with fail
                  exact bodyPost_ret (v := .agg #[.int .i64 101, .slice (some ⟨g, 0, none⟩) 2 2]) (by simp [results, Tryd.results37, go_sem, f0, f1]) rfl (by rw [VD.out]; exact ref_some rfl HFIN.out)
          · have u1 : decide (12 < ps.size) = false := by simp; omega
            have u1' : decide (12 < (ps.size : Int)) = false := by simp; omega
            have u2 : decide (12 - (ps.size : Int) < (ls.size : Int)) = false := by simp; omega
            have u3 : decide ((len : Int) < 1) = false := by simp; omega
            have u4 : decide (120 < (len : Int)) = false := by simp; omega
            have u4' : decide (120 < len) = false := by simp; omega
            have HSS := Lib.hid hS
            clear hS
            cases hf1 : fairB ps with
            | false =>
              have VD := Lib.hid (HHD.out 1 (by rw [headA, if_neg HSS.out, if_pos (.inl hf1)]))
              have LP : Hid (∀ s w, s.size ≤ 1000 → s = ps → Calls Tryd.prog 101 #[.string s] w (fun e w' => e = .returned (.bool false) ∧ w = w')) := Lib.hid fun s w h hs => (LT.out s w (by unfold maxLen; omega)).mono (by rintro e w' ⟨rfl, rfl⟩; exact ⟨by rw [hs, hf1], rfl⟩)
              clear hf1
              go_wp2_with (go_at_call 101; refine (LP.out _ _ (by assumption) rfl).mono ?_; rintro e w' ⟨rfl, rfl⟩)
              all_goals
                refine (there_at 102 m (-1) _).mono ?_
                rintro e w2 ⟨g, rfl, hg, c0, c1, hb2⟩
                have hbx := HBM.out.trans (hb2.mono HBM.out.size)
                obtain ⟨f0, f1, g0, g1, hsz⟩ := boxed _ 53 hbx
                have HFIN := Lib.hid (rm_fin hbx 102 m (-1) g (Nat.le_trans HBM.out.size hg) c0 c1)
                rw [World.size_alloc] at f0 f1 g0 g1 HFIN
                clear hb2 hbx c0 c1 hg hsz
                go_wp2_with fail
                exact bodyPost_ret (v := .agg #[.int .i64 102, .slice (some ⟨g, 0, none⟩) 2 2]) (by simp [results, Tryd.results37, go_sem, f0, f1]) rfl (by rw [VD.out]; exact ref_some rfl HFIN.out)
            | true =>
              cases hf2 : fairB ls with
              | false =>
                have VD := Lib.hid (HHD.out 1 (by rw [headA, if_neg HSS.out, if_pos (.inr (.inl hf2))]))
                have LP1 : Hid (∀ w, Calls Tryd.prog 101 #[.string ps] w (fun e w' => e = .returned (.bool true) ∧ w = w')) := Lib.hid fun w => (LT.out ps w (by unfold maxLen; omega)).mono (by rintro e w' ⟨rfl, rfl⟩; exact ⟨by rw [hf1], rfl⟩)
                have LP2 : Hid (∀ w, Calls Tryd.prog 101 #[.string ls] w (fun e w' => e = .returned (.bool false) ∧ w = w')) := Lib.hid fun w => (LT.out ls w (by unfold maxLen; omega)).mono (by rintro e w' ⟨rfl, rfl⟩; exact ⟨by rw [hf2], rfl⟩)
                clear hf1 hf2
                go_wp2_with (first | (go_at_call 101; (with_reducible refine (LP1.out _).mono ?_); rintro e w' ⟨rfl, rfl⟩) | (go_at_call 101; (with_reducible refine (LP2.out _).mono ?_); rintro e w' ⟨rfl, rfl⟩))
                all_goals
                  refine (there_at 102 m (-1) _).mono ?_
                  rintro e w2 ⟨g, rfl, hg, c0, c1, hb2⟩
                  have hbx := HBM.out.trans (hb2.mono HBM.out.size)
                  obtain ⟨f0, f1, g0, g1, hsz⟩ := boxed _ 53 hbx
                  have HFIN := Lib.hid (rm_fin hbx 102 m (-1) g (Nat.le_trans HBM.out.size hg) c0 c1)
                  rw [World.size_alloc] at f0 f1 g0 g1 HFIN
                  clear hb2 hbx c0 c1 hg hsz
                  go_wp2_with fail
                  exact bodyPost_ret (v := .agg #[.int .i64 102, .slice (some ⟨g, 0, none⟩) 2 2]) (by simp [results, Tryd.results37, go_sem, f0, f1]) rfl (by rw [VD.out]; exact ref_some rfl HFIN.out)
              | true =>
                have LP1 : Hid (∀ w, Calls Tryd.prog 101 #[.string ps] w (fun e w' => e = .returned (.bool true) ∧ w = w')) := Lib.hid fun w => (LT.out ps w (by unfold maxLen; omega)).mono (by rintro e w' ⟨rfl, rfl⟩; exact ⟨by rw [hf1], rfl⟩)
                have LP2 : Hid (∀ w, Calls Tryd.prog 101 #[.string ls] w (fun e w' => e = .returned (.bool true) ∧ w = w')) := Lib.hid fun w => (LT.out ls w (by unfold maxLen; omega)).mono (by rintro e w' ⟨rfl, rfl⟩; exact ⟨by rw [hf2], rfl⟩)
                rcases retK_ways rt with hr | hr | hr | ⟨h3, n0, n1, n2⟩
                · have hl : rt.toList = [] := str_eq.2 hr
                  have hk3 : retK rt = 0 := by rw [hr]; decide
                  clear hr
                  by_cases hm0 : m = 0
                  · have tm : ((m : Int) == 0) = true := by simp; omega
                    by_cases hps : ps = ⟨#[]⟩
                    · have he : ps.toList = [] := str_eq.2 hps
                      have HZ : Hid (headA (decide (m = 0)) ps ls rt len = 0) := Lib.hid (by rw [headA, if_neg HSS.out, if_neg (by rw [hf1, hf2, hk3]; simp [hps])])
                      clear hf1 hf2 hk3 hm0 hps
                      have HMW : Hid (mv = if GI < len then some (ic GI - 1, (m : Int), (GI : Int)) else none) := Lib.hid (by rw [HMV.out, methW, HZ.out, if_neg (by simp)])
                      go_wp2_with (first | (go_at_call 101; (with_reducible refine (LP1.out _).mono ?_); rintro e w' ⟨rfl, rfl⟩) | (go_at_call 101; (with_reducible refine (LP2.out _).mono ?_); rintro e w' ⟨rfl, rfl⟩))
                      generalize (wr.alloc (.cells #[.string ps, .string ls, .string rt, .slice co len cp] 62)) = wM at *
                      have R3 : Hid (RRel3 ca k cc (some ⟨mb, mo, none⟩) nm mc w wM GI (.int .i64 ((0 : Nat) : Int)) wM) := Lib.hid ⟨0, Nat.zero_le _, rfl, HBM.out, Below.refl _ _⟩
                      clear p0 p1 x0 x1 x2 x3
                      go_loopw [8] (fun si wi => RRel3 ca k cc (some ⟨mb, mo, none⟩) nm mc w wM GI si wi) (fun si _ => len - (intOf si).toNat)
                      case atStart => exact R3.out
                      case round =>
                        clear R3
                        obtain ⟨i, hi, rfl, hb, hbm⟩ := hrel
                        obtain ⟨p0, p1⟩ := PB.out _ hb
                        obtain ⟨m0, m1, m2, m3⟩ := MB.out _ hbm
                        have HB := Lib.hid hb
                        have HBm := Lib.hid hbm
                        by_cases hil : i < len
                        · have ti : decide (i < len) = true := by simpa using hil
                          obtain ⟨lb, lo, rfl, hlb, hcl⟩ := Picks_at HCD.out (by omega)
                          have hcell : ∀ j, j < 4 → _ = _ := fun j hj => ((BW.out _ hb).cell (p := ⟨lb, lo + (i * 4 + j), none⟩) hlb).trans (hcl i j hil hj)
                          have k0 := hcell 0 (by omega)
                          have k1 := hcell 1 (by omega)
                          have k2 := hcell 2 (by omega)
                          have k3 := hcell 3 (by omega)
                          have KI : Hid (∀ w', Below w.heap.size w w' → Calls Tryd.prog 102 #[.agg #[.slice ca k cc, .slice (some ⟨mb, mo, none⟩) nm mc], .agg #[.string ps, .string ls, .string rt, .slice (some ⟨lb, lo, none⟩) len cp], .agg #[.int .i64 (gv i 0), .int .i64 (gv i 1), .int .i64 (gv i 2), .int .i64 (gv i 3)]] w' (RInt (icode (ic i)) w')) := Lib.hid fun w' hb' => by
                            rw [HX.out i]
                            exact rinstr_any ca k cc (some ⟨mb, mo, none⟩) nm mc f ps ls rt (some ⟨lb, lo, none⟩) len cp (gv i 0) (gv i 1) (gv i 2) (gv i 3) w' (by omega) (by omega) (by omega) (HP.out.cls.below hb')
                          clear hcell hcl hb hbm
                          generalize gv i 0 = T at *
                          generalize gv i 1 = K at *
                          generalize gv i 2 = A at *
                          generalize gv i 3 = B at *
                          rw [Nat.add_zero] at k0
                          rw [← Nat.add_assoc] at k1 k2 k3
                          rename_i wi
                          go_wp2_with fail
                          go_still_tail 7, (by kernel_rfl)
                          change wpList _ _ _ _ _ (World.drew _)
                          have HA2 := Lib.hid (below_drew HB.out)
                          have HM2 := Lib.hid (below_drew HBm.out)
                          clear p0 p1 m0 m1 m2 m3 k0 k1 k2 k3 HB HBm
                          generalize (World.drew _) = w2 at *
                          go_wp2_with fail
                          refine (KI.out _ (BW.out _ HA2.out)).mono ?_
                          rintro e w3 ⟨rfl, hb3⟩
                          have HA3 := Lib.hid (HA2.out.trans (hb3.mono HA2.out.size))
                          have HM3 := Lib.hid (HM2.out.trans (hb3.mono HM2.out.size))
                          clear hb3 HA2 HM2
                          by_cases hgi : i < GI
                          · have hz := HIO.out i hgi
                            have h0 : icode 0 = 0 := rfl
                            rw [hz, h0]
                            clear hz h0
                            go_wp2_with fail
                            go_roundw
                            case rel => exact ⟨i + 1, by omega, by go_num, HA3.out, HM3.out⟩
                            case measure => simp [intOf]; omega
                          · obtain rfl : i = GI := by omega
                            obtain ⟨c, hc⟩ : ∃ c, ic i = c + 1 := ⟨ic i - 1, by have := HIB.out hil; omega⟩
                            have hmv2 : mv = some (c, (m : Int), (i : Int)) := by rw [HMW.out, if_pos hil, hc]; rfl
                            have VD : Hid (RefPost (verdict k nm f ms) w = RefPost (some (c, (m : Int), (i : Int))) w) := Lib.hid (by rw [HVM2.out (HGM.out.2 (by rw [hmv2]; simp)) hml, hmv2])
                            obtain ⟨C, hC⟩ : ∃ C : Int, icode (ic i) = C := ⟨_, rfl⟩
                            have hCc : C = ((101 + c : Nat) : Int) := by rw [← hC, hc, icode, if_neg (by omega)]; omega
                            have tc : (C != 0) = true := by simp; omega
                            rw [hC]
                            have HCC := Lib.hid hCc
                            clear hc hmv2 hC hCc
                            go_wp2_with fail
                            refine (there_at C m i _).mono ?_
                            rintro e w2 ⟨g, rfl, hg, c0, c1, hb2⟩
                            have hbx := HA3.trans (hb2.mono HA3.size)
                            obtain ⟨f0, f1, g0, g1, hsz⟩ := boxed _ 53 hbx
                            have HFIN := Lib.hid (rm_fin hbx C m i g (Nat.le_trans HA3.size hg) c0 c1)
                            rw [World.size_alloc] at f0 f1 g0 g1 HFIN
                            clear hb2 hbx c0 c1 hg hsz
                            go_wp2_with fail
                            exact bodyPost_ret (v := .agg #[.int .i64 C, .slice (some ⟨g, 0, none⟩) 2 2]) (by simp [results, Tryd.results37, go_sem, f0, f1]) rfl (by rw [VD.out]; exact ref_some HCC.out HFIN.out)
                        · obtain rfl : i = len := by have := HIL.out; omega
                          have hmn : mv = none := by rw [HMW.out, if_neg (by have := HIL.out; omega)]
                          have HMM := Lib.hid (HGM.out.1 hmn)
                          have ti : decide (i < i) = false := by simp
                          clear hmn hb hbm
                          go_wp2_with fail
                          go_roundw
                          case rel => exact ⟨m + 1, by have := HMM.out; omega, by go_num, HB.out⟩
                          case measure => simp [intOf]; omega
                    · have VD := Lib.hid (HHD.out 1 (by rw [headA, if_neg HSS.out, if_pos (.inr (.inr (.inr ⟨by simpa using hm0, .inl hps⟩)))]))
                      have he := str_isEmpty hps
                      have he' := str_no (l := []) hps
                      clear hf1 hf2 hk3 hm0 hps
                      go_wp2_with (first | (go_at_call 101; (with_reducible refine (LP1.out _).mono ?_); rintro e w' ⟨rfl, rfl⟩) | (go_at_call 101; (with_reducible refine (LP2.out _).mono ?_); rintro e w' ⟨rfl, rfl⟩))
                      all_goals
                        refine (there_at 102 m (-1) _).mono ?_
                        rintro e w2 ⟨g, rfl, hg, c0, c1, hb2⟩
                        have hbx := HBM.out.trans (hb2.mono HBM.out.size)
                        obtain ⟨f0, f1, g0, g1, hsz⟩ := boxed _ 53 hbx
                        have HFIN := Lib.hid (rm_fin hbx 102 m (-1) g (Nat.le_trans HBM.out.size hg) c0 c1)
                        rw [World.size_alloc] at f0 f1 g0 g1 HFIN
                        clear hb2 hbx c0 c1 hg hsz
                        go_wp2_with fail
                        exact bodyPost_ret (v := .agg #[.int .i64 102, .slice (some ⟨g, 0, none⟩) 2 2]) (by simp [results, Tryd.results37, go_sem, f0, f1]) rfl (by rw [VD.out]; exact ref_some rfl HFIN.out)
                  · have tm : ((m : Int) == 0) = false := by simp; omega
                    have HZ : Hid (headA (decide (m = 0)) ps ls rt len = 0) := Lib.hid (by rw [headA, if_neg HSS.out, if_neg (by rw [hf1, hf2, hk3]; simp [hm0])])
                    clear hf1 hf2 hk3 hm0
                    have HMW : Hid (mv = if GI < len then some (ic GI - 1, (m : Int), (GI : Int)) else none) := Lib.hid (by rw [HMV.out, methW, HZ.out, if_neg (by simp)])
                    go_wp2_with (first | (go_at_call 101; (with_reducible refine (LP1.out _).mono ?_); rintro e w' ⟨rfl, rfl⟩) | (go_at_call 101; (with_reducible refine (LP2.out _).mono ?_); rintro e w' ⟨rfl, rfl⟩))
                    generalize (wr.alloc (.cells #[.string ps, .string ls, .string rt, .slice co len cp] 62)) = wM at *
                    have R3 : Hid (RRel3 ca k cc (some ⟨mb, mo, none⟩) nm mc w wM GI (.int .i64 ((0 : Nat) : Int)) wM) := Lib.hid ⟨0, Nat.zero_le _, rfl, HBM.out, Below.refl _ _⟩
                    clear p0 p1 x0 x1 x2 x3
                    go_loopw [8] (fun si wi => RRel3 ca k cc (some ⟨mb, mo, none⟩) nm mc w wM GI si wi) (fun si _ => len - (intOf si).toNat)
                    case atStart => exact R3.out
                    case round =>
                      clear R3
                      obtain ⟨i, hi, rfl, hb, hbm⟩ := hrel
                      obtain ⟨p0, p1⟩ := PB.out _ hb
                      obtain ⟨m0, m1, m2, m3⟩ := MB.out _ hbm
                      have HB := Lib.hid hb
                      have HBm := Lib.hid hbm
                      by_cases hil : i < len
                      · have ti : decide (i < len) = true := by simpa using hil
                        obtain ⟨lb, lo, rfl, hlb, hcl⟩ := Picks_at HCD.out (by omega)
                        have hcell : ∀ j, j < 4 → _ = _ := fun j hj => ((BW.out _ hb).cell (p := ⟨lb, lo + (i * 4 + j), none⟩) hlb).trans (hcl i j hil hj)
                        have k0 := hcell 0 (by omega)
                        have k1 := hcell 1 (by omega)
                        have k2 := hcell 2 (by omega)
                        have k3 := hcell 3 (by omega)
                        have KI : Hid (∀ w', Below w.heap.size w w' → Calls Tryd.prog 102 #[.agg #[.slice ca k cc, .slice (some ⟨mb, mo, none⟩) nm mc], .agg #[.string ps, .string ls, .string rt, .slice (some ⟨lb, lo, none⟩) len cp], .agg #[.int .i64 (gv i 0), .int .i64 (gv i 1), .int .i64 (gv i 2), .int .i64 (gv i 3)]] w' (RInt (icode (ic i)) w')) := Lib.hid fun w' hb' => by
                          rw [HX.out i]
                          exact rinstr_any ca k cc (some ⟨mb, mo, none⟩) nm mc f ps ls rt (some ⟨lb, lo, none⟩) len cp (gv i 0) (gv i 1) (gv i 2) (gv i 3) w' (by omega) (by omega) (by omega) (HP.out.cls.below hb')
                        clear hcell hcl hb hbm
                        generalize gv i 0 = T at *
                        generalize gv i 1 = K at *
                        generalize gv i 2 = A at *
                        generalize gv i 3 = B at *
                        rw [Nat.add_zero] at k0
                        rw [← Nat.add_assoc] at k1 k2 k3
                        rename_i wi
                        go_wp2_with fail
                        go_still_tail 7, (by kernel_rfl)
                        change wpList _ _ _ _ _ (World.drew _)
                        have HA2 := Lib.hid (below_drew HB.out)
                        have HM2 := Lib.hid (below_drew HBm.out)
                        clear p0 p1 m0 m1 m2 m3 k0 k1 k2 k3 HB HBm
                        generalize (World.drew _) = w2 at *
                        go_wp2_with fail
                        refine (KI.out _ (BW.out _ HA2.out)).mono ?_
                        rintro e w3 ⟨rfl, hb3⟩
                        have HA3 := Lib.hid (HA2.out.trans (hb3.mono HA2.out.size))
                        have HM3 := Lib.hid (HM2.out.trans (hb3.mono HM2.out.size))
                        clear hb3 HA2 HM2
                        by_cases hgi : i < GI
                        · have hz := HIO.out i hgi
                          have h0 : icode 0 = 0 := rfl
                          rw [hz, h0]
                          clear hz h0
                          go_wp2_with fail
                          go_roundw
                          case rel => exact ⟨i + 1, by omega, by go_num, HA3.out, HM3.out⟩
                          case measure => simp [intOf]; omega
                        · obtain rfl : i = GI := by omega
                          obtain ⟨c, hc⟩ : ∃ c, ic i = c + 1 := ⟨ic i - 1, by have := HIB.out hil; omega⟩
                          have hmv2 : mv = some (c, (m : Int), (i : Int)) := by rw [HMW.out, if_pos hil, hc]; rfl
                          have VD : Hid (RefPost (verdict k nm f ms) w = RefPost (some (c, (m : Int), (i : Int))) w) := Lib.hid (by rw [HVM2.out (HGM.out.2 (by rw [hmv2]; simp)) hml, hmv2])
                          obtain ⟨C, hC⟩ : ∃ C : Int, icode (ic i) = C := ⟨_, rfl⟩
                          have hCc : C = ((101 + c : Nat) : Int) := by rw [← hC, hc, icode, if_neg (by omega)]; omega
                          have tc : (C != 0) = true := by simp; omega
                          rw [hC]
                          have HCC := Lib.hid hCc
                          clear hc hmv2 hC hCc
                          go_wp2_with fail
                          refine (there_at C m i _).mono ?_
                          rintro e w2 ⟨g, rfl, hg, c0, c1, hb2⟩
                          have hbx := HA3.trans (hb2.mono HA3.size)
                          obtain ⟨f0, f1, g0, g1, hsz⟩ := boxed _ 53 hbx
                          have HFIN := Lib.hid (rm_fin hbx C m i g (Nat.le_trans HA3.size hg) c0 c1)
                          rw [World.size_alloc] at f0 f1 g0 g1 HFIN
                          clear hb2 hbx c0 c1 hg hsz
                          go_wp2_with fail
                          exact bodyPost_ret (v := .agg #[.int .i64 C, .slice (some ⟨g, 0, none⟩) 2 2]) (by simp [results, Tryd.results37, go_sem, f0, f1]) rfl (by rw [VD.out]; exact ref_some HCC.out HFIN.out)
                      · obtain rfl : i = len := by have := HIL.out; omega
                        have hmn : mv = none := by rw [HMW.out, if_neg (by have := HIL.out; omega)]
                        have HMM := Lib.hid (HGM.out.1 hmn)
                        have ti : decide (i < i) = false := by simp
                        clear hmn hb hbm
                        go_wp2_with fail
                        go_roundw
                        case rel => exact ⟨m + 1, by have := HMM.out; omega, by go_num, HB.out⟩
                        case measure => simp [intOf]; omega
                · have hl : rt.toList = [73] := str_eq.2 hr
                  have hk3 : retK rt = 1 := by rw [hr]; decide
                  clear hr
                  by_cases hm0 : m = 0
                  · have tm : ((m : Int) == 0) = true := by simp; omega
                    by_cases hps : ps = ⟨#[]⟩
                    · have he : ps.toList = [] := str_eq.2 hps
                      have HZ : Hid (headA (decide (m = 0)) ps ls rt len = 0) := Lib.hid (by rw [headA, if_neg HSS.out, if_neg (by rw [hf1, hf2, hk3]; simp [hps])])
                      clear hf1 hf2 hk3 hm0 hps
                      have HMW : Hid (mv = if GI < len then some (ic GI - 1, (m : Int), (GI : Int)) else none) := Lib.hid (by rw [HMV.out, methW, HZ.out, if_neg (by simp)])
                      go_wp2_with (first | (go_at_call 101; (with_reducible refine (LP1.out _).mono ?_); rintro e w' ⟨rfl, rfl⟩) | (go_at_call 101; (with_reducible refine (LP2.out _).mono ?_); rintro e w' ⟨rfl, rfl⟩))
                      generalize (wr.alloc (.cells #[.string ps, .string ls, .string rt, .slice co len cp] 62)) = wM at *
                      have R3 : Hid (RRel3 ca k cc (some ⟨mb, mo, none⟩) nm mc w wM GI (.int .i64 ((0 : Nat) : Int)) wM) := Lib.hid ⟨0, Nat.zero_le _, rfl, HBM.out, Below.refl _ _⟩
                      clear p0 p1 x0 x1 x2 x3
                      go_loopw [8] (fun si wi => RRel3 ca k cc (some ⟨mb, mo, none⟩) nm mc w wM GI si wi) (fun si _ => len - (intOf si).toNat)
                      case atStart => exact R3.out
                      case round =>
                        clear R3
                        obtain ⟨i, hi, rfl, hb, hbm⟩ := hrel
                        obtain ⟨p0, p1⟩ := PB.out _ hb
                        obtain ⟨m0, m1, m2, m3⟩ := MB.out _ hbm
                        have HB := Lib.hid hb
                        have HBm := Lib.hid hbm
                        by_cases hil : i < len
                        · have ti : decide (i < len) = true := by simpa using hil
                          obtain ⟨lb, lo, rfl, hlb, hcl⟩ := Picks_at HCD.out (by omega)
                          have hcell : ∀ j, j < 4 → _ = _ := fun j hj => ((BW.out _ hb).cell (p := ⟨lb, lo + (i * 4 + j), none⟩) hlb).trans (hcl i j hil hj)
                          have k0 := hcell 0 (by omega)
                          have k1 := hcell 1 (by omega)
                          have k2 := hcell 2 (by omega)
                          have k3 := hcell 3 (by omega)
                          have KI : Hid (∀ w', Below w.heap.size w w' → Calls Tryd.prog 102 #[.agg #[.slice ca k cc, .slice (some ⟨mb, mo, none⟩) nm mc], .agg #[.string ps, .string ls, .string rt, .slice (some ⟨lb, lo, none⟩) len cp], .agg #[.int .i64 (gv i 0), .int .i64 (gv i 1), .int .i64 (gv i 2), .int .i64 (gv i 3)]] w' (RInt (icode (ic i)) w')) := Lib.hid fun w' hb' => by
                            rw [HX.out i]
                            exact rinstr_any ca k cc (some ⟨mb, mo, none⟩) nm mc f ps ls rt (some ⟨lb, lo, none⟩) len cp (gv i 0) (gv i 1) (gv i 2) (gv i 3) w' (by omega) (by omega) (by omega) (HP.out.cls.below hb')
                          clear hcell hcl hb hbm
                          generalize gv i 0 = T at *
                          generalize gv i 1 = K at *
                          generalize gv i 2 = A at *
                          generalize gv i 3 = B at *
                          rw [Nat.add_zero] at k0
                          rw [← Nat.add_assoc] at k1 k2 k3
                          rename_i wi
                          go_wp2_with fail
                          go_still_tail 7, (by kernel_rfl)
                          change wpList _ _ _ _ _ (World.drew _)
                          have HA2 := Lib.hid (below_drew HB.out)
                          have HM2 := Lib.hid (below_drew HBm.out)
                          clear p0 p1 m0 m1 m2 m3 k0 k1 k2 k3 HB HBm
                          generalize (World.drew _) = w2 at *
                          go_wp2_with fail
                          refine (KI.out _ (BW.out _ HA2.out)).mono ?_
                          rintro e w3 ⟨rfl, hb3⟩
                          have HA3 := Lib.hid (HA2.out.trans (hb3.mono HA2.out.size))
                          have HM3 := Lib.hid (HM2.out.trans (hb3.mono HM2.out.size))
                          clear hb3 HA2 HM2
                          by_cases hgi : i < GI
                          · have hz := HIO.out i hgi
                            have h0 : icode 0 = 0 := rfl
                            rw [hz, h0]
                            clear hz h0
                            go_wp2_with fail
                            go_roundw
                            case rel => exact ⟨i + 1, by omega, by go_num, HA3.out, HM3.out⟩
                            case measure => simp [intOf]; omega
                          · obtain rfl : i = GI := by omega
                            obtain ⟨c, hc⟩ : ∃ c, ic i = c + 1 := ⟨ic i - 1, by have := HIB.out hil; omega⟩
                            have hmv2 : mv = some (c, (m : Int), (i : Int)) := by rw [HMW.out, if_pos hil, hc]; rfl
                            have VD : Hid (RefPost (verdict k nm f ms) w = RefPost (some (c, (m : Int), (i : Int))) w) := Lib.hid (by rw [HVM2.out (HGM.out.2 (by rw [hmv2]; simp)) hml, hmv2])
                            obtain ⟨C, hC⟩ : ∃ C : Int, icode (ic i) = C := ⟨_, rfl⟩
                            have hCc : C = ((101 + c : Nat) : Int) := by rw [← hC, hc, icode, if_neg (by omega)]; omega
                            have tc : (C != 0) = true := by simp; omega
                            rw [hC]
                            have HCC := Lib.hid hCc
                            clear hc hmv2 hC hCc
                            go_wp2_with fail
                            refine (there_at C m i _).mono ?_
                            rintro e w2 ⟨g, rfl, hg, c0, c1, hb2⟩
                            have hbx := HA3.trans (hb2.mono HA3.size)
                            obtain ⟨f0, f1, g0, g1, hsz⟩ := boxed _ 53 hbx
                            have HFIN := Lib.hid (rm_fin hbx C m i g (Nat.le_trans HA3.size hg) c0 c1)
                            rw [World.size_alloc] at f0 f1 g0 g1 HFIN
                            clear hb2 hbx c0 c1 hg hsz
                            go_wp2_with fail
                            exact bodyPost_ret (v := .agg #[.int .i64 C, .slice (some ⟨g, 0, none⟩) 2 2]) (by simp [results, Tryd.results37, go_sem, f0, f1]) rfl (by rw [VD.out]; exact ref_some HCC.out HFIN.out)
                        · obtain rfl : i = len := by have := HIL.out; omega
                          have hmn : mv = none := by rw [HMW.out, if_neg (by have := HIL.out; omega)]
                          have HMM := Lib.hid (HGM.out.1 hmn)
                          have ti : decide (i < i) = false := by simp
                          clear hmn hb hbm
                          go_wp2_with fail
                          go_roundw
                          case rel => exact ⟨m + 1, by have := HMM.out; omega, by go_num, HB.out⟩
                          case measure => simp [intOf]; omega
                    · have VD := Lib.hid (HHD.out 1 (by rw [headA, if_neg HSS.out, if_pos (.inr (.inr (.inr ⟨by simpa using hm0, .inl hps⟩)))]))
                      have he := str_isEmpty hps
                      have he' := str_no (l := []) hps
                      clear hf1 hf2 hk3 hm0 hps
                      go_wp2_with (first | (go_at_call 101; (with_reducible refine (LP1.out _).mono ?_); rintro e w' ⟨rfl, rfl⟩) | (go_at_call 101; (with_reducible refine (LP2.out _).mono ?_); rintro e w' ⟨rfl, rfl⟩))
                      all_goals
                        refine (there_at 102 m (-1) _).mono ?_
                        rintro e w2 ⟨g, rfl, hg, c0, c1, hb2⟩
                        have hbx := HBM.out.trans (hb2.mono HBM.out.size)
                        obtain ⟨f0, f1, g0, g1, hsz⟩ := boxed _ 53 hbx
                        have HFIN := Lib.hid (rm_fin hbx 102 m (-1) g (Nat.le_trans HBM.out.size hg) c0 c1)
                        rw [World.size_alloc] at f0 f1 g0 g1 HFIN
                        clear hb2 hbx c0 c1 hg hsz
                        go_wp2_with fail
                        exact bodyPost_ret (v := .agg #[.int .i64 102, .slice (some ⟨g, 0, none⟩) 2 2]) (by simp [results, Tryd.results37, go_sem, f0, f1]) rfl (by rw [VD.out]; exact ref_some rfl HFIN.out)
                  · have tm : ((m : Int) == 0) = false := by simp; omega
                    have HZ : Hid (headA (decide (m = 0)) ps ls rt len = 0) := Lib.hid (by rw [headA, if_neg HSS.out, if_neg (by rw [hf1, hf2, hk3]; simp [hm0])])
                    clear hf1 hf2 hk3 hm0
                    have HMW : Hid (mv = if GI < len then some (ic GI - 1, (m : Int), (GI : Int)) else none) := Lib.hid (by rw [HMV.out, methW, HZ.out, if_neg (by simp)])
                    go_wp2_with (first | (go_at_call 101; (with_reducible refine (LP1.out _).mono ?_); rintro e w' ⟨rfl, rfl⟩) | (go_at_call 101; (with_reducible refine (LP2.out _).mono ?_); rintro e w' ⟨rfl, rfl⟩))
                    generalize (wr.alloc (.cells #[.string ps, .string ls, .string rt, .slice co len cp] 62)) = wM at *
                    have R3 : Hid (RRel3 ca k cc (some ⟨mb, mo, none⟩) nm mc w wM GI (.int .i64 ((0 : Nat) : Int)) wM) := Lib.hid ⟨0, Nat.zero_le _, rfl, HBM.out, Below.refl _ _⟩
                    clear p0 p1 x0 x1 x2 x3
                    go_loopw [8] (fun si wi => RRel3 ca k cc (some ⟨mb, mo, none⟩) nm mc w wM GI si wi) (fun si _ => len - (intOf si).toNat)
                    case atStart => exact R3.out
                    case round =>
                      clear R3
                      obtain ⟨i, hi, rfl, hb, hbm⟩ := hrel
                      obtain ⟨p0, p1⟩ := PB.out _ hb
                      obtain ⟨m0, m1, m2, m3⟩ := MB.out _ hbm
                      have HB := Lib.hid hb
                      have HBm := Lib.hid hbm
                      by_cases hil : i < len
                      · have ti : decide (i < len) = true := by simpa using hil
                        obtain ⟨lb, lo, rfl, hlb, hcl⟩ := Picks_at HCD.out (by omega)
                        have hcell : ∀ j, j < 4 → _ = _ := fun j hj => ((BW.out _ hb).cell (p := ⟨lb, lo + (i * 4 + j), none⟩) hlb).trans (hcl i j hil hj)
                        have k0 := hcell 0 (by omega)
                        have k1 := hcell 1 (by omega)
                        have k2 := hcell 2 (by omega)
                        have k3 := hcell 3 (by omega)
                        have KI : Hid (∀ w', Below w.heap.size w w' → Calls Tryd.prog 102 #[.agg #[.slice ca k cc, .slice (some ⟨mb, mo, none⟩) nm mc], .agg #[.string ps, .string ls, .string rt, .slice (some ⟨lb, lo, none⟩) len cp], .agg #[.int .i64 (gv i 0), .int .i64 (gv i 1), .int .i64 (gv i 2), .int .i64 (gv i 3)]] w' (RInt (icode (ic i)) w')) := Lib.hid fun w' hb' => by
                          rw [HX.out i]
                          exact rinstr_any ca k cc (some ⟨mb, mo, none⟩) nm mc f ps ls rt (some ⟨lb, lo, none⟩) len cp (gv i 0) (gv i 1) (gv i 2) (gv i 3) w' (by omega) (by omega) (by omega) (HP.out.cls.below hb')
                        clear hcell hcl hb hbm
                        generalize gv i 0 = T at *
                        generalize gv i 1 = K at *
                        generalize gv i 2 = A at *
                        generalize gv i 3 = B at *
                        rw [Nat.add_zero] at k0
                        rw [← Nat.add_assoc] at k1 k2 k3
                        rename_i wi
                        go_wp2_with fail
                        go_still_tail 7, (by kernel_rfl)
                        change wpList _ _ _ _ _ (World.drew _)
                        have HA2 := Lib.hid (below_drew HB.out)
                        have HM2 := Lib.hid (below_drew HBm.out)
                        clear p0 p1 m0 m1 m2 m3 k0 k1 k2 k3 HB HBm
                        generalize (World.drew _) = w2 at *
                        go_wp2_with fail
                        refine (KI.out _ (BW.out _ HA2.out)).mono ?_
                        rintro e w3 ⟨rfl, hb3⟩
                        have HA3 := Lib.hid (HA2.out.trans (hb3.mono HA2.out.size))
                        have HM3 := Lib.hid (HM2.out.trans (hb3.mono HM2.out.size))
                        clear hb3 HA2 HM2
                        by_cases hgi : i < GI
                        · have hz := HIO.out i hgi
                          have h0 : icode 0 = 0 := rfl
                          rw [hz, h0]
                          clear hz h0
                          go_wp2_with fail
                          go_roundw
                          case rel => exact ⟨i + 1, by omega, by go_num, HA3.out, HM3.out⟩
                          case measure => simp [intOf]; omega
                        · obtain rfl : i = GI := by omega
                          obtain ⟨c, hc⟩ : ∃ c, ic i = c + 1 := ⟨ic i - 1, by have := HIB.out hil; omega⟩
                          have hmv2 : mv = some (c, (m : Int), (i : Int)) := by rw [HMW.out, if_pos hil, hc]; rfl
                          have VD : Hid (RefPost (verdict k nm f ms) w = RefPost (some (c, (m : Int), (i : Int))) w) := Lib.hid (by rw [HVM2.out (HGM.out.2 (by rw [hmv2]; simp)) hml, hmv2])
                          obtain ⟨C, hC⟩ : ∃ C : Int, icode (ic i) = C := ⟨_, rfl⟩
                          have hCc : C = ((101 + c : Nat) : Int) := by rw [← hC, hc, icode, if_neg (by omega)]; omega
                          have tc : (C != 0) = true := by simp; omega
                          rw [hC]
                          have HCC := Lib.hid hCc
                          clear hc hmv2 hC hCc
                          go_wp2_with fail
                          refine (there_at C m i _).mono ?_
                          rintro e w2 ⟨g, rfl, hg, c0, c1, hb2⟩
                          have hbx := HA3.trans (hb2.mono HA3.size)
                          obtain ⟨f0, f1, g0, g1, hsz⟩ := boxed _ 53 hbx
                          have HFIN := Lib.hid (rm_fin hbx C m i g (Nat.le_trans HA3.size hg) c0 c1)
                          rw [World.size_alloc] at f0 f1 g0 g1 HFIN
                          clear hb2 hbx c0 c1 hg hsz
                          go_wp2_with fail
                          exact bodyPost_ret (v := .agg #[.int .i64 C, .slice (some ⟨g, 0, none⟩) 2 2]) (by simp [results, Tryd.results37, go_sem, f0, f1]) rfl (by rw [VD.out]; exact ref_some HCC.out HFIN.out)
                      · obtain rfl : i = len := by have := HIL.out; omega
                        have hmn : mv = none := by rw [HMW.out, if_neg (by have := HIL.out; omega)]
                        have HMM := Lib.hid (HGM.out.1 hmn)
                        have ti : decide (i < i) = false := by simp
                        clear hmn hb hbm
                        go_wp2_with fail
                        go_roundw
                        case rel => exact ⟨m + 1, by have := HMM.out; omega, by go_num, HB.out⟩
                        case measure => simp [intOf]; omega
                · have hl : rt.toList = [82] := str_eq.2 hr
                  have hk3 : retK rt = 2 := by rw [hr]; decide
                  clear hr
                  by_cases hm0 : m = 0
                  · have tm : ((m : Int) == 0) = true := by simp; omega
                    by_cases hps : ps = ⟨#[]⟩
                    · have he : ps.toList = [] := str_eq.2 hps
                      have VD := Lib.hid (HHD.out 1 (by rw [headA, if_neg HSS.out, if_pos (.inr (.inr (.inr ⟨by simpa using hm0, .inr hk3⟩)))]))
                      clear hf1 hf2 hk3 hm0 hps
                      go_wp2_with (first | (go_at_call 101; (with_reducible refine (LP1.out _).mono ?_); rintro e w' ⟨rfl, rfl⟩) | (go_at_call 101; (with_reducible refine (LP2.out _).mono ?_); rintro e w' ⟨rfl, rfl⟩))
                      all_goals
                        refine (there_at 102 m (-1) _).mono ?_
                        rintro e w2 ⟨g, rfl, hg, c0, c1, hb2⟩
                        have hbx := HBM.out.trans (hb2.mono HBM.out.size)
                        obtain ⟨f0, f1, g0, g1, hsz⟩ := boxed _ 53 hbx
                        have HFIN := Lib.hid (rm_fin hbx 102 m (-1) g (Nat.le_trans HBM.out.size hg) c0 c1)
                        rw [World.size_alloc] at f0 f1 g0 g1 HFIN
                        clear hb2 hbx c0 c1 hg hsz
                        go_wp2_with fail
                        exact bodyPost_ret (v := .agg #[.int .i64 102, .slice (some ⟨g, 0, none⟩) 2 2]) (by simp [results, Tryd.results37, go_sem, f0, f1]) rfl (by rw [VD.out]; exact ref_some rfl HFIN.out)
                    · have VD := Lib.hid (HHD.out 1 (by rw [headA, if_neg HSS.out, if_pos (.inr (.inr (.inr ⟨by simpa using hm0, .inl hps⟩)))]))
                      have he := str_isEmpty hps
                      have he' := str_no (l := []) hps
                      clear hf1 hf2 hk3 hm0 hps
                      go_wp2_with (first | (go_at_call 101; (with_reducible refine (LP1.out _).mono ?_); rintro e w' ⟨rfl, rfl⟩) | (go_at_call 101; (with_reducible refine (LP2.out _).mono ?_); rintro e w' ⟨rfl, rfl⟩))
                      all_goals
                        refine (there_at 102 m (-1) _).mono ?_
                        rintro e w2 ⟨g, rfl, hg, c0, c1, hb2⟩
                        have hbx := HBM.out.trans (hb2.mono HBM.out.size)
                        obtain ⟨f0, f1, g0, g1, hsz⟩ := boxed _ 53 hbx
                        have HFIN := Lib.hid (rm_fin hbx 102 m (-1) g (Nat.le_trans HBM.out.size hg) c0 c1)
                        rw [World.size_alloc] at f0 f1 g0 g1 HFIN
                        clear hb2 hbx c0 c1 hg hsz
                        go_wp2_with fail
                        exact bodyPost_ret (v := .agg #[.int .i64 102, .slice (some ⟨g, 0, none⟩) 2 2]) (by simp [results, Tryd.results37, go_sem, f0, f1]) rfl (by rw [VD.out]; exact ref_some rfl HFIN.out)
                  · have tm : ((m : Int) == 0) = false := by simp; omega
                    have HZ : Hid (headA (decide (m = 0)) ps ls rt len = 0) := Lib.hid (by rw [headA, if_neg HSS.out, if_neg (by rw [hf1, hf2, hk3]; simp [hm0])])
                    clear hf1 hf2 hk3 hm0
                    have HMW : Hid (mv = if GI < len then some (ic GI - 1, (m : Int), (GI : Int)) else none) := Lib.hid (by rw [HMV.out, methW, HZ.out, if_neg (by simp)])
                    go_wp2_with (first | (go_at_call 101; (with_reducible refine (LP1.out _).mono ?_); rintro e w' ⟨rfl, rfl⟩) | (go_at_call 101; (with_reducible refine (LP2.out _).mono ?_); rintro e w' ⟨rfl, rfl⟩))
                    generalize (wr.alloc (.cells #[.string ps, .string ls, .string rt, .slice co len cp] 62)) = wM at *
                    have R3 : Hid (RRel3 ca k cc (some ⟨mb, mo, none⟩) nm mc w wM GI (.int .i64 ((0 : Nat) : Int)) wM) := Lib.hid ⟨0, Nat.zero_le _, rfl, HBM.out, Below.refl _ _⟩
                    clear p0 p1 x0 x1 x2 x3
                    go_loopw [8] (fun si wi => RRel3 ca k cc (some ⟨mb, mo, none⟩) nm mc w wM GI si wi) (fun si _ => len - (intOf si).toNat)
                    case atStart => exact R3.out
                    case round =>
                      clear R3
                      obtain ⟨i, hi, rfl, hb, hbm⟩ := hrel
                      obtain ⟨p0, p1⟩ := PB.out _ hb
                      obtain ⟨m0, m1, m2, m3⟩ := MB.out _ hbm
                      have HB := Lib.hid hb
                      have HBm := Lib.hid hbm
                      by_cases hil : i < len
                      · have ti : decide (i < len) = true := by simpa using hil
                        obtain ⟨lb, lo, rfl, hlb, hcl⟩ := Picks_at HCD.out (by omega)
                        have hcell : ∀ j, j < 4 → _ = _ := fun j hj => ((BW.out _ hb).cell (p := ⟨lb, lo + (i * 4 + j), none⟩) hlb).trans (hcl i j hil hj)
                        have k0 := hcell 0 (by omega)
                        have k1 := hcell 1 (by omega)
                        have k2 := hcell 2 (by omega)
                        have k3 := hcell 3 (by omega)
                        have KI : Hid (∀ w', Below w.heap.size w w' → Calls Tryd.prog 102 #[.agg #[.slice ca k cc, .slice (some ⟨mb, mo, none⟩) nm mc], .agg #[.string ps, .string ls, .string rt, .slice (some ⟨lb, lo, none⟩) len cp], .agg #[.int .i64 (gv i 0), .int .i64 (gv i 1), .int .i64 (gv i 2), .int .i64 (gv i 3)]] w' (RInt (icode (ic i)) w')) := Lib.hid fun w' hb' => by
                          rw [HX.out i]
                          exact rinstr_any ca k cc (some ⟨mb, mo, none⟩) nm mc f ps ls rt (some ⟨lb, lo, none⟩) len cp (gv i 0) (gv i 1) (gv i 2) (gv i 3) w' (by omega) (by omega) (by omega) (HP.out.cls.below hb')
                        clear hcell hcl hb hbm
                        generalize gv i 0 = T at *
                        generalize gv i 1 = K at *
                        generalize gv i 2 = A at *
                        generalize gv i 3 = B at *
                        rw [Nat.add_zero] at k0
                        rw [← Nat.add_assoc] at k1 k2 k3
                        rename_i wi
                        go_wp2_with fail
                        go_still_tail 7, (by kernel_rfl)
                        change wpList _ _ _ _ _ (World.drew _)
                        have HA2 := Lib.hid (below_drew HB.out)
                        have HM2 := Lib.hid (below_drew HBm.out)
                        clear p0 p1 m0 m1 m2 m3 k0 k1 k2 k3 HB HBm
                        generalize (World.drew _) = w2 at *
                        go_wp2_with fail
                        refine (KI.out _ (BW.out _ HA2.out)).mono ?_
                        rintro e w3 ⟨rfl, hb3⟩
                        have HA3 := Lib.hid (HA2.out.trans (hb3.mono HA2.out.size))
                        have HM3 := Lib.hid (HM2.out.trans (hb3.mono HM2.out.size))
                        clear hb3 HA2 HM2
                        by_cases hgi : i < GI
                        · have hz := HIO.out i hgi
                          have h0 : icode 0 = 0 := rfl
                          rw [hz, h0]
                          clear hz h0
                          go_wp2_with fail
                          go_roundw
                          case rel => exact ⟨i + 1, by omega, by go_num, HA3.out, HM3.out⟩
                          case measure => simp [intOf]; omega
                        · obtain rfl : i = GI := by omega
                          obtain ⟨c, hc⟩ : ∃ c, ic i = c + 1 := ⟨ic i - 1, by have := HIB.out hil; omega⟩
                          have hmv2 : mv = some (c, (m : Int), (i : Int)) := by rw [HMW.out, if_pos hil, hc]; rfl
                          have VD : Hid (RefPost (verdict k nm f ms) w = RefPost (some (c, (m : Int), (i : Int))) w) := Lib.hid (by rw [HVM2.out (HGM.out.2 (by rw [hmv2]; simp)) hml, hmv2])
                          obtain ⟨C, hC⟩ : ∃ C : Int, icode (ic i) = C := ⟨_, rfl⟩
                          have hCc : C = ((101 + c : Nat) : Int) := by rw [← hC, hc, icode, if_neg (by omega)]; omega
                          have tc : (C != 0) = true := by simp; omega
                          rw [hC]
                          have HCC := Lib.hid hCc
                          clear hc hmv2 hC hCc
                          go_wp2_with fail
                          refine (there_at C m i _).mono ?_
                          rintro e w2 ⟨g, rfl, hg, c0, c1, hb2⟩
                          have hbx := HA3.trans (hb2.mono HA3.size)
                          obtain ⟨f0, f1, g0, g1, hsz⟩ := boxed _ 53 hbx
                          have HFIN := Lib.hid (rm_fin hbx C m i g (Nat.le_trans HA3.size hg) c0 c1)
                          rw [World.size_alloc] at f0 f1 g0 g1 HFIN
                          clear hb2 hbx c0 c1 hg hsz
                          go_wp2_with fail
                          exact bodyPost_ret (v := .agg #[.int .i64 C, .slice (some ⟨g, 0, none⟩) 2 2]) (by simp [results, Tryd.results37, go_sem, f0, f1]) rfl (by rw [VD.out]; exact ref_some HCC.out HFIN.out)
                      · obtain rfl : i = len := by have := HIL.out; omega
                        have hmn : mv = none := by rw [HMW.out, if_neg (by have := HIL.out; omega)]
                        have HMM := Lib.hid (HGM.out.1 hmn)
                        have ti : decide (i < i) = false := by simp
                        clear hmn hb hbm
                        go_wp2_with fail
                        go_roundw
                        case rel => exact ⟨m + 1, by have := HMM.out; omega, by go_num, HB.out⟩
                        case measure => simp [intOf]; omega
                · have VD := Lib.hid (HHD.out 1 (by rw [headA, if_neg HSS.out, if_pos (.inr (.inr (.inl h3)))]))
                  have r0 := str_isEmpty n0
                  have r0' := str_no (l := []) n0
                  have r1' := str_no (l := [73]) n1
                  have r2' := str_no (l := [82]) n2
                  have r1 : (rt.toList == [73]) = false := by simpa using r1'
                  have r2 : (rt.toList == [82]) = false := by simpa using r2'
                  clear hf1 hf2 h3 n0 n1 n2
                  go_wp2_with (first | (go_at_call 101; (with_reducible refine (LP1.out _).mono ?_); rintro e w' ⟨rfl, rfl⟩) | (go_at_call 101; (with_reducible refine (LP2.out _).mono ?_); rintro e w' ⟨rfl, rfl⟩))
                  all_goals
                    refine (there_at 102 m (-1) _).mono ?_
                    rintro e w2 ⟨g, rfl, hg, c0, c1, hb2⟩
                    have hbx := HBM.out.trans (hb2.mono HBM.out.size)
                    obtain ⟨f0, f1, g0, g1, hsz⟩ := boxed _ 53 hbx
                    have HFIN := Lib.hid (rm_fin hbx 102 m (-1) g (Nat.le_trans HBM.out.size hg) c0 c1)
                    rw [World.size_alloc] at f0 f1 g0 g1 HFIN
                    clear hb2 hbx c0 c1 hg hsz
                    go_wp2_with fail
                    exact bodyPost_ret (v := .agg #[.int .i64 102, .slice (some ⟨g, 0, none⟩) 2 2]) (by simp [results, Tryd.results37, go_sem, f0, f1]) rfl (by rw [VD.out]; exact ref_some rfl HFIN.out)
        · have tm : decide (m < nm) = false := by simpa using hml
          have VD : Hid (verdict k nm f ms = none) := Lib.hid (HVE.out (by have := goodM_le (nc := k) (nm := nm) (f := f) (ms := ms); omega))
          have HB := Lib.hid hb
          clear hb
          go_wp2_with fail
          refine (rnone_any _).mono ?_
          rintro e w2 ⟨rfl, hb2⟩
          have hbx := HB.out.trans (hb2.mono HB.out.size)
          obtain ⟨f0, f1, g0, g1, hsz2⟩ := boxed _ 53 hbx
          rw [World.size_alloc] at f0 f1 g0 g1
          have HX := Lib.hid (BW.out w2 hbx)
          clear hb2 hbx hsz2
          go_wp2_with fail
          exact bodyPost_ret (v := .agg #[.int .i64 0, .slice none 0 0]) (by simp [results, Tryd.results37, go_sem, f0, f1]) rfl (by rw [VD.out]; exact ⟨(HX.out.setCell (by show w.heap.size ≤ w.heap.size + 1; omega) _).setCell (by show w.heap.size ≤ w.heap.size + 1; omega) _, rfl⟩)

end Go.Proofs.YtjffbojgdemooaaDoor

/-
  What an instruction pops and pushes: the code's side. (Written by genefc.py.)
-/
import Derived.Test.YtjffbojgdemooaaDoorEfB
import Derived.Test.YtjffbojgdemooaaDoorPrgE
import Derived.Deep.RegionHeld3
import Derived.Test.YtjffbojgdemooaaDoorPMy1
namespace Go.Proofs.YtjffbojgdemooaaDoor
open Go.RowKit

def elB (A : Int) : ByteArray := if A = 1 then ⟨#[82]⟩ else ⟨#[73]⟩
def plainV (op : Int) : ByteArray × ByteArray × Bool :=
  if op = 1 ∨ op = 34 then (⟨#[]⟩, ⟨#[73]⟩, true)
  else if op = 2 ∨ op = 24 then (⟨#[]⟩, ⟨#[82]⟩, true)
  else if op = 8 ∨ op = 9 ∨ op = 10 ∨ op = 11 ∨ op = 12 ∨ op = 13 ∨ op = 14 ∨ op = 15 ∨ op = 16 ∨ op = 17 ∨ op = 19 ∨ op = 20 then (⟨#[73, 73]⟩, ⟨#[73]⟩, true)
  else if op = 18 then (⟨#[73]⟩, ⟨#[73]⟩, true)
  else if op = 21 then (⟨#[82, 82]⟩, ⟨#[73]⟩, true)
  else if op = 22 then (⟨#[]⟩, ⟨#[]⟩, true)
  else if op = 23 ∨ op = 35 then (⟨#[73]⟩, ⟨#[]⟩, true)
  else if op = 27 ∨ op = 31 then (⟨#[82]⟩, ⟨#[73]⟩, true)
  else if op = 28 then (⟨#[73]⟩, ⟨#[82]⟩, true)
  else (⟨#[]⟩, ⟨#[]⟩, false)

/-- The two texts; whether it has such. -/
def effV (f : Nat → ByteArray) (ms : Nat → Meth) (ps ls rt : ByteArray) (op A B : Int) : ByteArray × ByteArray × Bool :=
  if op = 3 then (⟨#[]⟩, (ps ++ ls).extract A.toNat (A.toNat + 1), true)
  else if op = 4 then ((ps ++ ls).extract A.toNat (A.toNat + 1), ⟨#[]⟩, true)
  else if op = 25 then (⟨#[82]⟩, (f A.toNat).extract B.toNat (B.toNat + 1), true)
  else if op = 26 then (⟨#[82]⟩ ++ (f A.toNat).extract B.toNat (B.toNat + 1), ⟨#[]⟩, true)
  else if op = 29 then (⟨#[82, 73]⟩, elB A, true)
  else if op = 30 then (⟨#[82, 73]⟩ ++ elB A, ⟨#[]⟩, true)
  else if op = 32 then ((ms A.toNat).ps, (ms A.toNat).rt, true)
  else if op = 33 then (rt, ⟨#[]⟩, true)
  else plainV op

def EffQ (v : ByteArray × ByteArray × Bool) (w : World) (e : Ending) (w' : World) : Prop := e = .returned (.tuple #[.string v.1, .string v.2.1, .bool v.2.2]) ∧ Below w.heap.size w w'
def PlnQ (v : ByteArray × ByteArray × Bool) (w : World) (e : Ending) (w' : World) : Prop := e = .returned (.tuple #[.string v.1, .string v.2.1, .bool v.2.2]) ∧ w = w'

theorem two_ways {A : Int} (h : inside A 2 = true) : A = 0 ∨ A = 1 := by
  simp [inside] at h
  omega

theorem element_any (A : Int) (w : World) (h : A = 0 ∨ A = 1) : Calls Tryd.prog 111 #[.int .i64 A] w fun e w' => e = .returned (.string (elB A)) ∧ w = w' := by
  rcases h with rfl | rfl
  all_goals
    go_enter Tryd.func111, Tryd.ntmps111
    go_wp2
    go_ret
    exact ⟨rfl, rfl⟩

theorem relement_any (A : Int) (w : World) (h : A = 0 ∨ A = 1) : Calls Tryd.prog 113 #[.int .i64 A] w fun e w' => e = .returned (.string (elB A)) ∧ w = w' := by
  rcases h with rfl | rfl
  all_goals
    go_enter Tryd.func113, Tryd.ntmps113
    go_wp2
    go_ret
    exact ⟨rfl, rfl⟩

def isPlain (op : Int) : Prop := op = 1 ∨ op = 2 ∨ op = 5 ∨ op = 6 ∨ op = 7 ∨ op = 8 ∨ op = 9 ∨ op = 10 ∨ op = 11 ∨ op = 12 ∨ op = 13 ∨ op = 14 ∨ op = 15 ∨ op = 16 ∨ op = 17 ∨ op = 18 ∨ op = 19 ∨ op = 20 ∨ op = 21 ∨ op = 22 ∨ op = 23 ∨ op = 24 ∨ op = 27 ∨ op = 28 ∨ op = 31 ∨ op = 34 ∨ op = 35
set_option maxHeartbeats 4000000 in
set_option maxRecDepth 100000 in
theorem plain_any (op : Int) (w : World) (h : isPlain op) : Calls Tryd.prog 112 #[.int .i64 op] w (PlnQ (plainV op) w) := by
  unfold isPlain at h
  rcases h with rfl | rfl | rfl | rfl | rfl | rfl | rfl | rfl | rfl | rfl | rfl | rfl | rfl | rfl | rfl | rfl | rfl | rfl | rfl | rfl | rfl | rfl | rfl | rfl | rfl | rfl | rfl
  all_goals
    go_enter Tryd.func112, Tryd.ntmps112
    go_wp2
    exact bodyPost_ret (v := .tuple #[.string (plainV _).1, .string (plainV _).2.1, .bool (plainV _).2.2]) (by simp [results, Tryd.results112, go_sem, plainV]) rfl ⟨rfl, rfl⟩

theorem plain_or {op : Int} (h1 : 1 ≤ op) (h2 : op ≤ 35) (n3 : op ≠ 3) (n4 : op ≠ 4) (n25 : op ≠ 25) (n26 : op ≠ 26) (n29 : op ≠ 29) (n30 : op ≠ 30) (n32 : op ≠ 32) (n33 : op ≠ 33) : isPlain op := by
  unfold isPlain
  omega

/-- The method's four texts and code, a class's fields, in memory. -/
def MCell (mb o : Nat) (ps ls rt : ByteArray) (co : Option Addr) (len cp : Nat) (w : World) : Prop :=
  w.cell? ⟨mb, o, none⟩ = some (.string ps) ∧ w.cell? ⟨mb, o + 1, none⟩ = some (.string ls) ∧ w.cell? ⟨mb, o + 2, none⟩ = some (.string rt) ∧ w.cell? ⟨mb, o + 3, none⟩ = some (.slice co len cp)
theorem MCell.below {mb o : Nat} {ps ls rt : ByteArray} {co : Option Addr} {len cp : Nat} {w w' : World} (h : MCell mb o ps ls rt co len cp w) (hb : Below w.heap.size w w') : MCell mb o ps ls rt co len cp w' :=
  ⟨(hb.cell (World.block_lt_of_cell? w _ h.1)).trans h.1, (hb.cell (World.block_lt_of_cell? w _ h.2.1)).trans h.2.1, (hb.cell (World.block_lt_of_cell? w _ h.2.2.1)).trans h.2.2.1, (hb.cell (World.block_lt_of_cell? w _ h.2.2.2)).trans h.2.2.2⟩

def effW (ca : Option Addr) (nc cc : Nat) (ma : Option Addr) (nm mc : Nat) (op A B N : Int) (w : World) : World := (w.alloc (.cells #[.slice ca nc cc, .slice ma nm mc] 46)).alloc (.cells #[.int .i64 op, .int .i64 A, .int .i64 B, .int .i64 N] 67)
theorem effW_below {ca : Option Addr} {nc cc : Nat} {ma : Option Addr} {nm mc : Nat} {op A B N : Int} {w : World} : Below w.heap.size w (effW ca nc cc ma nm mc op A B N w) := ((Below.refl _ _).alloc (Nat.le_refl _) _).alloc (by simp) _
def EBox (b : Nat) (ca : Option Addr) (nc cc : Nat) (ma : Option Addr) (nm mc : Nat) (op A B N : Int) (w' : World) : Prop :=
  (w'.cell? ⟨b, 0, none⟩ = some (.slice ca nc cc) ∧ w'.cell? ⟨b, 1, none⟩ = some (.slice ma nm mc)) ∧ w'.cell? ⟨b + 1, 0, none⟩ = some (.int .i64 op) ∧ w'.cell? ⟨b + 1, 1, none⟩ = some (.int .i64 A) ∧ w'.cell? ⟨b + 1, 2, none⟩ = some (.int .i64 B) ∧ w'.cell? ⟨b + 1, 3, none⟩ = some (.int .i64 N)
theorem effW_cells {ca : Option Addr} {nc cc : Nat} {ma : Option Addr} {nm mc : Nat} {op A B N : Int} {w w' : World} (hb : Below (effW ca nc cc ma nm mc op A B N w).heap.size (effW ca nc cc ma nm mc op A B N w) w') : EBox w.heap.size ca nc cc ma nm mc op A B N w' := by
  have q0 : (effW ca nc cc ma nm mc op A B N w).heap[w.heap.size]? = some (.cells #[.slice ca nc cc, .slice ma nm mc] 46 (0, 0)) := by
    unfold effW
    rw [Below.heap_alloc _ _ _ (by simp)]
    exact heap_alloc_new w _
  have q1 : (effW ca nc cc ma nm mc op A B N w).heap[w.heap.size + 1]? = some (.cells #[.int .i64 op, .int .i64 A, .int .i64 B, .int .i64 N] 67 (0, 0)) := by
    unfold effW
    have := heap_alloc_new (w.alloc (.cells #[.slice ca nc cc, .slice ma nm mc] 46)) (.cells #[.int .i64 op, .int .i64 A, .int .i64 B, .int .i64 N] 67)
    simpa using this
  have hz : (effW ca nc cc ma nm mc op A B N w).heap.size = w.heap.size + 1 + 1 := by simp [effW]
  have r0 := (hb.block w.heap.size (by omega)).trans q0
  have r1 := (hb.block (w.heap.size + 1) (by omega)).trans q1
  exact ⟨⟨(cell_of_row _ _ 0 _ 46 (0, 0) r0).trans rfl, (cell_of_row _ _ 1 _ 46 (0, 0) r0).trans rfl⟩, (cell_of_row _ _ 0 _ 67 (0, 0) r1).trans rfl, (cell_of_row _ _ 1 _ 67 (0, 0) r1).trans rfl, (cell_of_row _ _ 2 _ 67 (0, 0) r1).trans rfl, (cell_of_row _ _ 3 _ 67 (0, 0) r1).trans rfl⟩

theorem MCell_of {w : World} {ca : Option Addr} {nc cc : Nat} {f : Nat → ByteArray} {ma : Option Addr} {nm mc : Nat} {ms : Nat → Meth} (h : Prg w ca nc cc f ma nm mc ms) (hp : 0 < nm) : ∃ mb mo, ma = some ⟨mb, mo, none⟩ ∧ ∀ i, i < nm → MCell mb (mo + i * 4) (ms i).ps (ms i).ls (ms i).rt (ms i).co (ms i).len (ms i).cp w := by
  obtain ⟨mb, mo, rfl, _, hc⟩ := Prg_at h hp
  exact ⟨mb, mo, rfl, hc⟩

/-- What an instruction's names ask, for what Effect reads. -/
theorem named_kind {nc nm : Nat} {lo : Int} {fl : Nat → Nat} {op A B : Int} (h : namedB nc nm lo fl op A B = true) :
    (op = 3 ∨ op = 4 → 0 ≤ A ∧ A < lo) ∧ (op = 25 ∨ op = 26 → (0 ≤ A ∧ A < nc) ∧ 0 ≤ B ∧ B < fl A.toNat) ∧ (op = 29 ∨ op = 30 → A = 0 ∨ A = 1) ∧ (op = 32 → 0 < A ∧ A < nm) := by
  refine ⟨fun e => ?_, fun e => ?_, fun e => ?_, fun e => ?_⟩
  · rw [namedB, if_pos e] at h
    simpa [inside] using h
  · rw [namedB, if_neg (by omega), if_neg (by omega), if_pos e] at h
    simpa [inside] using h
  · rw [namedB, if_neg (by omega), if_neg (by omega), if_neg (by omega), if_pos (by omega)] at h
    exact two_ways h
  · rw [namedB, if_neg (by omega), if_neg (by omega), if_neg (by omega), if_neg (by omega), if_pos e] at h
    simpa using h

set_option maxHeartbeats 8000000 in
set_option maxRecDepth 100000 in
theorem eff_all (ca : Option Addr) (nc cc : Nat) (f : Nat → ByteArray) (mb mo nm mc : Nat) (ms : Nat → Meth) (m : Nat) (ps ls rt : ByteArray) (co : Option Addr) (len cp : Nat) (op A B N : Int) (w : World) (hC : Cls w ca nc cc f) (hM : ∀ i, i < nm → MCell mb (mo + i * 4) (ms i).ps (ms i).ls (ms i).rt (ms i).co (ms i).len (ms i).cp w)
    (hX : MCell mb (mo + m * 4) ps ls rt co len cp w) (hm : m < nm) (_hnm : nm ≤ 1000) (hnc : nc ≤ 1000) (hps : ps.size ≤ 1000) (hls : ls.size ≤ 1000) (hfs : ∀ i, i < nc → (f i).size ≤ 1000) (h1 : 1 ≤ op) (h2 : op ≤ 35) (hN : namedB nc nm ((ps.size : Int) + ls.size) (fun i => (f i).size) op A B = true) :
    Calls Tryd.prog 50 #[.agg #[.slice ca nc cc, .slice (some ⟨mb, mo, none⟩) nm mc], .int .i64 m, .agg #[.int .i64 op, .int .i64 A, .int .i64 B, .int .i64 N]] w (EffQ (effV f ms ps ls rt op A B) w) := by
  have hb := effW_below (ca := ca) (nc := nc) (cc := cc) (ma := some ⟨mb, mo, none⟩) (nm := nm) (mc := mc) (op := op) (A := A) (B := B) (N := N) (w := w)
  have EB : Hid (∀ w', Below (effW ca nc cc (some ⟨mb, mo, none⟩) nm mc op A B N w).heap.size (effW ca nc cc (some ⟨mb, mo, none⟩) nm mc op A B N w) w' → EBox w.heap.size ca nc cc (some ⟨mb, mo, none⟩) nm mc op A B N w') := Lib.hid fun w' h => effW_cells h
  have HX := Lib.hid fun w' h => hX.below (w' := w') h
  have HM := Lib.hid fun i hi w' h => (hM i hi).below (w' := w') h
  have HC := Lib.hid fun w' h => hC.below (w' := w') h
  have NK := Lib.hid (named_kind hN)
  have KN : Hid (∀ w', Below w.heap.size w w' → Calls Tryd.prog 110 #[.agg #[.slice ca nc cc, .slice (some ⟨mb, mo, none⟩) nm mc], .agg #[.string ps, .string ls, .string rt, .slice co len cp], .agg #[.int .i64 op, .int .i64 A, .int .i64 B, .int .i64 N]] w' (BoolPost true w')) := Lib.hid fun w' hw' => by
    have := named_any ca nc cc (some ⟨mb, mo, none⟩) nm mc f ps ls rt co len cp op A B N w (by omega) (by omega) (by omega) hC w' hw'
    rw [hN] at this
    exact this
  have KW : Hid (∀ w', Calls Tryd.prog 109 #[.int .i64 m, .int .i64 nm] w' fun e w'' => e = .returned (.bool true) ∧ w' = w'') := Lib.hid fun w' => by
    have := within_any m nm w'
    rw [in_yes (by omega) (by omega)] at this
    exact this
  obtain ⟨W, hW⟩ : ∃ W, effW ca nc cc (some ⟨mb, mo, none⟩) nm mc op A B N w = W := ⟨_, rfl⟩
  rw [hW] at hb EB
  unfold effW at hW
  have HB := Lib.hid hb
  obtain ⟨x0, x1, x2, x3⟩ := HX.out W hb
  obtain ⟨⟨p0, p1⟩, i0, i1, i2, i3⟩ := EB.out W (Below.refl _ _)
  have FS := Lib.hid hfs
  obtain ⟨V, hV⟩ : ∃ V, effV f ms ps ls rt op A B = V := ⟨_, rfl⟩
  rw [hV]
  have HV := Lib.hid hV
  clear hX hM hC hN hb hfs hV
  go_enter Tryd.func50, Tryd.ntmps50
  go_wp2_with fail
  clear hW
  go_cut [26] from 10 to 26 (fun s wx => s = .bool false ∧ Below W.heap.size W wx)
  case first =>
    go_region_with (first | (go_at_call 109; refine (KW.out _).mono ?_; rintro e w' ⟨rfl, rfl⟩) | (go_at_call 110; refine (KN.out _ (by first | exact HB.out | exact below_drew HB.out)).mono ?_; rintro e w3 ⟨rfl, hb3⟩))
    all_goals
      have hb5 : Below W.heap.size W w3 := (below_drew (Below.refl W.heap.size W)).trans hb3
      go_wp2_with fail
      go_meet
      exact ⟨rfl, hb5⟩
  case rest =>
    obtain ⟨rfl, hb5⟩ := hcut
    obtain ⟨w3, hw3⟩ : ∃ w3, wc = w3 := ⟨_, rfl⟩
    rw [hw3] at hb5 ⊢
    clear hw3
    have hb4 : Below w.heap.size w w3 := HB.out.trans (hb5.mono HB.out.size)
    clear x0 x1 x2 x3 p0 p1 i0 i1 i2 i3
    have hb6 : Below W.heap.size W (w3.alloc (.cells #[.string ps, .string ls, .string rt, .slice co len cp] 62)) := hb5.alloc hb5.size _
    have hb7 : Below w.heap.size w (w3.alloc (.cells #[.string ps, .string ls, .string rt, .slice co len cp] 62)) := hb4.alloc hb4.size _
    obtain ⟨x0, x1, x2, x3⟩ := HX.out w3 hb4
    obtain ⟨⟨_, p1⟩, _, _, _, _⟩ := EB.out w3 hb5
    obtain ⟨⟨p0, _⟩, i0, i1, i2, i3⟩ := EB.out _ hb6
    have HXM := Lib.hid (HM.out)
    have HBM := Lib.hid hb7
    have HBW := Lib.hid hb6
    clear hb4 hb5 hb6 hb7 KN KW HX HM
    by_cases c3 : op = 3
    · subst c3
      obtain ⟨hA0, hA1⟩ := NK.out.1 (by omega)
      obtain ⟨a, rfl⟩ : ∃ a : Nat, A = a := ⟨A.toNat, by omega⟩
      obtain ⟨kk, hkk⟩ : ∃ kk, ps ++ ls = kk := ⟨_, rfl⟩
      have hks : a + 1 ≤ kk.size := by rw [← hkk, ByteArray.size_append]; omega
      have he : V = (⟨#[]⟩, kk.extract a (a + 1), true) := by rw [← HV.out, ← hkk]; simp [effV]
      subst he
      clear HV
      have KK : Hid (∀ w', BelB (w3.alloc (.cells #[.string ps, .string ls, .string rt, .slice co len cp] 62)) w' → Calls Tryd.prog 48 #[.agg #[.string ps, .string ls, .string rt, .slice co len cp]] w' (fun e w2 => e = .returned (.string kk) ∧ BelB (w3.alloc (.cells #[.string ps, .string ls, .string rt, .slice co len cp] 62)) w2)) := Lib.hid fun w' h =>
        (kinds_any ps ls rt co len cp w' hps hls).mono (by rintro e w2 ⟨rfl, h2⟩; exact ⟨by rw [hkk], Below.trans h (Below.mono h2 h.size)⟩)
      have FX : Hid (∀ w', BelB (w3.alloc (.cells #[.string ps, .string ls, .string rt, .slice co len cp] 62)) w' → MCell w3.heap.size 0 ps ls rt co len cp w' ∧ w'.cell? ⟨w.heap.size + 1, 1, none⟩ = some (.int .i64 a)) := Lib.hid fun w' h =>
        ⟨(show MCell w3.heap.size 0 ps ls rt co len cp (w3.alloc (.cells #[.string ps, .string ls, .string rt, .slice co len cp] 62)) from ⟨(cell_of_row _ _ 0 _ 62 (0, 0) (heap_alloc_new w3 _)).trans rfl, (cell_of_row _ _ 1 _ 62 (0, 0) (heap_alloc_new w3 _)).trans rfl, (cell_of_row _ _ 2 _ 62 (0, 0) (heap_alloc_new w3 _)).trans rfl, (cell_of_row _ _ 3 _ 62 (0, 0) (heap_alloc_new w3 _)).trans rfl⟩).below h,
          (EB.out w' (HBW.out.trans (Below.mono h HBW.out.size))).2.2.1⟩
      have BF : Hid (∀ w', BelB (w3.alloc (.cells #[.string ps, .string ls, .string rt, .slice co len cp] 62)) w' → Below w.heap.size w w') := Lib.hid fun w' h => HBM.out.trans (Below.mono h HBM.out.size)
      have HD : Hid (BelB (w3.alloc (.cells #[.string ps, .string ls, .string rt, .slice co len cp] 62)) (w3.alloc (.cells #[.string ps, .string ls, .string rt, .slice co len cp] 62)).drew) := Lib.hid (below_drew (Below.refl _ _))
      have hkl : kk.size ≤ 2000 := by rw [← hkk, ByteArray.size_append]; omega
      have wa : IntKind.i64.wrap ((a : Int) + 1) = (a : Int) + 1 := IntWalk.i64_in _ (by omega)
      have b0 : (0 : Int) ≤ (a : Int) := by omega
      have b1 : (a : Int) ≤ (a : Int) + 1 := by omega
      have b2 : (a : Int) + 1 ≤ (kk.size : Int) := by omega
      clear hA0 hA1 hkk hks hkl NK EB HXM HC FS HBW HB
      go_wp2_with fail
      generalize (w3.alloc (.cells #[.string ps, .string ls, .string rt, .slice co len cp] 62)) = w4 at *
      clear x0 x1 x2 x3 p0 p1 i0 i1 i2 i3
      go_region_held3 (fun w' => (w'.cell? ⟨w3.heap.size, 0, none⟩ = some (.string ps) ∧ w'.cell? ⟨w3.heap.size, 1, none⟩ = some (.string ls) ∧ w'.cell? ⟨w3.heap.size, 2, none⟩ = some (.string rt) ∧ w'.cell? ⟨w3.heap.size, 3, none⟩ = some (.slice co len cp)) ∧ w'.cell? ⟨w.heap.size + 1, 1, none⟩ = some (.int .i64 a)) (first | exact FX.out _ HD.out | (exact FX.out _ (by assumption)) | fail)
        ((first
          | (go_at_call 48; (with_reducible refine (KK.out _ (by first | exact HD.out | assumption)).mono ?_); rintro e wx ⟨rfl, hx⟩)
          | fail))
      all_goals go_wp2_with fail
      all_goals exact bodyPost_ret (v := .tuple #[.string (⟨#[]⟩), .string (kk.extract a (a + 1)), .bool true]) (by simp [results, Tryd.results50, go_sem]) rfl ⟨rfl, BF.out _ (by assumption)⟩
    by_cases c4 : op = 4
    · subst c4
      obtain ⟨hA0, hA1⟩ := NK.out.1 (by omega)
      obtain ⟨a, rfl⟩ : ∃ a : Nat, A = a := ⟨A.toNat, by omega⟩
      obtain ⟨kk, hkk⟩ : ∃ kk, ps ++ ls = kk := ⟨_, rfl⟩
      have hks : a + 1 ≤ kk.size := by rw [← hkk, ByteArray.size_append]; omega
      have he : V = (kk.extract a (a + 1), ⟨#[]⟩, true) := by rw [← HV.out, ← hkk]; simp [effV]
      subst he
      clear HV
      have KK : Hid (∀ w', BelB (w3.alloc (.cells #[.string ps, .string ls, .string rt, .slice co len cp] 62)) w' → Calls Tryd.prog 48 #[.agg #[.string ps, .string ls, .string rt, .slice co len cp]] w' (fun e w2 => e = .returned (.string kk) ∧ BelB (w3.alloc (.cells #[.string ps, .string ls, .string rt, .slice co len cp] 62)) w2)) := Lib.hid fun w' h =>
        (kinds_any ps ls rt co len cp w' hps hls).mono (by rintro e w2 ⟨rfl, h2⟩; exact ⟨by rw [hkk], Below.trans h (Below.mono h2 h.size)⟩)
      have FX : Hid (∀ w', BelB (w3.alloc (.cells #[.string ps, .string ls, .string rt, .slice co len cp] 62)) w' → MCell w3.heap.size 0 ps ls rt co len cp w' ∧ w'.cell? ⟨w.heap.size + 1, 1, none⟩ = some (.int .i64 a)) := Lib.hid fun w' h =>
        ⟨(show MCell w3.heap.size 0 ps ls rt co len cp (w3.alloc (.cells #[.string ps, .string ls, .string rt, .slice co len cp] 62)) from ⟨(cell_of_row _ _ 0 _ 62 (0, 0) (heap_alloc_new w3 _)).trans rfl, (cell_of_row _ _ 1 _ 62 (0, 0) (heap_alloc_new w3 _)).trans rfl, (cell_of_row _ _ 2 _ 62 (0, 0) (heap_alloc_new w3 _)).trans rfl, (cell_of_row _ _ 3 _ 62 (0, 0) (heap_alloc_new w3 _)).trans rfl⟩).below h,
          (EB.out w' (HBW.out.trans (Below.mono h HBW.out.size))).2.2.1⟩
      have BF : Hid (∀ w', BelB (w3.alloc (.cells #[.string ps, .string ls, .string rt, .slice co len cp] 62)) w' → Below w.heap.size w w') := Lib.hid fun w' h => HBM.out.trans (Below.mono h HBM.out.size)
      have HD : Hid (BelB (w3.alloc (.cells #[.string ps, .string ls, .string rt, .slice co len cp] 62)) (w3.alloc (.cells #[.string ps, .string ls, .string rt, .slice co len cp] 62)).drew) := Lib.hid (below_drew (Below.refl _ _))
      have hkl : kk.size ≤ 2000 := by rw [← hkk, ByteArray.size_append]; omega
      have wa : IntKind.i64.wrap ((a : Int) + 1) = (a : Int) + 1 := IntWalk.i64_in _ (by omega)
      have b0 : (0 : Int) ≤ (a : Int) := by omega
      have b1 : (a : Int) ≤ (a : Int) + 1 := by omega
      have b2 : (a : Int) + 1 ≤ (kk.size : Int) := by omega
      clear hA0 hA1 hkk hks hkl NK EB HXM HC FS HBW HB
      go_wp2_with fail
      generalize (w3.alloc (.cells #[.string ps, .string ls, .string rt, .slice co len cp] 62)) = w4 at *
      clear x0 x1 x2 x3 p0 p1 i0 i1 i2 i3
      go_region_held3 (fun w' => (w'.cell? ⟨w3.heap.size, 0, none⟩ = some (.string ps) ∧ w'.cell? ⟨w3.heap.size, 1, none⟩ = some (.string ls) ∧ w'.cell? ⟨w3.heap.size, 2, none⟩ = some (.string rt) ∧ w'.cell? ⟨w3.heap.size, 3, none⟩ = some (.slice co len cp)) ∧ w'.cell? ⟨w.heap.size + 1, 1, none⟩ = some (.int .i64 a)) (first | exact FX.out _ HD.out | (exact FX.out _ (by assumption)) | fail)
        ((first
          | (go_at_call 48; (with_reducible refine (KK.out _ (by first | exact HD.out | assumption)).mono ?_); rintro e wx ⟨rfl, hx⟩)
          | fail))
      all_goals go_wp2_with fail
      all_goals exact bodyPost_ret (v := .tuple #[.string (kk.extract a (a + 1)), .string (⟨#[]⟩), .bool true]) (by simp [results, Tryd.results50, go_sem]) rfl ⟨rfl, BF.out _ (by assumption)⟩
    by_cases c25 : op = 25
    · subst c25
      obtain ⟨⟨hA0, hA1⟩, hB0, hB1⟩ := NK.out.2.1 (by omega)
      obtain ⟨a, rfl⟩ : ∃ a : Nat, A = a := ⟨A.toNat, by omega⟩
      obtain ⟨b, rfl⟩ : ∃ b : Nat, B = b := ⟨B.toNat, by omega⟩
      obtain ⟨cb, ko, rfl, _, hcl⟩ := Cls_at (HC.out _ HBM.out) (by omega)
      have y0 := hcl a (by omega)
      have hs2 := FS.out a (by omega)
      rw [Int.toNat_natCast] at hB1
      have he : V = (⟨#[82]⟩, (f a).extract b (b + 1), true) := by rw [← HV.out]; simp [effV]
      subst he
      clear HV
      have han : a < nc := by omega
      clear hcl hA0 hA1 NK HXM HC FS HBW HB EB
      generalize f a = s at *
      have hbs : b + 1 ≤ s.size := by omega
      have hes : (s.extract b (b + 1)).size = 1 := by simp; omega
      have hz : (⟨#[82]⟩ : ByteArray).size = 1 := rfl
      have wa : IntKind.i64.wrap ((b : Int) + 1) = (b : Int) + 1 := IntWalk.i64_in _ (by omega)
      have b0 : (0 : Int) ≤ (b : Int) := by omega
      have b1 : (b : Int) ≤ (b : Int) + 1 := by omega
      have b2 : (b : Int) + 1 ≤ (s.size : Int) := by omega
      clear hB0 hB1 hbs
      go_wp2_with fail
      generalize (w3.alloc (.cells #[.string ps, .string ls, .string rt, .slice co len cp] 62)) = w4 at *
      go_quiet (fail)
      go_wp2_with fail
      exact bodyPost_ret (v := .tuple #[.string (⟨#[82]⟩), .string (s.extract b (b + 1)), .bool true]) (by simp [results, Tryd.results50, go_sem]) rfl ⟨rfl, below_drewN HBM.out _⟩
    by_cases c26 : op = 26
    · subst c26
      obtain ⟨⟨hA0, hA1⟩, hB0, hB1⟩ := NK.out.2.1 (by omega)
      obtain ⟨a, rfl⟩ : ∃ a : Nat, A = a := ⟨A.toNat, by omega⟩
      obtain ⟨b, rfl⟩ : ∃ b : Nat, B = b := ⟨B.toNat, by omega⟩
      obtain ⟨cb, ko, rfl, _, hcl⟩ := Cls_at (HC.out _ HBM.out) (by omega)
      have y0 := hcl a (by omega)
      have hs2 := FS.out a (by omega)
      rw [Int.toNat_natCast] at hB1
      have he : V = (⟨#[82]⟩ ++ (f a).extract b (b + 1), ⟨#[]⟩, true) := by rw [← HV.out]; simp [effV]
      subst he
      clear HV
      have han : a < nc := by omega
      clear hcl hA0 hA1 NK HXM HC FS HBW HB EB
      generalize f a = s at *
      have hbs : b + 1 ≤ s.size := by omega
      have hes : (s.extract b (b + 1)).size = 1 := by simp; omega
      have hz : (⟨#[82]⟩ : ByteArray).size = 1 := rfl
      have wa : IntKind.i64.wrap ((b : Int) + 1) = (b : Int) + 1 := IntWalk.i64_in _ (by omega)
      have b0 : (0 : Int) ≤ (b : Int) := by omega
      have b1 : (b : Int) ≤ (b : Int) + 1 := by omega
      have b2 : (b : Int) + 1 ≤ (s.size : Int) := by omega
      clear hB0 hB1 hbs
      go_wp2_with fail
      generalize (w3.alloc (.cells #[.string ps, .string ls, .string rt, .slice co len cp] 62)) = w4 at *
      go_quiet (fail)
      go_wp2_with fail
      exact bodyPost_ret (v := .tuple #[.string (⟨#[82]⟩ ++ s.extract b (b + 1)), .string (⟨#[]⟩), .bool true]) (by simp [results, Tryd.results50, go_sem]) rfl ⟨rfl, below_drewN HBM.out _⟩
    by_cases c29 : op = 29
    · subst c29
      have hA := NK.out.2.2.1 (by omega)
      obtain ⟨t, ht, hts⟩ : ∃ t, elB A = t ∧ t.size = 1 := ⟨_, rfl, by rcases hA with rfl | rfl <;> rfl⟩
      have KE : Hid (∀ w', Calls Tryd.prog 111 #[.int .i64 A] w' fun e w'' => e = .returned (.string t) ∧ w' = w'') := Lib.hid fun w' => by rw [← ht]; exact element_any A w' hA
      have he : V = (⟨#[82, 73]⟩, t, true) := by rw [← HV.out, ← ht]; simp [effV]
      subst he
      clear HV
      have hz : (⟨#[82, 73]⟩ : ByteArray).size = 2 := rfl
      clear ht hA NK EB HXM HC FS HBW HB
      go_wp2_with (go_at_call 111; refine (KE.out _).mono ?_; rintro e w' ⟨rfl, rfl⟩)
      exact bodyPost_ret (v := .tuple #[.string (⟨#[82, 73]⟩), .string (t), .bool true]) (by simp [results, Tryd.results50, go_sem]) rfl ⟨rfl, HBM.out⟩
    by_cases c30 : op = 30
    · subst c30
      have hA := NK.out.2.2.1 (by omega)
      obtain ⟨t, ht, hts⟩ : ∃ t, elB A = t ∧ t.size = 1 := ⟨_, rfl, by rcases hA with rfl | rfl <;> rfl⟩
      have KE : Hid (∀ w', Calls Tryd.prog 111 #[.int .i64 A] w' fun e w'' => e = .returned (.string t) ∧ w' = w'') := Lib.hid fun w' => by rw [← ht]; exact element_any A w' hA
      have he : V = (⟨#[82, 73]⟩ ++ t, ⟨#[]⟩, true) := by rw [← HV.out, ← ht]; simp [effV]
      subst he
      clear HV
      have hz : (⟨#[82, 73]⟩ : ByteArray).size = 2 := rfl
      clear ht hA NK EB HXM HC FS HBW HB
      go_wp2_with (go_at_call 111; refine (KE.out _).mono ?_; rintro e w' ⟨rfl, rfl⟩)
      exact bodyPost_ret (v := .tuple #[.string (⟨#[82, 73]⟩ ++ t), .string (⟨#[]⟩), .bool true]) (by simp [results, Tryd.results50, go_sem]) rfl ⟨rfl, HBM.out⟩
    by_cases c32 : op = 32
    · subst c32
      obtain ⟨hA0, hA1⟩ := NK.out.2.2.2 rfl
      obtain ⟨a, rfl⟩ : ∃ a : Nat, A = a := ⟨A.toNat, by omega⟩
      have han : a < nm := by omega
      obtain ⟨y0, _, y2, _⟩ := HXM.out a han _ HBM.out
      have he : V = ((ms a).ps, (ms a).rt, true) := by rw [← HV.out]; simp [effV]
      subst he
      clear HV
      clear hA0 hA1 NK HXM HC FS HBW HB EB
      generalize (ms a).ps = qs at *
      generalize (ms a).rt = qr at *
      go_wp2_with fail
      generalize (w3.alloc (.cells #[.string ps, .string ls, .string rt, .slice co len cp] 62)) = w4 at *
      go_quiet (fail)
      go_wp2_with fail
      exact bodyPost_ret (v := .tuple #[.string (qs), .string (qr), .bool true]) (by simp [results, Tryd.results50, go_sem]) rfl ⟨rfl, below_drewN HBM.out _⟩
    by_cases c33 : op = 33
    · subst c33
      have he : V = (rt, ⟨#[]⟩, true) := by rw [← HV.out]; simp [effV]
      subst he
      clear HV
      clear NK HXM HC FS HBW HB EB
      go_wp2_with fail
      exact bodyPost_ret (v := .tuple #[.string (rt), .string (⟨#[]⟩), .bool true]) (by simp [results, Tryd.results50, go_sem]) rfl ⟨rfl, HBM.out⟩
    have hpl := plain_or h1 h2 c3 c4 c25 c26 c29 c30 c32 c33
    have he : V = plainV op := by rw [← HV.out]; simp [effV, c3, c4, c25, c26, c29, c30, c32, c33]
    have KP : Hid (∀ w', Calls Tryd.prog 112 #[.int .i64 op] w' (PlnQ (plainV op) w')) := Lib.hid fun w' => plain_any op w' hpl
    obtain ⟨⟨a, b, c⟩, hv⟩ : ∃ v, plainV op = v := ⟨_, rfl⟩
    rw [hv] at KP
    rw [hv] at he
    subst he
    clear HV
    have t3 : (op == 3) = false := by simpa using c3
    have t4 : (op == 4) = false := by simpa using c4
    have t25 : (op == 25) = false := by simpa using c25
    have t26 : (op == 26) = false := by simpa using c26
    have t29 : (op == 29) = false := by simpa using c29
    have t30 : (op == 30) = false := by simpa using c30
    have t32 : (op == 32) = false := by simpa using c32
    have t33 : (op == 33) = false := by simpa using c33
    clear hv hpl h1 h2 c3 c4 c25 c26 c29 c30 c32 c33 NK HXM HC FS HBW HB EB
    go_wp2_with (go_at_call 112; refine (KP.out _).mono ?_; rintro e w' ⟨rfl, rfl⟩)
    exact bodyPost_ret (v := .tuple #[.string (a), .string (b), .bool c]) (by simp [results, Tryd.results50, go_sem]) rfl ⟨rfl, HBM.out⟩

end Go.Proofs.YtjffbojgdemooaaDoor

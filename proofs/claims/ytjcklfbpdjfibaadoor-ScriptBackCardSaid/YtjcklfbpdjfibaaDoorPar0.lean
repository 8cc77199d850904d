/-
  Package script: Parse of a script's bytes that are cut off: what each number is, the state of the walk.
-/
import Derived.Test.YtjcklfbpdjfibaaDoorRdr3
import Derived.Test.YtjcklfbpdjfibaaDoorPik1
namespace Go.Proofs.YtjcklfbpdjfibaaDoor
open Go.RowKit

theorem reads (full pre post : List Nat) (u n : Nat) (h : full = pre ++ (encF 9 u ++ post)) (hu : u ≤ 1048576) :
    (pre.length + (encF 9 u).length ≤ n → takeAt (full.take n) (pre.length : Int) = some (u, (encF 9 u).length)) ∧ (pre.length ≤ n → n < pre.length + (encF 9 u).length → CutAt (full.take n) pre.length) := by
  rw [h]
  exact ⟨num_whole pre post u n (by omega), num_cut pre post u n⟩

/-- What is read of pick k: each number whole, or cut off. -/
structure PickReads (gv : Nat → Nat → Int) (len n k d K A B : Nat) : Prop where
  r1 : ((printL gv k).length + (encF 9 d).length ≤ n → takeAt ((printL gv len).take n) (((printL gv k).length : Nat) : Int) = some (d, (encF 9 d).length)) ∧ (n < (printL gv k).length + (encF 9 d).length → CutAt ((printL gv len).take n) (printL gv k).length)
  r2 : (printL gv k).length + (encF 9 d).length ≤ n → ((printL gv k).length + (encF 9 d).length + (encF 9 K).length ≤ n → takeAt ((printL gv len).take n) (((printL gv k).length + (encF 9 d).length : Nat) : Int) = some (K, (encF 9 K).length)) ∧ (n < (printL gv k).length + (encF 9 d).length + (encF 9 K).length → CutAt ((printL gv len).take n) ((printL gv k).length + (encF 9 d).length))
  r3 : K = 3 → (printL gv k).length + (encF 9 d).length + (encF 9 K).length ≤ n → ((printL gv k).length + (encF 9 d).length + (encF 9 K).length + (encF 9 A).length ≤ n → takeAt ((printL gv len).take n) (((printL gv k).length + (encF 9 d).length + (encF 9 K).length : Nat) : Int) = some (A, (encF 9 A).length)) ∧ (n < (printL gv k).length + (encF 9 d).length + (encF 9 K).length + (encF 9 A).length → CutAt ((printL gv len).take n) ((printL gv k).length + (encF 9 d).length + (encF 9 K).length))
  r4 : K = 3 → (printL gv k).length + (encF 9 d).length + (encF 9 K).length + (encF 9 A).length ≤ n → ((printL gv k).length + (encF 9 d).length + (encF 9 K).length + (encF 9 A).length + (encF 9 B).length ≤ n → takeAt ((printL gv len).take n) (((printL gv k).length + (encF 9 d).length + (encF 9 K).length + (encF 9 A).length : Nat) : Int) = some (B, (encF 9 B).length)) ∧ (n < (printL gv k).length + (encF 9 d).length + (encF 9 K).length + (encF 9 A).length + (encF 9 B).length → CutAt ((printL gv len).take n) ((printL gv k).length + (encF 9 d).length + (encF 9 K).length + (encF 9 A).length))
  r5 : K = 5 → (printL gv k).length + (encF 9 d).length + (encF 9 K).length ≤ n → ((printL gv k).length + (encF 9 d).length + (encF 9 K).length + (encF 9 B).length ≤ n → takeAt ((printL gv len).take n) (((printL gv k).length + (encF 9 d).length + (encF 9 K).length : Nat) : Int) = some (B, (encF 9 B).length)) ∧ (n < (printL gv k).length + (encF 9 d).length + (encF 9 K).length + (encF 9 B).length → CutAt ((printL gv len).take n) ((printL gv k).length + (encF 9 d).length + (encF 9 K).length))
  e3 : K = 3 → (printL gv (k + 1)).length = (printL gv k).length + (encF 9 d).length + (encF 9 K).length + (encF 9 A).length + (encF 9 B).length
  e5 : K = 5 → (printL gv (k + 1)).length = (printL gv k).length + (encF 9 d).length + (encF 9 K).length + (encF 9 B).length
  e0 : K ≠ 3 → K ≠ 5 → (printL gv (k + 1)).length = (printL gv k).length + (encF 9 d).length + (encF 9 K).length

theorem pick_reads (gv : Nat → Nat → Int) (len n k d K A B : Nat) (hf : FairP gv len) (hk : k < len) (hd : gv k 0 - aheadOf gv k = d) (hK : gv k 1 = K) (hA : gv k 2 = A) (hB : gv k 3 = B) (hp : (printL gv k).length ≤ n) : PickReads gv len n k d K A B := by
  obtain ⟨n1, n2, n3, n4, n5, n6, n7, n8, n9, n10, n11⟩ := fair_nums hf hk
  obtain ⟨rest, hs⟩ := printL_split gv k len hk
  have hb : pickB gv k = encF 9 d ++ (encF 9 K ++ ((if (K : Int) = 3 then encF 9 A else []) ++ (if (K : Int) = 3 ∨ (K : Int) = 5 then encF 9 B else []))) := by
    rw [pickB, hd, hK, hA, hB]; simp only [Int.toNat_natCast]
  rw [hb] at hs
  have hnx : printL gv (k + 1) = printL gv k ++ (encF 9 d ++ (encF 9 K ++ ((if (K : Int) = 3 then encF 9 A else []) ++ (if (K : Int) = 3 ∨ (K : Int) = 5 then encF 9 B else [])))) := by rw [printL, hb]
  have s1 := reads (printL gv len) (printL gv k) (encF 9 K ++ ((if (K : Int) = 3 then encF 9 A else []) ++ (if (K : Int) = 3 ∨ (K : Int) = 5 then encF 9 B else [])) ++ rest) d n (by rw [hs]; simp) (by omega)
  have s2 := reads (printL gv len) (printL gv k ++ encF 9 d) ((if (K : Int) = 3 then encF 9 A else []) ++ (if (K : Int) = 3 ∨ (K : Int) = 5 then encF 9 B else []) ++ rest) K n (by rw [hs]; simp) (by omega)
  rw [List.length_append] at s2
  refine ⟨⟨s1.1, s1.2 hp⟩, fun h => ⟨s2.1, s2.2 h⟩, fun e h => ?_, fun e h => ?_, fun e h => ?_, fun e => ?_, fun e => ?_, fun e f => ?_⟩
  · have s3 := reads (printL gv len) (printL gv k ++ encF 9 d ++ encF 9 K) (encF 9 B ++ rest) A n (by rw [hs, if_pos (by omega), if_pos (by omega)]; simp) (by omega)
    rw [List.length_append, List.length_append] at s3
    exact ⟨s3.1, s3.2 h⟩
  · have s4 := reads (printL gv len) (printL gv k ++ encF 9 d ++ encF 9 K ++ encF 9 A) rest B n (by rw [hs, if_pos (by omega), if_pos (by omega)]; simp) (by omega)
    rw [List.length_append, List.length_append, List.length_append] at s4
    exact ⟨s4.1, s4.2 h⟩
  · have s5 := reads (printL gv len) (printL gv k ++ encF 9 d ++ encF 9 K) rest B n (by rw [hs, if_neg (by omega), if_pos (by omega)]; simp) (by omega)
    rw [List.length_append, List.length_append] at s5
    exact ⟨s5.1, s5.2 h⟩
  · rw [hnx, if_pos (by omega), if_pos (by omega)]
    simp only [List.length_append]
    omega
  · rw [hnx, if_neg (by omega), if_pos (by omega)]
    simp only [List.length_append, List.length_nil]
    omega
  · rw [hnx, if_neg (by omega), if_neg (by omega)]
    simp only [List.length_append, List.length_nil]
    omega

/-- The walk's state: the reader, the box that leads to it, the picks so far. -/
structure St (w : World) (q0 r B : Nat) (ba : Option Addr) (n bc p : Nat) (err so : Value) (m : Nat) (xs : List Value) (wr : World) : Prop where
  box : RBx r ba n bc p err wr
  led : wr.heap[q0]? = some (.cells #[.pointer (some ⟨r, 0, none⟩)] 140 (0, 0))
  own : wr.ownsRow B 107 4 so m xs
  bel : Below w.heap.size w wr
  ne : q0 ≠ r ∧ w.heap.size ≤ r ∧ w.heap.size ≤ q0 ∧ r < B ∧ q0 < B ∧ B ≤ wr.heap.size

theorem St.step {w : World} {q0 r B : Nat} {ba : Option Addr} {n bc p p' : Nat} {err err' so : Value} {m : Nat} {xs : List Value} {wr w' : World} (h : St w q0 r B ba n bc p err so m xs wr) (hb : RBx r ba n bc p' err' w') (hg : wr.grownBy w' (some r)) : St w q0 r B ba n bc p' err' so m xs w' := by
  obtain ⟨h1, h2, h3, h4, h5, h6, h7, h8, h9, h10⟩ := h
  refine ⟨hb, (hg.block q0 (Array.getElem?_eq_some_iff.1 h2).1 (by simp; omega)).trans h2, h3.kept hg (.inr (fun e => by have := (h3.lt r e).1; omega)), h4.grown hg h4.size (fun k hk => by cases hk; omega), h5, h6, h7, h8, h9, Nat.le_trans h10 hg.size⟩

/-- New blocks alone. -/
theorem St.below {w : World} {q0 r B : Nat} {ba : Option Addr} {n bc p : Nat} {err so : Value} {m : Nat} {xs : List Value} {wr w' : World} (h : St w q0 r B ba n bc p err so m xs wr) (hb : Below wr.heap.size wr w') : St w q0 r B ba n bc p err so m xs w' := by
  obtain ⟨h1, h2, h3, h4, h5, h6, h7, h8, h9, h10⟩ := h
  refine ⟨h1.stays hb, (hb.block q0 (Array.getElem?_eq_some_iff.1 h2).1).trans h2, h3.kept (grown_of_below hb) (by
    cases hv : so.ownBlock with
    | none => exact .inl rfl
    | some k => exact .inr (by simp)), h4.trans (hb.mono h4.size), h5, h6, h7, h8, h9, Nat.le_trans h10 hb.size⟩

theorem St.cell {w : World} {q0 r B : Nat} {ba : Option Addr} {n bc p : Nat} {err so : Value} {m : Nat} {xs : List Value} {wr : World} (h : St w q0 r B ba n bc p err so m xs wr) : wr.cell? ⟨q0, 0, none⟩ = some (.pointer (some ⟨r, 0, none⟩)) := (cell_of_row wr q0 0 _ _ (0, 0) h.led).trans rfl

theorem read_ok {w : World} {q0 r B : Nat} {ba : Option Addr} {n bc p : Nat} {so : Value} {m : Nat} {xs : List Value} {wr : World} (h : St w q0 r B ba n bc p .nilIface so m xs wr) (bs : List Nat) (u k : Nat) (hr : Row .u8 w ba n bc (intsR bs)) (hl : n ≤ 1000000) (hT : takeAt bs (p : Int) = some (u, k)) (hu : u ≤ 1048576) :
    Calls Tryd.prog 116 #[.pointer (some ⟨q0, 0, none⟩)] wr fun e w' => e = .returned (.int .i64 u) ∧ St w q0 r B ba n bc (p + k) .nilIface so m xs w' ∧ wr.grownBy w' (some r) := by
  refine num_of h.cell ((number_ok r ba n bc p u k bs wr h.box (Row_cells hr h.bel) hl hT hu).mono ?_)
  rintro e w' ⟨rfl, hb, hg⟩
  exact ⟨⟨_, rfl⟩, rfl, h.step hb hg, hg⟩

theorem read_cut (a : Nat → Addr) {w : World} {q0 r B : Nat} {b off n bc p : Nat} {so : Value} {m : Nat} {xs : List Value} {wr : World} (h : St w q0 r B (some ⟨b, off, none⟩) n bc p .nilIface so m xs wr) (bs : List Nat) (hS : Sents a w) (hr : Row .u8 w (some ⟨b, off, none⟩) n bc (intsR bs)) (hm : bc ≤ maxLen) (hnl : n ≤ 1000000) (hp : p ≤ n) (hpos : 0 < n) (hC : CutAt bs p) :
    Calls Tryd.prog 116 #[.pointer (some ⟨q0, 0, none⟩)] wr fun e w' => e = .returned (.int .i64 0) ∧ (∃ b', St w q0 r B (some ⟨b, off, none⟩) n bc p (atErr b') so m xs w' ∧ AtBox a b' 5 (n : Int) w') ∧ wr.grownBy w' (some r) := by
  refine num_of h.cell ((number_cut a r b off n bc p bs wr (hS.below h.bel) h.box (Row_cells hr h.bel) hm hnl hp hpos hC).mono ?_)
  rintro e w' ⟨rfl, b', h1, h2, h3, h4⟩
  exact ⟨⟨_, rfl⟩, rfl, ⟨b', h.step h1 h4, h2⟩, h4⟩

theorem read_err {w : World} {q0 r B : Nat} {ba : Option Addr} {n bc p b' : Nat} {so : Value} {m : Nat} {xs : List Value} {wr : World} (h : St w q0 r B ba n bc p (atErr b') so m xs wr) :
    Calls Tryd.prog 116 #[.pointer (some ⟨q0, 0, none⟩)] wr fun e w' => e = .returned (.int .i64 0) ∧ wr = w' := by
  refine num_of h.cell ((number_err r ba n bc p b' wr h.box).mono ?_)
  rintro e w' ⟨rfl, rfl⟩
  exact ⟨⟨_, rfl⟩, rfl, rfl⟩

theorem news_fourP (w : World) (T K A B : Int) : ∀ j u, ([.int .i64 T, .int .i64 K, .int .i64 A, .int .i64 B] : List Value)[j]? = some u → (w.alloc (.cells #[.int .i64 T, .int .i64 K, .int .i64 A, .int .i64 B] 107)).cell? ((⟨w.heap.size, 0, none⟩ : Addr).add j) = some u := by
  intro j u hu
  have hj : j < 4 := by
    have := (List.getElem?_eq_some_iff.1 hu).1
    simpa using this
  rw [add_zeroG, cell_of_row _ w.heap.size j _ 107 (0, 0) (heap_alloc_new w _), ← hu]
  match j, hj with
  | 0, _ => rfl
  | 1, _ => rfl
  | 2, _ => rfl
  | 3, _ => rfl

/-- A pick more. -/
theorem St.push {w : World} {q0 r B : Nat} {ba : Option Addr} {n bc p : Nat} {err so v5 : Value} {m : Nat} {xs ys : List Value} {W w5 : World} {o : Obj} (h : St w q0 r B ba n bc p err so m xs W) (hown : w5.ownsRow B 107 4 v5 (m + 1) ys) (hg : (W.alloc o).grownBy w5 so.ownBlock) :
    St w q0 r B ba n bc p err v5 (m + 1) ys w5 ∧ Below B W w5 := by
  obtain ⟨h1, h2, h3, h4, h5, h6, h7, h8, h9, h10⟩ := h
  have hal : Below W.heap.size W (W.alloc o) := (Below.refl _ _).alloc (Nat.le_refl _) _
  have key : ∀ c, c < B → w5.heap[c]? = W.heap[c]? := fun c hc => by
    have hcw : c < W.heap.size := Nat.lt_of_lt_of_le hc h10
    rw [hg.block c (Nat.lt_of_lt_of_le hcw hal.size) (fun e => by have := (h3.lt c e.symm).1; omega), hal.block c hcw]
  have hbb : Below B W w5 := ⟨hg.os.trans hal.os, hg.tape.trans hal.tape, hg.output.trans hal.output, Nat.le_trans hal.size hg.size, key⟩
  exact ⟨⟨(key r h8).trans h1, (key q0 h9).trans h2, hown, h4.trans (hbb.mono (by omega)), h5, h6, h7, h8, h9, Nat.le_trans h10 hbb.size⟩, hbb⟩

theorem at_push {a : Nat → Addr} {b' m B k : Nat} {pos : Int} {so : Value} {xs : List Value} {W w5 : World} {o : Obj} (h : AtBox a b' m pos W) (hown : W.ownsRow B 107 4 so k xs) (hg : (W.alloc o).grownBy w5 so.ownBlock) : AtBox a b' m pos w5 := by
  have hal : Below W.heap.size W (W.alloc o) := (Below.refl _ _).alloc (Nat.le_refl _) _
  have hl : b' < W.heap.size := (Array.getElem?_eq_some_iff.1 h).1
  refine (hg.block b' (Nat.lt_of_lt_of_le hl hal.size) (fun e => ?_)).trans ((hal.block b' hl).trans h)
  rcases hown.2 with ⟨rfl, _⟩ | ⟨g, cap, cur, rfl, _, hgg, _⟩
  · cases e
  · have h1 : g = b' := Option.some.inj (show some g = some b' from e.symm)
    subst h1
    unfold AtBox at h
    rw [hgg] at h
    simp at h

/-- The box of the pick at hand. -/
def PkB (c : Nat) (T K A B : Int) (w : World) : Prop := w.heap[c]? = some (.cells #[.int .i64 T, .int .i64 K, .int .i64 A, .int .i64 B] 107 (0, 0))
theorem PkB.cells {c : Nat} {T K A B : Int} {w : World} (h : PkB c T K A B w) : w.cell? ⟨c, 0, none⟩ = some (.int .i64 T) ∧ w.cell? ⟨c, 1, none⟩ = some (.int .i64 K) ∧ w.cell? ⟨c, 2, none⟩ = some (.int .i64 A) ∧ w.cell? ⟨c, 3, none⟩ = some (.int .i64 B) ∧ w.frozen? ⟨c, 2, none⟩ = false ∧ w.frozen? ⟨c, 3, none⟩ = false := by
  refine ⟨?_, ?_, ?_, ?_, frozen_of_row w c 2 _ _ h, frozen_of_row w c 3 _ _ h⟩
  · rw [cell_of_row w c 0 _ _ (0, 0) h]; rfl
  · rw [cell_of_row w c 1 _ _ (0, 0) h]; rfl
  · rw [cell_of_row w c 2 _ _ (0, 0) h]; rfl
  · rw [cell_of_row w c 3 _ _ (0, 0) h]; rfl
theorem PkB.new (w : World) (T K A B : Int) : PkB w.heap.size T K A B (w.alloc (.cells #[.int .i64 T, .int .i64 K, .int .i64 A, .int .i64 B] 107)) := heap_alloc_new w _
theorem PkB.kept {c r : Nat} {T K A B : Int} {w w' : World} (h : PkB c T K A B w) (hg : w.grownBy w' (some r)) (hne : c ≠ r) : PkB c T K A B w' := (hg.block c (Array.getElem?_eq_some_iff.1 h).1 (by simp; omega)).trans h
theorem PkB.setA {c : Nat} {T K A B : Int} {w : World} (h : PkB c T K A B w) (x : Int) : PkB c T K x B (w.setCell ⟨c, 2, none⟩ (.int .i64 x)) := (heap_setCell_same w c 2 _ _ _ h).trans rfl
theorem PkB.setB {c : Nat} {T K A B : Int} {w : World} (h : PkB c T K A B w) (x : Int) : PkB c T K A x (w.setCell ⟨c, 3, none⟩ (.int .i64 x)) := (heap_setCell_same w c 3 _ _ _ h).trans rfl
theorem at_set {a : Nat → Addr} {b' m c j : Nat} {pos : Int} {T K A B : Int} {w : World} (h : AtBox a b' m pos w) (hp : PkB c T K A B w) (v : Value) : AtBox a b' m pos (w.setCell ⟨c, j, none⟩ v) := by
  refine (heap_setCell_other w ⟨c, j, none⟩ b' v (fun e => ?_)).trans h
  have e2 : b' = c := e
  subst e2
  unfold AtBox at h
  unfold PkB at hp
  rw [hp] at h
  simp at h

theorem St.setBox {w : World} {q0 r B : Nat} {ba : Option Addr} {n bc p c j : Nat} {err so : Value} {m : Nat} {xs : List Value} {W : World} (h : St w q0 r B ba n bc p err so m xs W) (hc : B ≤ c) (hne : so.ownBlock ≠ some c) (v : Value) : St w q0 r B ba n bc p err so m xs (W.setCell ⟨c, j, none⟩ v) := by
  obtain ⟨h1, h2, h3, h4, h5, h6, h7, h8, h9, h10⟩ := h
  refine ⟨(heap_setCell_other W ⟨c, j, none⟩ r v (by show r ≠ c; omega)).trans h1, (heap_setCell_other W ⟨c, j, none⟩ q0 v (by show q0 ≠ c; omega)).trans h2, h3.kept (grown_setCellR W ⟨c, j, none⟩ v) (.inr hne), h4.setCell (by show w.heap.size ≤ c; omega) _, h5, h6, h7, h8, h9, by simp; exact h10⟩
theorem St.fresh {w : World} {q0 r B : Nat} {ba : Option Addr} {n bc p : Nat} {err so : Value} {m : Nat} {xs : List Value} {W : World} (h : St w q0 r B ba n bc p err so m xs W) : so.ownBlock ≠ some W.heap.size := fun e => by have := (h.own.lt _ e).2; omega

def leftP (r n : Nat) (w : World) : Nat := match w.cell? ⟨r, 1, none⟩, w.cell? ⟨r, 2, none⟩ with
  | some (.int .i64 p), some .nilIface => n - p.toNat + 1
  | _, _ => 0
theorem leftP_ok {r n : Nat} {ba : Option Addr} {bc p : Nat} {w : World} (h : RBx r ba n bc p .nilIface w) : leftP r n w = n - p + 1 := by
  obtain ⟨_, c1, c2, _, _⟩ := h.cells
  unfold leftP
  rw [c1, c2]
  simp
theorem leftP_err {r n : Nat} {ba : Option Addr} {bc p b : Nat} {w : World} (h : RBx r ba n bc p (atErr b) w) : leftP r n w = 0 := by
  obtain ⟨_, c1, c2, _, _⟩ := h.cells
  unfold leftP
  rw [c1, c2]
  rfl

def PaRel (a : Nat → Addr) (w : World) (q0 r B b off n bc : Nat) (gv : Nat → Nat → Int) (len : Nat) (sl sa : Value) (wr : World) : Prop :=
  (∃ k : Nat, k ≤ len ∧ (printL gv k).length ≤ n ∧ sa = .int .i64 (aheadOf gv k) ∧ St w q0 r B (some ⟨b, off, none⟩) n bc (printL gv k).length .nilIface sl k (flatG gv k) wr) ∨
  (∃ (b' p m : Nat) (z : Int) (xs : List Value), sa = .int .i64 z ∧ 0 ≤ z ∧ z ≤ 2097152 ∧ m ≤ 401 ∧ St w q0 r B (some ⟨b, off, none⟩) n bc p (atErr b') sl m xs wr ∧ AtBox a b' 5 (n : Int) wr)

def ParseP (a : Nat → Addr) (gv : Nat → Nat → Int) (len n : Nat) (w : World) (e : Ending) (w' : World) : Prop :=
  Below w.heap.size w w' ∧ ((∃ (k : Nat) (oa : Option Addr) (oc : Nat), k < len ∧ e = .returned (.tuple #[.slice oa k oc, .nilIface]) ∧ Picks w' oa k oc gv) ∨ (∃ b', e = .returned (.tuple #[.slice none 0 0, .iface 164 (.pointer (some ⟨b', 0, none⟩))]) ∧ AtBox a b' 5 (n : Int) w'))

end Go.Proofs.YtjcklfbpdjfibaaDoor

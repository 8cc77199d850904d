/-
  flow.Of, by a contract.
-/
import Derived.Test.YtchechdcebmoeaaDoorOfA
import Derived.Test.YtchechdcebmoeaaDoorFwE
import Derived.Deep.RegionHeld3
namespace Go.Proofs.YtchechdcebmoeaaDoor
open Go.RowKit

theorem hd_zero (n : Nat) (gv : Nat → Nat → Int) (h : 0 < n) : ∀ k, hdF n gv k 0 = true
  | 0 => by unfold hdF addB; simp [inB, h]
  | k + 1 => by
    have ih := hd_zero n gv h k
    unfold hdF hdS
    split
    · unfold addB; simp [ih]
    · split
      · unfold addB; simp [ih]
      · exact ih

def nxB (n : Nat) (gv : Nat → Nat → Int) (f : Nat → Bool) (b : Nat) : List Int := nextM n gv ((frB f n (b + 1) : Int) - 1)
def sucF (n : Nat) (gv : Nat → Nat → Int) (f : Nat → Bool) (b : Nat) : List Int := sucP f n (nxB n gv f b) (nxB n gv f b).length
theorem nextL_len (T A : Int) (k : Nat) : (nextL T A k).length ≤ 2 := by unfold nextL; split <;> (try split) <;> (try split) <;> (try split) <;> simp
theorem nextM_len (n : Nat) (gv : Nat → Nat → Int) (pc : Int) : (nextM n gv pc).length ≤ 2 := by
  unfold nextM; split
  · exact nextL_len _ _ _
  · simp
theorem sucP_len (f : Nat → Bool) (n : Nat) (nx : List Int) (k : Nat) : (sucP f n nx k).length ≤ nx.length := by
  unfold sucP
  rw [List.length_map]
  refine Nat.le_trans (List.length_filter_le _ _) ?_
  rw [List.length_take]; omega
theorem sucF_len (n : Nat) (gv : Nat → Nat → Int) (f : Nat → Bool) (b : Nat) : (sucF n gv f b).length ≤ 2 := Nat.le_trans (sucP_len _ _ _ _) (nextM_len _ _ _)
theorem prdF_len (S : Nat → List Int) (hS : ∀ i, (S i).length ≤ 2) (b k s : Nat) : (prdF S b k s).length ≤ 2 * b + 2 := by
  unfold prdF
  have h1 : ∀ b, ((List.range b).flatMap fun i => ((S i).filter fun x => decide (x = (s : Int))).map fun _ => (i : Int)).length ≤ 2 * b := by
    intro b
    induction b with
    | zero => simp
    | succ b ih =>
      rw [List.range_succ, List.flatMap_append, List.length_append]
      have := List.length_filter_le (fun x => decide (x = (s : Int))) (S b)
      have := hS b
      simp only [List.flatMap_cons, List.flatMap_nil, List.append_nil, List.length_map]
      omega
  have h2 := h1 b
  have h3 := List.length_filter_le (fun x => decide (x = (s : Int))) ((S b).take k)
  have h4 := hS b
  rw [List.length_take] at h3
  rw [List.length_append, List.length_map]
  omega

def Of1 (W : World) (bb ab L n : Nat) (f : Nat → Bool) (s27 : Value) (wr : World) : Prop :=
  ∃ b : Nat, b ≤ L ∧ s27 = .int .i64 b ∧ OfS W bb ab L n (blkC (frB f n) (fun _ => .slice none 0 0) b) (fun q => if q < frB f n b then atB f q else 0) wr ∧ wr.heap.size = W.heap.size
def Of1i (W : World) (bb ab L n : Nat) (f : Nat → Bool) (b : Nat) (s9 : Value) (wr : World) : Prop :=
  ∃ p : Nat, frB f n b ≤ p ∧ p ≤ frB f n (b + 1) ∧ s9 = .int .i64 p ∧ OfS W bb ab L n (blkC (frB f n) (fun _ => .slice none 0 0) (b + 1)) (fun q => if q < p then atB f q else 0) wr ∧ wr.heap.size = W.heap.size

def Of2 (W : World) (bb ab L n : Nat) (gv : Nat → Nat → Int) (f : Nat → Bool) (s68 : Value) (wr : World) : Prop :=
  ∃ b : Nat, b ≤ L ∧ s68 = .int .i64 b ∧ ∃ vs, OfS W bb ab L n (blkC (frB f n) vs L) (atB f) wr ∧ Fam W.heap.size (2 * L) vs (famF (sucF n gv f) [] b 0) wr ∧ ∀ i, b ≤ i → vs (2 * i) = .slice none 0 0
/-- The ways on of block b, so far; the list that they are read from. -/
def Of2a (W wN : World) (bb ab L n : Nat) (gv : Nat → Nat → Int) (f : Nat → Bool) (b : Nat) (s80 : Value) (wr : World) : Prop :=
  ∃ k : Nat, k ≤ (nxB n gv f b).length ∧ s80 = .int .i64 k ∧ ∃ vs, OfS W bb ab L n (blkC (frB f n) vs L) (atB f) wr ∧ Fam W.heap.size (2 * L) vs (famF (sucF n gv f) (sucP f n (nxB n gv f b) k) b 0) wr ∧
    (∀ j, j < wN.heap.size → W.heap.size ≤ j → (vs (2 * b)).ownBlock ≠ some j) ∧ (∀ j, j < wN.heap.size → W.heap.size ≤ j → wr.heap[j]? = wN.heap[j]?) ∧ wN.heap.size ≤ wr.heap.size ∧ ∀ i, b < i → vs (2 * i) = .slice none 0 0
def Of2b (W : World) (bb ab L n : Nat) (gv : Nat → Nat → Int) (f : Nat → Bool) (b : Nat) (sv : Value) (s115 : Value) (wr : World) : Prop :=
  ∃ k : Nat, k ≤ (sucF n gv f b).length ∧ s115 = .int .i64 k ∧ ∃ vs, vs (2 * b) = sv ∧ OfS W bb ab L n (blkC (frB f n) vs L) (atB f) wr ∧ Fam W.heap.size (2 * L) vs (famF (sucF n gv f) (sucF n gv f b) b k) wr ∧ ∀ i, b < i → vs (2 * i) = .slice none 0 0

theorem cell_blk2 {w w' : World} (a : Addr) (h : w'.heap[a.block]? = w.heap[a.block]?) : w'.cell? a = w.cell? a := by
  unfold World.cell?
  rw [h]

def NextR (l : List Int) (w : World) (e : Ending) (w' : World) : Prop := ∃ ad n c, e = .returned (.slice ad n c) ∧ Row .i64 w' ad n c l ∧ Below w.heap.size w w' ∧ ∀ x, ad = some x → w.heap.size ≤ x.block

def OfPost (n : Nat) (gv : Nat → Nat → Int) (w : World) (e : Ending) (w' : World) : Prop :=
  ∃ bb vs B2, e = .returned (.slice (some ⟨bb, 0, none⟩) (nB (hdF n gv n) n) (nB (hdF n gv n) n)) ∧ w'.heap[bb]? = some (.cells ((List.range (nB (hdF n gv n) n * 4)).map (blkC (frB (hdF n gv n) n) vs (nB (hdF n gv n) n))).toArray 78 (0, 0)) ∧
    Fam B2 (2 * nB (hdF n gv n) n) vs (famF (sucF n gv (hdF n gv n)) [] (nB (hdF n gv n) n) 0) w' ∧ w.heap.size ≤ B2 ∧ w.heap.size ≤ bb ∧ Below w.heap.size w w'

/-- What stands below the rows as they were made. -/
theorem OfS.below {W : World} {bb ab L n : Nat} {C : Nat → Value} {aF : Nat → Nat} {wr : World} (h : OfS W bb ab L n C aF wr) {M : Nat} (hb : M ≤ bb) (ha : M ≤ ab) (hM : M ≤ W.heap.size) : Below M W wr :=
  ⟨h.os.1, h.os.2.1, h.os.2.2, h.size, fun k hk => h.keep k (by omega) (by omega) (by omega)⟩

theorem Picks.trans {w w' : World} {a : Option Addr} {len cap : Nat} {gv : Nat → Nat → Int} (h : Picks w a len cap gv) (hb : Below w.heap.size w w') : Picks w' a len cap gv := by
  refine ⟨h.le, h.max, h.nil, fun ad had i j hi hj => ?_⟩
  have := h.cells ad had i j hi hj
  exact (hb.cell (World.block_lt_of_cell? w _ this)).trans this

set_option maxHeartbeats 8000000 in
set_option maxRecDepth 100000 in
theorem of_any (ps ls rt : ByteArray) (co : Option Addr) (len cap : Nat) (gv : Nat → Nat → Int) (w : World) (h : Picks w co len cap gv) (hl : len ≤ 140) (hA : ∀ i, i < len → gv i 0 = 22 ∨ gv i 0 = 23 → (Lit.int .i64 (gv i 1)).wf = true) (hT : TabOk w) :
    Calls Tryd.prog 45 #[.agg #[.string ps, .string ls, .string rt, .slice co len cap]] w (OfPost len gv w) := by
  have hb1 : Below w.heap.size w (w.alloc (.cells #[.string ps, .string ls, .string rt, .slice co len cap] 46)) := (Below.refl _ _).alloc (Nat.le_refl _) _
  have hnew := heap_alloc_new w (.cells #[.string ps, .string ls, .string rt, .slice co len cap] 46)
  have HP := Lib.hid h
  have HA := Lib.hid hA
  have HT := Lib.hid hT
  have K := Lib.hid (heads_any ps ls rt co len cap gv _ (h.trans hb1) hl)
  have HZ : Hid (0 < len → hdF len gv len 0 = true) := Lib.hid fun h0 => hd_zero len gv h0 len
  unfold OfPost
  obtain ⟨f, hf⟩ : ∃ f, hdF len gv len = f := ⟨_, rfl⟩
  unfold HeadsPost at K
  rw [hf] at K HZ ⊢
  obtain ⟨i0, hi, hz0, hz1, hz2⟩ := info_parts intinfoW
  have HI := Lib.hid hi
  have HZ0 := Lib.hid hz0
  have HZ1 := Lib.hid hz1
  have HZ2 := Lib.hid hz2
  have HM := Lib.hid (show len ≤ maxLen by unfold maxLen; omega)
  have HMB := Lib.hid (show 8 * len ≤ 281474976710656 by omega)
  obtain ⟨L, hL⟩ : ∃ L, nB f len = L := ⟨_, rfl⟩
  have hLl : L ≤ len := by
    rw [← hL]; unfold nB members
    have := List.length_filter_le f (List.range len)
    rw [List.length_range] at this
    exact this
  have HLL := Lib.hid hL
  rw [hL]
  have HB1 := Lib.hid hb1
  have HNEW := Lib.hid hnew
  clear h hb1 hnew hA hT hf hi hz0 hz1 hz2 hL
  go_enter Tryd.func45, Tryd.ntmps45
  have c0 := (cell_of_row _ w.heap.size 0 _ 46 (0, 0) HNEW.out).trans rfl
  have c1 := (cell_of_row _ w.heap.size 1 _ 46 (0, 0) HNEW.out).trans rfl
  have c2 := (cell_of_row _ w.heap.size 2 _ 46 (0, 0) HNEW.out).trans rfl
  have c3 := (cell_of_row _ w.heap.size 3 _ 46 (0, 0) HNEW.out).trans rfl
  go_wp2_with fail
  refine K.out.mono ?_
  rintro e w2 ⟨s, r, rfl, hs2, hb2⟩
  have HB2 := Lib.hid (HB1.out.trans (hb2.mono (by rw [World.size_alloc]; omega)))
  have K2 := Lib.hid (listF w2 hs2 (HT.out.below HB2.out (Nat.le_refl _)))
  unfold ListPost at K2
  have HNE2 := Lib.hid ((hb2.block w.heap.size (by rw [World.size_alloc]; omega)).trans HNEW.out)
  clear c0 c1 c2 c3 hs2 hb2 K HT
  go_wp2_with fail
  refine K2.out.mono ?_
  rintro e w3 ⟨hv, rfl, hown3, _, hb3⟩
  obtain ⟨ha, hc, rfl, hrow3⟩ := told_row hown3 (members_lt (by omega))
  have hlen : (members f len).length = L := HLL.out
  rw [hlen] at hrow3 ⊢
  have HR3 := Lib.hid hrow3
  have HB3 := Lib.hid (HB2.out.trans (hb3.mono HB2.out.size))
  have hne3 := (hb3.block w.heap.size (Array.getElem?_eq_some_iff.1 HNE2.out).1).trans HNE2.out
  have HNE3 := Lib.hid hne3
  have c3 := (cell_of_row w3 w.heap.size 3 _ 46 (0, 0) hne3).trans rfl
  have hrl := hrow3.le
  have hrm := hrow3.max
  unfold maxLen at hrm
  clear hown3 hb3 hrow3 hlen hne3 K2
  have hmk : ∀ w4 : World, (Instr.makeSlice 73 (.int .i64 (L : Int)) (.int .i64 (L : Int))).run Tryd.prog w4 = .ok (.slice (some ⟨w4.heap.size, 0, none⟩) L L) (w4.alloc (.cells ((List.range (L * 4)).map (blkC (frB f len) (fun _ => .slice none 0 0) 0)).toArray 78)) := fun w4 => by
    rw [← blk_made]; exact blk_run w4 L (by omega)
  have HMK := Lib.hid hmk
  clear hmk
  go_wp2_with (first | (rw [HMK.out]) | (at_make; refine wpList_make_len _ rfl (.tmp 20) (.tmp 20) 26 rfl w3.heap.size 3 i0 (.int .i64 0) 8 Tryd.underlying26 HI.out HZ0.out HZ1.out HZ2.out rfl .i64 .i64 _ _ len len rfl rfl (by simp) (by simp) (Nat.le_refl _) HMB.out HM.out (Nat.le_refl _) ?_; intro w4 hown4 hg4; have hS4 := Lib.hid (zeros_made hown4); have hB4 := Lib.hid (Below.grown (Below.refl _ w3) hg4 (Nat.le_refl _) (by simp)); clear hown4 hg4))
  have h5 : OfS (w4.alloc (.cells ((List.range (L * 4)).map (blkC (frB f len) (fun _ => .slice none 0 0) 0)).toArray 78)) w4.heap.size w3.heap.size L len (blkC (frB f len) (fun _ => .slice none 0 0) 0) (fun _ => 0) (w4.alloc (.cells ((List.range (L * 4)).map (blkC (frB f len) (fun _ => .slice none 0 0) 0)).toArray 78)) :=
    ⟨heap_alloc_new _ _, (Below.heap_alloc _ _ _ (Array.getElem?_eq_some_iff.1 hS4.out).1).trans hS4.out, fun _ _ _ _ => rfl, Nat.le_refl _, rfl, rfl, rfl⟩
  have HB5 := Lib.hid (hB4.out.alloc hB4.out.size (.cells ((List.range (L * 4)).map (blkC (frB f len) (fun _ => .slice none 0 0) 0)).toArray 78))
  have HS5 := Lib.hid h5
  have HLT : Hid (w3.heap.size ≤ w4.heap.size) := Lib.hid hB4.out.size
  clear h5 hS4 hB4 c3
  generalize (w4.alloc (.cells ((List.range (L * 4)).map (blkC (frB f len) (fun _ => .slice none 0 0) 0)).toArray 78)) = W at *
  generalize w4.heap.size = bb at *
  obtain ⟨ab, hab⟩ : ∃ ab, w3.heap.size = ab := ⟨_, rfl⟩
  rw [hab] at HS5 HLT ⊢
  have HAB := Lib.hid hab
  have hF0 : ∀ q, q < len → 0 = (if q < frB f len 0 then atB f q else 0) := fun q hq => by
    rw [(frB_first f len (by omega) (HZ.out (by omega))).1, if_neg (Nat.not_lt_zero _)]
  have R0 : Hid (Of1 W bb ab L len f (.int .i64 0) W) := Lib.hid ⟨0, Nat.zero_le _, rfl, HS5.out.congr (fun _ _ => rfl) hF0, rfl⟩
  -- what stays
  have HKP : Hid (∀ (wr : World) (C : Nat → Value) (aF : Nat → Nat), OfS W bb ab L len C aF wr → Below w3.heap.size w3 wr) := Lib.hid fun wr C aF h => HB5.out.trans (h.below (by rw [hab]; exact HLT.out) (by rw [hab]; exact Nat.le_refl _) HB5.out.size)
  clear hF0 hab
  go_loopw [27] (fun s27 wr => Of1 W bb ab L len f s27 wr) (fun s27 _ => L - (intOf s27).toNat)
  case atStart => exact R0.out
  case round =>
    clear R0
    obtain ⟨b, hb, rfl, hS, hsz⟩ := hrel
    have hB3 := HKP.out wr _ _ hS
    have cm := (hB3.cell (p := ⟨w.heap.size, 3, none⟩) (Array.getElem?_eq_some_iff.1 HNE3.out).1).trans ((cell_of_row w3 w.heap.size 3 _ 46 (0, 0) HNE3.out).trans (show _ = some (Value.slice co len cap) from rfl))
    by_cases hlt : b < L
    · have t1 : decide (b < L) = true := by simpa using hlt
      obtain ⟨lb, lo, rfl, hcl⟩ := Row_at (Row_cells HR3.out hB3) (by omega)
      have ch := hcl b hlt
      have hfr : ((members f len).map fun x : Nat => (x : Int)).getD b 0 = (frB f len b : Int) := by
        have : b < (members f len).length := by rw [show (members f len).length = L from HLL.out]; exact hlt
        unfold frB
        simp [List.getD, this]
      rw [hfr] at ch
      have hle1 := frB_le f len (b + 1)
      have hmo := frB_mono f len (Nat.le_succ b)
      have hbn : b < nB f len := by rw [HLL.out]; exact hlt
      have hri := frB_rise f len (Nat.lt_succ_self b) hbn
      obtain ⟨x0, v0⟩ : ∃ x, wr.cell? ⟨bb, b * 4, none⟩ = some x := ⟨_, hS.cellB (j := b * 4) (by omega)⟩
      have z0 := hS.frB (b * 4)
      have hS1 := hS.setB (b * 4) (.int .i64 (frB f len b : Int))
      obtain ⟨x1, v1⟩ : ∃ x, (wr.setCell ⟨bb, b * 4, none⟩ (.int .i64 (frB f len b : Int))).cell? ⟨bb, b * 4 + 1, none⟩ = some x := ⟨_, hS1.cellB (j := b * 4 + 1) (by omega)⟩
      have z1 := hS1.frB (b * 4 + 1)
      have hS2 := (hS1.setB (b * 4 + 1) (.int .i64 (frB f len (b + 1) : Int))).congr (fun j _ => blkC_next (frB f len) (fun _ => .slice none 0 0) b j) (fun _ _ => rfl)
      have R1 : Hid (Of1i W bb ab L len f b (.int .i64 (frB f len b : Int)) ((wr.setCell ⟨bb, b * 4, none⟩ (.int .i64 (frB f len b : Int))).setCell ⟨bb, b * 4 + 1, none⟩ (.int .i64 (frB f len (b + 1) : Int)))) := Lib.hid ⟨_, Nat.le_refl _, hmo, rfl, hS2, by rw [World.size_setCell, World.size_setCell]; exact hsz⟩
      have HFR : Hid (∀ p, frB f len b ≤ p → p < frB f len (b + 1) → atB f p = b) := Lib.hid fun p h1 h2 => atB_eq f len b p h1 h2
      have hc1 : b + 1 < L → wr.cell? ⟨lb, lo + (b + 1), none⟩ = some (.int .i64 (frB f len (b + 1) : Int)) := fun h => by
        rw [hcl (b + 1) h]
        have : b + 1 < (members f len).length := by rw [show (members f len).length = L from HLL.out]; exact h
        unfold frB
        simp [List.getD, this]
      have hout : ¬ b + 1 < L → frB f len (b + 1) = len := fun h => frB_out f len (b + 1) (by rw [HLL.out]; omega)
      generalize hp0 : frB f len b = p0 at *
      generalize hp1 : frB f len (b + 1) = p1 at *
      have HP1 := Lib.hid hp1
      have HP0 := Lib.hid hp0
      clear hS hS1 hS2 hsz hB3 hcl hfr hmo hbn hp0 hp1
      by_cases h1 : b + 1 < L
      · have ch1 := hc1 h1
        have t2 : decide ((b : Int) + 1 < L) = true := by simp; omega
        clear hc1 hout
        go_wp2_with fail
        obtain ⟨W6, rfl⟩ : ∃ W6 : World, W6 = wr := ⟨_, rfl⟩
        go_loopw [9] (fun s9 wr => Of1i W bb ab L len f b s9 wr) (fun s9 _ => p1 - (intOf s9).toNat)
        case atStart => exact R1.out
        case round =>
          clear R1 ch v0 z0 v1 z1 cm
          obtain ⟨p, hp1, hp2, rfl, hS, hsz⟩ := hrel
          rw [HP0.out] at hp1
          rw [HP1.out] at hp2
          by_cases hpp : p < p1
          · have t3 : decide (p < p1) = true := by simpa using hpp
            have ca := hS.cellA (j := p) (by omega)
            have za := hS.frA p
            have hS3 := (hS.setA p b).congr (fun _ _ => rfl) (aF2 := fun q => if q < p + 1 then atB f q else 0) fun q _ => by
              unfold updV
              by_cases e : q = p
              · rw [if_pos e, if_pos (by omega), e, HFR.out p hp1 hpp]
              · rw [if_neg e]
                dsimp only
                by_cases e2 : q < p
                · rw [if_pos e2, if_pos (by omega)]
                · rw [if_neg e2, if_neg (by omega)]
            have FIN := Lib.hid hS3
            have HSZ := Lib.hid hsz
            have hpl2 : p < len := by omega
            clear hS hS3 hsz
            go_wp2_with fail
            go_roundw
            case rel => exact ⟨p + 1, by rw [HP0.out]; omega, by rw [HP1.out]; omega, by go_num, FIN.out, by rw [World.size_setCell]; exact HSZ.out⟩
            case measure => simp [intOf]; omega
          · obtain rfl : p1 = p := by omega
            have t3 : decide (p1 < p1) = false := by simp
            have FIN : Hid (OfS W bb ab L len (blkC (frB f len) (fun _ => .slice none 0 0) (b + 1)) (fun q => if q < frB f len (b + 1) then atB f q else 0) wr) := Lib.hid (by rw [HP1.out]; exact hS)
            have HSZ := Lib.hid hsz
            clear hS hsz
            go_wp2_with fail
            go_roundw
            case rel => exact ⟨b + 1, by omega, by go_num, FIN.out, HSZ.out⟩
            case measure => simp [intOf]; omega
      · have hpl := hout h1
        have t2 : decide ((b : Int) + 1 < L) = false := by simp; omega
        clear hc1 hout
        subst hpl
        go_wp2_with fail
        obtain ⟨W6, rfl⟩ : ∃ W6 : World, W6 = wr := ⟨_, rfl⟩
        go_loopw [9] (fun s9 wr => Of1i W bb ab L p1 f b s9 wr) (fun s9 _ => p1 - (intOf s9).toNat)
        case atStart => exact R1.out
        case round =>
          clear R1 ch v0 z0 v1 z1 cm
          obtain ⟨p, hp1, hp2, rfl, hS, hsz⟩ := hrel
          rw [HP0.out] at hp1
          rw [HP1.out] at hp2
          by_cases hpp : p < p1
          · have t3 : decide (p < p1) = true := by simpa using hpp
            have ca := hS.cellA (j := p) (by omega)
            have za := hS.frA p
            have hS3 := (hS.setA p b).congr (fun _ _ => rfl) (aF2 := fun q => if q < p + 1 then atB f q else 0) fun q _ => by
              unfold updV
              by_cases e : q = p
              · rw [if_pos e, if_pos (by omega), e, HFR.out p hp1 hpp]
              · rw [if_neg e]
                dsimp only
                by_cases e2 : q < p
                · rw [if_pos e2, if_pos (by omega)]
                · rw [if_neg e2, if_neg (by omega)]
            have FIN := Lib.hid hS3
            have HSZ := Lib.hid hsz
            have hpl2 : p < p1 := by omega
            clear hS hS3 hsz
            go_wp2_with fail
            go_roundw
            case rel => exact ⟨p + 1, by rw [HP0.out]; omega, by rw [HP1.out]; omega, by go_num, FIN.out, by rw [World.size_setCell]; exact HSZ.out⟩
            case measure => simp [intOf]; omega
          · obtain rfl : p1 = p := by omega
            have t3 : decide (p1 < p1) = false := by simp
            have FIN : Hid (OfS W bb ab L p1 (blkC (frB f p1) (fun _ => .slice none 0 0) (b + 1)) (fun q => if q < frB f p1 (b + 1) then atB f q else 0) wr) := Lib.hid (by rw [HP1.out]; exact hS)
            have HSZ := Lib.hid hsz
            clear hS hsz
            go_wp2_with fail
            go_roundw
            case rel => exact ⟨b + 1, by omega, by go_num, FIN.out, HSZ.out⟩
            case measure => simp [intOf]; omega
    · obtain rfl : L = b := by omega
      have t1 : decide (L < L) = false := by simp
      have hfL : frB f len L = len := frB_out f len L (by rw [HLL.out]; exact Nat.le_refl _)
      have hS1 := hS.congr (fun _ _ => rfl) (aF2 := atB f) fun q hq => by rw [hfL, if_pos hq]
      have R2 : Hid (Of2 W bb ab L len gv f (.int .i64 0) wr) := Lib.hid ⟨0, Nat.zero_le _, rfl, _, hS1, (Fam.nils _ _ _).congr fun j _ => (famF_nil _ j).symm, fun _ _ => rfl⟩
      have HBW : Hid (bb < W.heap.size ∧ ab < W.heap.size) := Lib.hid ⟨by rw [← hsz]; exact hS.ltb, by rw [← hsz]; exact hS.lta⟩
      clear hS hS1 hsz hB3 cm hfL
      go_wp2_with fail
      obtain ⟨W7, rfl⟩ : ∃ W7 : World, W7 = wr := ⟨_, rfl⟩
      go_loopw [68] (fun s68 wr => Of2 W bb ab L len gv f s68 wr) (fun s68 _ => L - (intOf s68).toNat)
      case atStart => exact R2.out
      case round =>
        clear R2
        obtain ⟨b, hb, rfl, vs, hS, hF, hnil⟩ := hrel
        have hB3 := HKP.out wr _ _ hS
        by_cases hlt : b < L
        · have t1 : decide (b < L) = true := by simpa using hlt
          have hm := (hB3.block w.heap.size (Array.getElem?_eq_some_iff.1 HNE3.out).1).trans HNE3.out
          have m0 := (cell_of_row wr w.heap.size 0 _ 46 (0, 0) hm).trans (show _ = some (Value.string ps) from rfl)
          have m1 := (cell_of_row wr w.heap.size 1 _ 46 (0, 0) hm).trans (show _ = some (Value.string ls) from rfl)
          have m2 := (cell_of_row wr w.heap.size 2 _ 46 (0, 0) hm).trans (show _ = some (Value.string rt) from rfl)
          have m3 := (cell_of_row wr w.heap.size 3 _ 46 (0, 0) hm).trans (show _ = some (Value.slice co len cap) from rfl)
          have ct := hS.cellB (j := b * 4 + 1) (by omega)
          rw [blkC1 _ _ hlt] at ct
          have hle1 := frB_le f len (b + 1)
          have tw : IntKind.i64.wrap ((frB f len (b + 1) : Int) - 1) = (frB f len (b + 1) : Int) - 1 := IntWalk.i64_in _ (by omega)
          have KN : Hid (∀ w', Below wr.heap.size wr w' → Calls Tryd.prog 106 #[.agg #[.string ps, .string ls, .string rt, .slice co len cap], .int .i64 ((frB f len (b + 1) : Int) - 1)] w' (NextR (nxB len gv f b) wr)) := Lib.hid fun w' hb' => by
            refine (next_all ps ls rt co len cap gv ((frB f len (b + 1) : Int) - 1) w' (HP.out.trans (HB3.out.trans ((hB3.trans (hb'.mono hB3.size)).mono HB3.out.size))) (by omega) HA.out).mono ?_
            rintro e w'' ⟨ad, q, c, rfl, h1, h2, h3⟩
            exact ⟨ad, q, c, rfl, h1, hb'.trans (h2.mono hb'.size), fun x hx => Nat.le_trans hb'.size (h3 x hx)⟩
          unfold NextR at KN
          have HM0 : Hid (Below wr.heap.size wr wr) := Lib.hid (Below.refl _ _)
          have HM1 : Hid (Below wr.heap.size wr wr.drew) := Lib.hid (below_drew (Below.refl _ _))
          have HSS := Lib.hid hS
          have HFF := Lib.hid hF
          have HB33 := Lib.hid hB3
          have hb4 : b < L := hlt
          clear hS hF hB3 hm
          generalize frB f len (b + 1) = p1 at *
          have KEEP : Hid (∀ w', Below wr.heap.size wr w' → (w'.cell? ⟨w.heap.size, 0, none⟩ = some (.string ps) ∧ w'.cell? ⟨w.heap.size, 1, none⟩ = some (.string ls) ∧ w'.cell? ⟨w.heap.size, 2, none⟩ = some (.string rt) ∧ w'.cell? ⟨w.heap.size, 3, none⟩ = some (.slice co len cap)) ∧ w'.cell? ⟨bb, b * 4 + 1, none⟩ = some (.int .i64 (p1 : Int))) := Lib.hid fun w' hb' =>
            ⟨⟨(hb'.cell (World.block_lt_of_cell? wr _ m0)).trans m0, (hb'.cell (World.block_lt_of_cell? wr _ m1)).trans m1, (hb'.cell (World.block_lt_of_cell? wr _ m2)).trans m2, (hb'.cell (World.block_lt_of_cell? wr _ m3)).trans m3⟩, (hb'.cell (World.block_lt_of_cell? wr _ ct)).trans ct⟩
          go_wp2_with fail
          go_region_held3 (fun w' => (w'.cell? ⟨w.heap.size, 0, none⟩ = some (.string ps) ∧ w'.cell? ⟨w.heap.size, 1, none⟩ = some (.string ls) ∧ w'.cell? ⟨w.heap.size, 2, none⟩ = some (.string rt) ∧ w'.cell? ⟨w.heap.size, 3, none⟩ = some (.slice co len cap)) ∧ w'.cell? ⟨bb, b * 4 + 1, none⟩ = some (.int .i64 (p1 : Int))) (first | exact KEEP.out _ HM1.out | (exact KEEP.out _ (by assumption)) | fail)
            ((first
              | (go_at_call 106; (with_reducible refine (KN.out _ (by first | exact HM1.out | assumption)).mono ?_); rintro e wx ⟨ad, nq, nc, rfl, hrw, hbx, hfr⟩)
              | fail))
          all_goals
            have R3 : Hid (Of2a W wx bb ab L len gv f b (.int .i64 0) wx) := Lib.hid ⟨0, Nat.zero_le _, rfl, vs, HSS.out.grown hbx, (HFF.out.all fun k hk => hbx.block k hk).congr (fun j _ => by rw [show sucP f len (nxB len gv f b) 0 = [] from rfl]), fun j _ _ => by rw [hnil b (Nat.le_refl _)]; simp [Value.ownBlock], fun _ _ _ => rfl, Nat.le_refl _, fun i hi => hnil i (by omega)⟩
            have hWr := HSS.out.size
            have HRW := Lib.hid hrw
            have hnq := hrw.len_eq
            have HNQ := Lib.hid hnq
            have HFR : Hid (∀ x, ad = some x → W.heap.size ≤ x.block) := Lib.hid fun x hx => Nat.le_trans hWr (hfr x hx)
            have hnq2 := nextM_len len gv ((p1 : Int) - 1)
            have hrc1 := hrw.le
            have hrc2 := hrw.max
            unfold maxLen at hrc2
            have hnqs : nq ≤ 2 := by
              have : (nxB len gv f b).length ≤ 2 := nextM_len _ _ _
              omega
            clear hrw hbx hfr hnil m0 m1 m2 m3 ct KN KEEP HM0 HM1 HSS HFF HB33 hWr hnq hnq2
            go_wp2_with fail
            go_loopw [80] (fun s80 wr => Of2a W wx bb ab L len gv f b s80 wr) (fun s80 _ => nq - (intOf s80).toNat)
            case atStart => exact R3.out
            case round =>
              clear R3
              obtain ⟨k, hk, rfl, vs, hS, hF, hown, hkeep, hsz, hnil⟩ := hrel
              have hB3 := HKP.out wr _ _ hS
              rw [HNQ.out] at hk
              by_cases hkl : k < nq
              · have t2 : decide (k < nq) = true := by simpa using hkl
                obtain ⟨rb, ro, rfl, hrc⟩ := Row_at HRW.out (by omega)
                have ck0 := hrc k hkl
                have hrl := World.block_lt_of_cell? wx _ ck0
                have ck := (cell_blk2 ⟨rb, ro + k, none⟩ (hkeep rb hrl (HFR.out _ rfl))).trans ck0
                have hm := (hB3.block w.heap.size (Array.getElem?_eq_some_iff.1 HNE3.out).1).trans HNE3.out
                have m3 := (cell_of_row wr w.heap.size 3 _ 46 (0, 0) hm).trans (show _ = some (Value.slice co len cap) from rfl)
                have hnx := sucP_next f len (nxB len gv f b) k (by rw [HNQ.out]; exact hkl)
                obtain ⟨x, hx⟩ : ∃ x, (nxB len gv f b).getD k 0 = x := ⟨_, rfl⟩
                rw [hx] at ck hnx
                clear hrc ck0 hx hm hB3 hrl
                by_cases hin : 0 ≤ x ∧ x < (len : Int)
                · rw [if_pos hin] at hnx
                  obtain ⟨p, rfl⟩ : ∃ p : Nat, x = p := ⟨x.toNat, by omega⟩
                  rw [Int.toNat_natCast] at hnx
                  have hpl : p < len := by omega
                  have t3 : decide ((p : Int) ≥ 0) = true := by simp
                  have t3' : decide ((0 : Int) ≤ p) = true := by simp
                  have t4 : decide ((p : Int) < len) = true := by simp; omega
                  have t4' : decide (p < len) = true := by simpa using hpl
                  have hm2 : 2 * b < 2 * L := by omega
                  obtain ⟨a, c, hv, hqc, hcm⟩ := hF.shape hm2
                  have hsl := sucP_len f len (nxB len gv f b) k
                  rw [HNQ.out] at hsl
                  rw [famF_s] at hv hqc
                  have cs := hS.cellB (j := b * 4 + 2) (by omega)
                  rw [blkC2, hv] at cs
                  have ca := hS.cellA hpl
                  have how := hF.own (2 * b) hm2
                  rw [famF_s, hv] at how
                  obtain ⟨q, hq⟩ : ∃ q, (sucP f len (nxB len gv f b) k).length = q := ⟨_, rfl⟩
                  rw [hq] at hv hqc hsl cs how
                  obtain ⟨y, hy⟩ : ∃ y, atB f p = y := ⟨_, rfl⟩
                  rw [hy] at hnx ca
                  have hidx : 2 * b / 2 * 4 + 2 + 2 * b % 2 = b * 4 + 2 := by omega
                  have FIN : Hid (∀ va vc w5, w5.ownsRow W.heap.size 3 1 (.slice va (q + 1) vc) (q + 1) ((sucP f len (nxB len gv f b) k).map (Value.int .i64) ++ [.int .i64 (y : Int)]) → (wr.drew.alloc (.cells #[.int .i64 (y : Int)] 3)).grownBy w5 (Value.slice a q c).ownBlock →
                      ((Value.slice va (q + 1) vc).ownBlock = (Value.slice a q c).ownBlock ∨ (Value.slice va (q + 1) vc).ownBlock = some (wr.drew.alloc (.cells #[.int .i64 (y : Int)] 3)).heap.size) →
                      (w5.frozen? ⟨bb, b * 4 + 2, none⟩ = false ∧ w5.cell? ⟨bb, b * 4 + 2, none⟩ = some (.slice a q c)) ∧ Of2a W wx bb ab L len gv f b (.int .i64 ((k + 1 : Nat) : Int)) (w5.setCell ⟨bb, b * 4 + 2, none⟩ (.slice va (q + 1) vc))) := Lib.hid fun va vc w5 ho hg hat => by
                    have hbl : Below wr.heap.size wr (wr.drew.alloc (.cells #[.int .i64 (y : Int)] 3)) := (below_drew (Below.refl _ _)).alloc (Nat.le_refl _) _
                    obtain ⟨⟨f1, f2⟩, f3, f4, f5⟩ := of_app (w5 := w5) (v' := .slice va (q + 1) vc) (x := (y : Int)) hS hF HBW.out.1 HBW.out.2 hm2 hbl (by rw [famF_s, hq]; exact ho) (by rw [hv]; exact hg) (by rw [hv]; exact hat)
                    rw [hidx] at f1 f2 f3 f4 f5
                    rw [hv] at f2 f5
                    have hs5 := hg.size
                    rw [World.size_alloc] at hs5
                    have hs5 : wr.heap.size + 1 ≤ w5.heap.size := hs5
                    refine ⟨⟨f1, f2⟩, k + 1, by rw [HNQ.out]; omega, rfl, _, f3, f4.congr fun j _ => ?_, fun j hj hj2 => ?_, fun j hj hj2 => ?_, ?_, fun i hi => ?_⟩
                    · rw [famF_s, famF_more, hnx]
                    · rw [updV_same]
                      rcases hat with h1 | h1
                      · rw [h1, ← hv]; exact hown j hj hj2
                      · rw [h1, World.size_alloc]
                        intro e
                        have := Option.some.inj e
                        have h9 : wr.drew.heap.size = wr.heap.size := rfl
                        omega
                    · rw [f5 j (by omega) (by have := HBW.out.1; omega) (by rw [← hv]; exact hown j hj hj2)]
                      exact hkeep j hj hj2
                    · rw [World.size_setCell]; omega
                    · rw [updV_other _ _ (by omega)]
                      exact hnil i hi
                  have HOW := Lib.hid ((how.drew).alloc (.cells #[.int .i64 (y : Int)] 3))
                  have HNW : Hid (∀ i u, ([.int .i64 (y : Int)] : List Value)[i]? = some u → (wr.drew.alloc (.cells #[.int .i64 (y : Int)] 3)).cell? ((⟨wr.heap.size, 0, none⟩ : Addr).add i) = some u) := Lib.hid (cell_one_new wr.drew (.int .i64 (y : Int)) 3)
                  have hoc : Hid (∀ u ∈ ([.int .i64 (y : Int)] : List Value), u.oneCell' = true) := Lib.hid (by simp [Value.oneCell'])
                  have hn1 : Hid (q + 1 ≤ maxLen) := Lib.hid (by unfold maxLen; omega)
                  have hn3 : Hid ((q + 1) * 8 ≤ 140737488355328) := Lib.hid (by omega)
                  have hsz9 : Hid (W.heap.size ≤ (wr.drew.alloc (.cells #[.int .i64 (y : Int)] 3)).heap.size) := Lib.hid (by have := hS.size; rw [World.size_alloc]; show W.heap.size ≤ wr.heap.size + 1; omega)
                  have cs2 : ((wr.alloc (.cells #[.int .i64 (y : Int)] 3)).drew).cell? ⟨bb, b * 4 + 2, none⟩ = some (.slice a q c) := ((World.grownBy_alloc wr (.cells #[.int .i64 (y : Int)] 3) none).cell cs (by simp))
                  have ca2 : ((wr.alloc (.cells #[.int .i64 (y : Int)] 3)).drew).cell? ⟨ab, p, none⟩ = some (.int .i64 (y : Int)) := ((World.grownBy_alloc wr (.cells #[.int .i64 (y : Int)] 3) none).cell ca (by simp))
                  have hb4 : b < L := hlt
                  clear hS hF hown hkeep hsz hnil hin hv how hq hnx hidx hsl
                  go_upto_region 23 with (fail)
                  go_region_law (refine step_append_at rfl (.tmp 99) (.tmp 104) 26 rfl W.heap.size 3 i0 (.int .i64 0) 1 8 Tryd.underlying26 HI.out HZ0.out HZ1.out HZ2.out rfl (by decide) (.slice a q c) q _ (by simp [Act.eval]) HOW.out ⟨wr.heap.size, 0, none⟩ 1 1 [.int .i64 (y : Int)] (by simp [Act.eval]) rfl HNW.out hoc.out hn1.out hn3.out hsz9.out ?_; intro v5 w5 hown5 hgrow5 hat5; obtain ⟨va, vc, rfl⟩ := own_shape1 hown5; have FF := Lib.hid (FIN.out va vc w5 hown5 hgrow5 hat5); have d0 := FF.out.1.1; have e0 := FF.out.1.2; clear hown5 hgrow5 hat5)
                  all_goals
                    go_wp2_with fail
                    go_roundw
                    case rel => obtain ⟨k2, h1, h2, h3⟩ := FF.out.2; exact ⟨k2, h1, by rw [← h2]; go_num, h3⟩
                    case measure => simp [intOf]; omega
                · rw [if_neg hin] at hnx
                  have FIN : Hid (Of2a W wx bb ab L len gv f b (.int .i64 ((k + 1 : Nat) : Int)) wr) := Lib.hid ⟨k + 1, by rw [HNQ.out]; omega, rfl, vs, hS, by rw [hnx]; exact hF, hown, hkeep, hsz, hnil⟩
                  clear hS hF hown hkeep hsz hnil hnx
                  by_cases hx0 : x < 0
                  · have t3 : decide (x ≥ 0) = false := by simpa using hx0
                    have t3' : decide ((0 : Int) ≤ x) = false := by simpa using hx0
                    clear hin hx0
                    go_wp2_with fail
                    go_roundw
                    case rel => obtain ⟨k2, h1, h2, h3⟩ := FIN.out; exact ⟨k2, h1, by rw [← h2]; go_num, h3⟩
                    case measure => simp [intOf]; omega
                  · have t3 : decide (x ≥ 0) = true := by simp; omega
                    have t3' : decide ((0 : Int) ≤ x) = true := by simp; omega
                    have t4 : decide (x < (len : Int)) = false := by simp; omega
                    clear hin hx0
                    go_wp2_with fail
                    go_roundw
                    case rel => obtain ⟨k2, h1, h2, h3⟩ := FIN.out; exact ⟨k2, h1, by rw [← h2]; go_num, h3⟩
                    case measure => simp [intOf]; omega
              · obtain rfl : nq = k := by omega
                have t2 : decide (nq < nq) = false := by simp
                have hsf : sucP f len (nxB len gv f b) nq = sucF len gv f b := by unfold sucF; rw [HNQ.out]
                rw [hsf] at hF
                have hm2 : 2 * b < 2 * L := by omega
                obtain ⟨a, c, hv, hqc, hcm⟩ := hF.shape hm2
                rw [famF_s] at hv hqc
                have hql := sucF_len len gv f b
                have cs := hS.cellB (j := b * 4 + 2) (by omega)
                rw [blkC2, hv] at cs
                obtain ⟨q, hq⟩ : ∃ q, (sucF len gv f b).length = q := ⟨_, rfl⟩
                rw [hq] at hv hqc cs hql
                unfold maxLen at hcm
                have HQ := Lib.hid hq
                have R4 : Hid (Of2b W bb ab L len gv f b (.slice a q c) (.int .i64 0) wr) := Lib.hid ⟨0, Nat.zero_le _, rfl, vs, hv, hS, hF, hnil⟩
                clear hS hF hown hkeep hsz hnil hsf hv hq hB3
                go_wp2_with fail
                obtain ⟨W9, rfl⟩ : ∃ W9 : World, W9 = wr := ⟨_, rfl⟩
                go_loopw [115] (fun s115 wr => Of2b W bb ab L len gv f b (.slice a q c) s115 wr) (fun s115 _ => q - (intOf s115).toNat)
                case atStart => exact R4.out
                case round =>
                  clear R4 cs
                  obtain ⟨k, hk, rfl, vs, hv, hS, hF, hnil⟩ := hrel
                  rw [HQ.out] at hk
                  by_cases hkl : k < q
                  · have t3 : decide (k < q) = true := by simpa using hkl
                    obtain ⟨y, hy, hyL⟩ : ∃ y : Nat, (sucF len gv f b).getD k 0 = (y : Int) ∧ y < L := by
                      have hmem : (sucF len gv f b).getD k 0 ∈ sucF len gv f b := by simp [List.getD, show k < (sucF len gv f b).length by rw [HQ.out]; exact hkl]
                      unfold sucF sucP at hmem
                      obtain ⟨x, hx, e⟩ := List.mem_map.1 hmem
                      have hx2 := (List.mem_filter.1 hx).2
                      simp only [decide_eq_true_eq] at hx2
                      refine ⟨atB f x.toNat, e.symm, ?_⟩
                      have := (atB_in f len (HZ.out (by omega)) (show x.toNat < len by omega)).1
                      rw [HLL.out] at this
                      exact this
                    obtain ⟨a2, c2, hv2, hrw2⟩ := hF.row hm2 (fun x hx => by
                      rw [famF_s] at hx
                      unfold sucF sucP at hx
                      obtain ⟨z, hz, rfl⟩ := List.mem_map.1 hx
                      have hz2 := (List.mem_filter.1 hz).2
                      simp only [decide_eq_true_eq] at hz2
                      have := (atB_in f len (HZ.out (by omega)) (show z.toNat < len by omega)).1
                      rw [HLL.out] at this
                      exact wf64 (by omega) (by omega))
                    rw [hv, famF_s, HQ.out] at hv2
                    rw [famF_s, HQ.out] at hrw2
                    have e2 := Value.slice.inj hv2
                    obtain ⟨rfl, rfl⟩ : a = a2 ∧ c = c2 := ⟨e2.1, e2.2.2⟩
                    obtain ⟨lb, lo, rfl, hlc⟩ := Row_at hrw2 (by omega)
                    have cy := hlc k hkl
                    rw [hy] at cy
                    have hm3 : 2 * y + 1 < 2 * L := by omega
                    obtain ⟨a3, c3, hv3, hqc3, hcm3⟩ := hF.shape hm3
                    have how := hF.own (2 * y + 1) hm3
                    rw [famF_p] at hv3 hqc3 how
                    have hsl := prdF_len (sucF len gv f) (sucF_len len gv f) b k y
                    have cs := hS.cellB (j := y * 4 + 3) (by omega)
                    rw [blkC3, hv3] at cs
                    rw [hv3] at how
                    obtain ⟨q3, hq3⟩ : ∃ q3, (prdF (sucF len gv f) b k y).length = q3 := ⟨_, rfl⟩
                    rw [hq3] at hv3 hqc3 hsl cs how
                    have hidx : (2 * y + 1) / 2 * 4 + 2 + (2 * y + 1) % 2 = y * 4 + 3 := by omega
                    have FIN : Hid (∀ va vc w5, w5.ownsRow W.heap.size 3 1 (.slice va (q3 + 1) vc) (q3 + 1) ((prdF (sucF len gv f) b k y).map (Value.int .i64) ++ [.int .i64 (b : Int)]) → (wr.alloc (.cells #[.int .i64 (b : Int)] 3)).grownBy w5 (Value.slice a3 q3 c3).ownBlock →
                        ((Value.slice va (q3 + 1) vc).ownBlock = (Value.slice a3 q3 c3).ownBlock ∨ (Value.slice va (q3 + 1) vc).ownBlock = some (wr.alloc (.cells #[.int .i64 (b : Int)] 3)).heap.size) →
                        (w5.frozen? ⟨bb, y * 4 + 3, none⟩ = false ∧ w5.cell? ⟨bb, y * 4 + 3, none⟩ = some (.slice a3 q3 c3)) ∧ Of2b W bb ab L len gv f b (.slice (some ⟨lb, lo, none⟩) q c) (.int .i64 ((k + 1 : Nat) : Int)) (w5.setCell ⟨bb, y * 4 + 3, none⟩ (.slice va (q3 + 1) vc))) := Lib.hid fun va vc w5 ho hg hat => by
                      have hbl : Below wr.heap.size wr (wr.alloc (.cells #[.int .i64 (b : Int)] 3)) := (Below.refl _ _).alloc (Nat.le_refl _) _
                      obtain ⟨⟨f1, f2⟩, f3, f4, _⟩ := of_app (w5 := w5) (v' := .slice va (q3 + 1) vc) (x := (b : Int)) hS hF HBW.out.1 HBW.out.2 hm3 hbl (by rw [famF_p, hq3]; exact ho) (by rw [hv3]; exact hg) (by rw [hv3]; exact hat)
                      rw [hidx] at f1 f2 f3 f4
                      rw [hv3] at f2
                      refine ⟨⟨f1, f2⟩, k + 1, by rw [HQ.out]; omega, rfl, _, ?_, f3, f4.congr fun j _ => ?_, fun i hi => ?_⟩
                      · rw [updV_other _ _ (by omega)]; exact hv
                      · rw [famF_p, famF_pred _ _ _ _ (by rw [HQ.out]; exact hkl) hy]
                      · rw [updV_other _ _ (by omega)]; exact hnil i hi
                    have HOW := Lib.hid (how.alloc (.cells #[.int .i64 (b : Int)] 3))
                    have HNW := Lib.hid (cell_one_new wr (.int .i64 (b : Int)) 3)
                    have HM1 := Lib.hid (show q3 + 1 ≤ maxLen by unfold maxLen; omega)
                    have HM2 := Lib.hid (show (q3 + 1) * 8 ≤ 140737488355328 by omega)
                    have HB3 := Lib.hid (show W.heap.size ≤ (wr.alloc (.cells #[.int .i64 (b : Int)] 3)).heap.size by have := hS.size; rw [World.size_alloc]; omega)
                    clear hS hF hnil hv hv2 e2 hrw2 hlc hv3 how hq3 hidx hy hsl
                    go_wp2_with (at_builtin; refine wpList_append_own_at _ rfl (.tmp 125) (.tmp 127) 26 rfl W.heap.size 3 i0 (.int .i64 0) 1 8 Tryd.underlying26 HI.out HZ0.out HZ1.out HZ2.out rfl (by decide) (.slice a3 q3 c3) q3 _ rfl HOW.out ⟨wr.heap.size, 0, none⟩ 1 1 [.int .i64 (b : Int)] rfl rfl HNW.out (by simp [Value.oneCell']) HM1.out HM2.out HB3.out ?_; intro v5 w5 hown5 hgrow5 hnil5 hat5; obtain ⟨va5, vc5, rfl⟩ := own_shapeM hown5; have FF := Lib.hid (FIN.out va5 vc5 w5 hown5 hgrow5 hat5); have fz := FF.out.1.1; have cz := FF.out.1.2; clear hown5 hgrow5 hnil5 hat5)
                    go_roundw
                    case rel => obtain ⟨k2, h1, h2, h3⟩ := FF.out.2; exact ⟨k2, h1, by rw [← h2]; go_num, h3⟩
                    case measure => simp [intOf]; omega
                  · obtain rfl : q = k := by omega
                    have t3 : decide (q < q) = false := by simp
                    have FIN : Hid (∃ vs, OfS W bb ab L len (blkC (frB f len) vs L) (atB f) wr ∧ Fam W.heap.size (2 * L) vs (famF (sucF len gv f) [] (b + 1) 0) wr ∧ ∀ i, b + 1 ≤ i → vs (2 * i) = .slice none 0 0) := Lib.hid ⟨vs, hS, hF.congr fun j _ => by rw [← HQ.out, famF_row], fun i hi => hnil i (by omega)⟩
                    clear hS hF hnil hv
                    go_wp2_with fail
                    go_roundw
                    case rel => exact ⟨b + 1, by omega, by go_num, FIN.out⟩
                    case measure => simp [intOf]; omega
        · obtain rfl : L = b := by omega
          have t1 : decide (L < L) = false := by simp
          have FIN := Lib.hid (show _ ∧ _ ∧ _ ∧ _ ∧ _ from ⟨hS.cb, hF, (show w.heap.size ≤ W.heap.size from Nat.le_trans HB3.out.size HB5.out.size), (show w.heap.size ≤ bb from Nat.le_trans HB3.out.size (by rw [HAB.out]; exact HLT.out)), (HB3.out.trans (hB3.mono HB3.out.size))⟩)
          clear hS hF hnil hB3
          go_wp2_with fail
          go_ret
          exact ⟨bb, vs, W.heap.size, rfl, FIN.out⟩

end Go.Proofs.YtchechdcebmoeaaDoor

/-
  MovesAtOnce: the law's list of moves as it comes in; its own places, each once; how many moves go somewhere.
-/
import Derived.Test.YtflbjfcmnopfaaaDoorMvM
import Derived.Test.YtflbjfcmnopfaaaDoorMvH
import Derived.Test.YtflbjfcmnopfaaaDoorSee2
import Derived.Deep.Slices
import Derived.ChangeArms
namespace Go.Proofs.YtflbjfcmnopfaaaDoor
open Go.RowKit Go.ChangeShapes Go.WideShapes Go.Deep

theorem keys_set {ks : List (Int × Int)} {i : Nat} {p x : Int} (hi : i < ks.length) (hk : (ks.getD i (0, 0)).1 = p) : (ks.set i (p, x)).map Prod.fst = ks.map Prod.fst := by
  refine List.ext_getElem (by simp) fun j h1 h2 => ?_
  simp only [List.getElem_map, List.getElem_set]
  by_cases q : i = j
  · subst q
    rw [if_pos rfl]
    simp [List.getD, hi] at hk
    exact hk.symm
  · rw [if_neg q]

theorem keys_snoc {ks : List (Int × Int)} {p x : Int} (h : (ks.map Prod.fst).Nodup) (hno : ∀ j, j < ks.length → (ks.getD j (0, 0)).1 ≠ p) : ((ks ++ [(p, x)]).map Prod.fst).Nodup ∧ ∀ q ∈ (ks ++ [(p, x)]).map Prod.fst, q = p ∨ q ∈ ks.map Prod.fst := by
  have hn : p ∉ ks.map Prod.fst := fun hm => by
    obtain ⟨m, hm, e⟩ := List.mem_map.1 hm
    obtain ⟨j, hj, rfl⟩ := List.getElem_of_mem hm
    have := hno j hj
    rw [show ks.getD j (0, 0) = ks[j] by simp [List.getD, hj]] at this
    exact this e
  rw [List.map_append]
  refine ⟨List.nodup_append.2 ⟨h, by simp, fun a ha b hb e => ?_⟩, fun q hq => ?_⟩
  · simp at hb
    subst hb
    rw [e] at ha
    exact hn ha
  · rcases List.mem_append.1 hq with h1 | h1
    · exact .inr h1
    · simp at h1
      exact .inl h1

theorem look_own : ∀ (ks : List (Int × Int)), (ks.map Prod.fst).Nodup → ∀ i, i < ks.length → look ks (ks.getD i (0, 0)).1 = (ks.getD i (0, 0)).2
  | [], _, _, h => by simp at h
  | m :: r, hn, 0, _ => by
    show look (m :: r) m.1 = m.2
    unfold look
    rw [if_pos rfl]
  | m :: r, hn, i + 1, h => by
    have hn2 : m.1 ∉ r.map Prod.fst ∧ (r.map Prod.fst).Nodup := List.nodup_cons.1 hn
    have hi : i < r.length := by simpa using h
    show look (m :: r) (r.getD i (0, 0)).1 = (r.getD i (0, 0)).2
    unfold look
    rw [if_neg (fun e => hn2.1 (by rw [e]; exact List.mem_map_of_mem (mem_at hi)))]
    exact look_own r hn2.2 i hi

def PutND (B : Nat) (ks : List (Int × Int)) (p x : Int) (w : World) (e : Ending) (w' : World) : Prop :=
  ∃ v ks' bs', e = .returned v ∧ KV B bs' v ks' w' ∧ (∀ q, look ks' q = upd (look ks) p x q) ∧ ks'.length ≤ ks.length + 1 ∧ (ks'.map Prod.fst).Nodup ∧ (∀ q ∈ ks'.map Prod.fst, q = p ∨ q ∈ ks.map Prod.fst) ∧ Below B w w'

set_option maxHeartbeats 2000000 in
set_option maxRecDepth 100000 in
theorem put_nd {B : Nat} {bs : List Nat} (a : Option Addr) (n c : Nat) (ks : List (Int × Int)) (p x : Int) (w : World) (h : KV B bs (.slice a n c) ks w) (hB : B ≤ w.heap.size) (hn40 : n ≤ 1000) (hnd : (ks.map Prod.fst).Nodup) :
    Calls Tryd.prog 68 #[.slice a n c, .int .i64 p, .int .i64 x] w (PutND B ks p x w) := by
  obtain ⟨hn, hnc, hcm⟩ := h.len_le
  have HN := Lib.hid hn
  have hnm : n ≤ maxLen := Nat.le_trans hnc hcm
  unfold maxLen at hcm hnm
  have HH := Lib.hid h
  have HB := Lib.hid hB
  have R0 : Hid (SeekRel ks n p w (.int .i64 0) w) := Lib.hid ⟨0, Nat.zero_le _, rfl, fun j hj => absurd hj (Nat.not_lt_zero _), rfl⟩
  obtain ⟨i0, hi, hz0, hz1, hz2⟩ := info_parts rowinfoM
  have HI := Lib.hid hi
  have HZ0 := Lib.hid hz0
  have HZ1 := Lib.hid hz1
  have HZ2 := Lib.hid hz2
  have HND := Lib.hid hnd
  clear h hn hB hi hz0 hz1 hz2 hnd
  go_enter Tryd.func68, Tryd.ntmps68
  go_wp2_with fail
  go_loopw [7] (fun si wr => SeekRel ks n p w si wr) (fun si _ => n - (intOf si).toNat)
  case atStart => exact R0.out
  case round =>
    clear R0
    obtain ⟨i, hi, rfl, hno, rfl⟩ := hrel
    by_cases hlt : i < n
    · obtain ⟨g, b, rfl, _, _, _, hbb, cr, c0, c1⟩ := HH.out.cells hlt
      have t1 : decide (i < n) = true := by simpa using hlt
      by_cases hk : (ks.getD i (0, 0)).1 = p
      · have hlk := look_set ks p x i (by rw [← HN.out]; exact hlt) hno hk
        have hst := HH.out.stored (by rw [← HN.out]; exact hlt) hk x
        rw [hbb] at hst
        have hbx := HH.out.at_ i (by rw [← HN.out]; exact hlt)
        rw [hbb] at hbx
        have f1 : w.frozen? ⟨b, 1, none⟩ = false := frozen_of_row w b 1 _ _ hbx
        have hbB : B ≤ b := by
          rw [← hbb]
          have hib : i < bs.length := by rw [HH.out.len, ← HN.out]; exact hlt
          rw [show bs.getD i 0 = bs[i] by simp [List.getD, hib]]
          exact HH.out.base _ (List.getElem_mem hib)
        have FIN : Hid (PutND B ks p x w (.returned (.slice (some ⟨g, 0, none⟩) n c)) (w.setCell ⟨b, 1, none⟩ (.int .i64 x))) := Lib.hid ⟨_, _, _, rfl, hst, hlk, by rw [List.length_set]; omega, by rw [keys_set (by rw [← HN.out]; exact hlt) hk]; exact HND.out, by rw [keys_set (by rw [← HN.out]; exact hlt) hk]; exact fun q hq => .inr hq, ⟨(grown_store w b 1 (.int .i64 x)).os, (grown_store w b 1 (.int .i64 x)).tape, (grown_store w b 1 (.int .i64 x)).output, (grown_store w b 1 (.int .i64 x)).size, fun k hk => heap_setCell_other w ⟨b, 1, none⟩ k _ (fun e => by have : k = b := e; omega)⟩⟩
        rw [hk] at c0
        have t2 : (p == p) = true := by simp
        generalize (ks.getD i (0, 0)).2 = z at *
        clear hk hno hlk hst hbx hbb hbB
        go_wp2_with fail
        go_ret
        exact FIN.out
      · have HNO : Hid (∀ j, j < i + 1 → (ks.getD j (0, 0)).1 ≠ p) := Lib.hid fun j hj => by
          by_cases e : j = i
          · subst e; exact hk
          · exact hno j (by omega)
        generalize (ks.getD i (0, 0)).1 = k at *
        have t2 : (k == p) = false := by simpa using hk
        clear hk hno
        go_wp2_with fail
        go_roundw
        case rel => exact ⟨i + 1, by omega, by go_num, HNO.out, rfl⟩
        case measure => simp [intOf]; omega
    · obtain rfl : i = n := by omega
      have t1 : decide (i < i) = false := by simp
      have HLK := Lib.hid (look_snoc ks p x (fun j hj => hno j (by rw [HN.out]; exact hj)))
      have HKS := Lib.hid (keys_snoc (x := x) HND.out (fun j hj => hno j (by rw [HN.out]; exact hj)))
      have HOW : Hid (w.ownsRow B 26 1 (.slice a i c) i (bs.map fun b => .slice (some ⟨b, 0, none⟩) 2 2)) := Lib.hid (by have := HH.out.own; rw [← HN.out] at this; exact this)
      have HM1 := Lib.hid (show i + 1 ≤ maxLen by unfold maxLen; omega)
      have HM2 := Lib.hid (show (i + 1) * 24 ≤ 140737488355328 by omega)
      have HB3 : Hid (B ≤ ((w.alloc (.cells #[.int .i64 p, .int .i64 x] 3)).alloc (.cells #[.slice (some ⟨w.heap.size, 0, none⟩) 2 2] 26)).heap.size) := Lib.hid (by rw [World.size_alloc, World.size_alloc]; have := HB.out; omega)
      have hnews := cell_one_new (w.alloc (.cells #[.int .i64 p, .int .i64 x] 3)) (.slice (some ⟨w.heap.size, 0, none⟩) 2 2) 26
      rw [World.size_alloc] at hnews
      have HNEWS := Lib.hid hnews
      clear hno hnews
      go_wp2_with (at_builtin; refine wpList_append_own _ rfl (.tmp 29) (.tmp 33) 80 rfl B 26 i0 (.slice none 0 0) 1 24 Tryd.underlying80 HI.out HZ0.out HZ1.out HZ2.out rfl (by decide) (.slice a i c) i _ rfl ((HOW.out.alloc _).alloc _) ⟨w.heap.size + 1, 0, none⟩ 1 1 [.slice (some ⟨w.heap.size, 0, none⟩) 2 2] rfl rfl HNEWS.out (by simp [Value.oneCell']) HM1.out HM2.out HB3.out ?_; intro v5 w5 hown5 hgrow5 hnil5; obtain ⟨va5, vc5, rfl⟩ := own_shapeM hown5; replace hown5 := Lib.hid hown5; replace hgrow5 := Lib.hid hgrow5; clear hnil5)
      go_ret
      exact ⟨_, _, _, rfl, HH.out.more HB.out hgrow5.out (by rw [← HN.out]; exact hown5.out), HLK.out, by simp, HKS.out.1, HKS.out.2, ((((Below.refl _ _).alloc (Nat.le_refl _) _).alloc (by simp) _).mono HB.out).grown hgrow5.out HB3.out (fun z hz => (HOW.out.lt z hz).1)⟩

/-- How many of the first moves go somewhere. -/
def goF (l : List (Int × Int)) : Nat → Nat
  | 0 => 0
  | i + 1 => goF l i + (if (l.getD i (0, 0)).1 = (l.getD i (0, 0)).2 then 0 else 1)
theorem goF_le (l : List (Int × Int)) : ∀ i, goF l i ≤ i
  | 0 => Nat.le_refl _
  | i + 1 => by
    have := goF_le l i
    show goF l i + _ ≤ _
    split <;> omega
theorem cnt_snoc (ks : List Int) (k : Int) (F : Int → Option Int) : cnt (ks ++ [k]) F = cnt ks F + (if (F k).isSome = true then 1 else 0) := by
  unfold cnt
  rw [List.filter_append, List.length_append]
  congr 1
  by_cases h : (F k).isSome = true
  · rw [if_pos h, List.filter_cons, if_pos h]; rfl
  · rw [if_neg h, List.filter_cons, if_neg h]; rfl
theorem goF_cnt (l : List (Int × Int)) (F : Int → Option Int) (hF : ∀ m ∈ l, F m.1 = if m.1 = m.2 then none else some m.2) : ∀ i, i ≤ l.length → goF l i = cnt ((l.take i).map Prod.fst) F
  | 0, _ => rfl
  | i + 1, h => by
    rw [take_next l i h, List.map_append]
    show goF l i + _ = cnt ((l.take i).map Prod.fst ++ [(l.getD i (0, 0)).1]) F
    rw [cnt_snoc, goF_cnt l F hF i (by omega), hF _ (mem_at h)]
    by_cases q : (l.getD i (0, 0)).1 = (l.getD i (0, 0)).2
    · rw [if_pos q, if_pos q]; rfl
    · rw [if_neg q, if_neg q]; rfl
theorem goF_all {l : List (Int × Int)} (hn : (l.map Prod.fst).Nodup) : goF l l.length = cnt (l.map Prod.fst) (begF l).F := by
  rw [goF_cnt l _ (begI l hn).y l.length (Nat.le_refl _), List.take_of_length_le (Nat.le_refl _)]

/-- A list of moves as it comes in. -/
structure Movs (w : World) (a : Option Addr) (len cap : Nat) (gv : Nat → Nat → Int) : Prop where
  le : len ≤ cap
  max : cap ≤ maxLen
  nil : a = none → cap = 0
  cells : ∀ ad, a = some ad → ∀ i j, i < len → j < 2 → w.cell? (ad.add (i * 2 + j)) = some (.int .i64 (gv i j))

def movL (gv : Nat → Nat → Int) (len : Nat) : List (Int × Int) := (List.range len).map fun i => (gv i 0, gv i 1)

theorem movs_any {w : World} {a : Option Addr} {len cap : Nat} {gv : Nat → Nat → Int} (h : Movs w a len cap gv) : MAny w a len cap (movL gv len) := by
  refine ⟨by simp [movL], h.le, h.max, fun hp => ?_⟩
  cases a with
  | none => have h1 := h.nil rfl; have h2 := h.le; omega
  | some ad =>
    obtain ⟨b, off, s⟩ := ad
    have h0 := h.cells _ rfl 0 0 hp (by omega)
    have hs : s = none := by simpa [Addr.add] using World.cell?_spot h0
    subst hs
    have e : ∀ k, (⟨b, off, none⟩ : Addr).add k = ⟨b, off + k, none⟩ := by
      intro k
      unfold Addr.add
      split
      · rename_i h; subst h; rfl
      · rfl
    refine ⟨b, off, rfl, ?_, fun j hj => ?_⟩
    · rw [e] at h0
      exact World.block_lt_of_cell? w _ h0
    · have h1 := h.cells _ rfl j 0 hj (by omega)
      have h2 := h.cells _ rfl j 1 hj (by omega)
      rw [e] at h1 h2
      simp only [movL, List.getD, List.getElem?_map, List.getElem?_range hj]
      exact ⟨h1, h2⟩

theorem movCells : Tryd.prog.cellsOf 108 = 2 := by kernel_rfl
theorem intCellsM : Tryd.prog.cellsOf 3 = 1 := by kernel_rfl

theorem movs_ofT {H : Type} {enc : TypeId × Value → H} {W : World} {base : Nat} {spare : Nat → Bool} {held : Bool} {fuel len cap : Nat} {a : Option Addr} {x : DataW H × List MemPlace}
    (h : DataW.trod enc Tryd.prog W base spare held fuel 103 [.slice a len cap] = some x) : ∃ gv, Movs W a len cap gv := by
  rcases open_slice Tryd.underlying103 h with ⟨hcs, _⟩ | ⟨ad, l, c, m, fl, D, Pl, hcs, _, hl, hm, hmm, _, hel⟩
  · simp at hcs
    obtain ⟨rfl, rfl, rfl⟩ := hcs
    exact ⟨fun _ _ => 0, ⟨Nat.le_refl _, Nat.zero_le _, fun _ => rfl, fun ad h => (by cases h)⟩⟩
  · simp at hcs
    obtain ⟨rfl, rfl, rfl⟩ := hcs
    have hlm : len ≤ m := by rw [hmm]; split <;> omega
    have key : ∀ i j, i < len → j < 2 → ∃ z : Int, W.cell? (ad.add (i * 2 + j)) = some (.int .i64 z) ∧ (Lit.int .i64 z).wf = true := by
      intro i j hi hj
      obtain ⟨cs', hc, ht⟩ := hel i (by omega)
      rw [movCells] at hc
      obtain ⟨xs, n, _, _, hlen, hxl, hf⟩ := DataW.trod_struct Tryd.underlying108 ht
      rw [movCells] at hlen
      obtain ⟨_, hcl, hat⟩ := World.cells?_some hc
      have hcell := hat j hj
      rw [add_add] at hcell
      have fin : ∀ (t : TypeId) (o : Nat), Tryd.prog.underlying t = some (.int .i64) → Tryd.prog.cellsOf t = 1 → o = j → (∃ y, DataW.trod enc Tryd.prog W base spare held n t ((cs'.drop o).take (Tryd.prog.cellsOf t)) = some y) → ∃ z : Int, W.cell? (ad.add (i * 2 + j)) = some (.int .i64 z) ∧ (Lit.int .i64 z).wf = true := by
        rintro t o hu h1 rfl ⟨y, hy⟩
        rw [h1] at hy
        obtain ⟨z, hz, _, hw⟩ := DataW.trod_int hu hy
        refine ⟨z, ?_, hw⟩
        rw [hcell]
        have : (cs'.drop o).take 1 = [cs'[o]'(by omega)] := by
          rw [List.drop_eq_getElem_cons (by omega)]
          rfl
        rw [this] at hz
        rw [List.getElem?_eq_getElem (by omega)]
        simpa using hz
      have hxs : ∀ k, k < 2 → ∃ y, xs[k]? = some y := fun k hk => ⟨_, List.getElem?_eq_getElem (by rw [hxl]; exact hk)⟩
      match j, hj with
      | 0, _ => obtain ⟨y, hy⟩ := hxs 0 (by omega); exact fin _ 0 Tryd.underlying3 intCellsM rfl ⟨y, (hf 0 _ rfl).trans hy⟩
      | 1, _ => obtain ⟨y, hy⟩ := hxs 1 (by omega); exact fin _ 1 Tryd.underlying3 intCellsM rfl ⟨y, (hf 1 _ rfl).trans hy⟩
    refine ⟨fun i j => if h : i < len ∧ j < 2 then (key i j h.1 h.2).choose else 0, ⟨hl, hm, fun e => (by cases e), fun ad' had i j hi hj => ?_⟩⟩
    cases had
    simp only [hi, hj, and_self, dite_true]
    exact (key i j hi hj).choose_spec.1

/-- What Order tells, its two answers named. -/
def OrdD (sa : Nat → Addr) (l : List (Int × Int)) (spare : Int) (B : Nat) (oa : Option Addr) (on oc : Nat) (ev : Value) (w' : World) : Prop :=
  ((isP spare = false ∨ ¬ GoodP l) ∧ on = 0 ∧ ev = errI sa 2) ∨
    (isP spare = true ∧ GoodP l ∧ (¬ (l.map Prod.fst).Nodup ∨ ∃ m ∈ l, m.1 = spare ∨ m.2 = spare) ∧ on = 0 ∧ ev = errI sa 4) ∨
    (isP spare = true ∧ GoodP l ∧ (l.map Prod.fst).Nodup ∧ (∀ m ∈ l, m.1 ≠ spare ∧ m.2 ≠ spare) ∧ ∃ (o : List (Int × Int)) (c : Nat), Told l spare o c ∧ on = o.length ∧ ev = .nilIface ∧ w'.ownsRow B 108 2 (.slice oa on oc) on (mvCells o))

theorem ordD {sa : Nat → Addr} {l : List (Int × Int)} {spare : Int} {w : World} {e : Ending} {w' : World} (h : OrdQ sa l spare w e w') : ∃ oa on oc ev, e = .returned (.tuple #[.slice oa on oc, ev]) ∧ Below w.heap.size w w' ∧ OrdD sa l spare w.heap.size oa on oc ev w' := by
  obtain ⟨hb, ⟨h1, rfl⟩ | ⟨h1, h2, h3, rfl⟩ | ⟨h1, h2, h3, h4, o, c, v, T, rfl, hown⟩⟩ := h
  · exact ⟨none, 0, 0, _, rfl, hb, .inl ⟨h1, rfl, rfl⟩⟩
  · exact ⟨none, 0, 0, _, rfl, hb, .inr (.inl ⟨h1, h2, h3, rfl, rfl⟩)⟩
  · obtain ⟨a, c', rfl⟩ := own_shapeM hown
    exact ⟨a, o.length, c', _, rfl, hb, .inr (.inr ⟨h1, h2, h3, h4, o, c, T, rfl, rfl, hown⟩)⟩

end Go.Proofs.YtflbjfcmnopfaaaDoor

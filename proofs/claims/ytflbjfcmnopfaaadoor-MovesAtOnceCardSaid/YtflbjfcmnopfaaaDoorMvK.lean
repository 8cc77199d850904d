/-
  Moves of a tree: the law's own places and values (at, put).
-/
import Derived.Test.YtflbjfcmnopfaaaDoorMvF
namespace Go.Proofs.YtflbjfcmnopfaaaDoor
open Go.RowKit

theorem rowinfoM : (Tryd.prog.info? 26).map (fun i => (i.zero, i.size, i.bytes)) = some (some (.slice none 0 0), 1, 24) := by kernel_rfl

/-- What a list of places and values says of a place. -/
def look : List (Int × Int) → Int → Int
  | [], p => p
  | m :: r, p => if m.1 = p then m.2 else look r p

theorem look_at : ∀ (ks : List (Int × Int)) (p : Int) (i : Nat), i < ks.length → (∀ j, j < i → (ks.getD j (0, 0)).1 ≠ p) → (ks.getD i (0, 0)).1 = p → look ks p = (ks.getD i (0, 0)).2
  | [], _, _, h, _, _ => by simp at h
  | m :: r, p, 0, _, _, e => by
    unfold look
    rw [if_pos (show m.1 = p from e)]
    rfl
  | m :: r, p, i + 1, h, hn, e => by
    unfold look
    rw [if_neg (show ¬ m.1 = p from hn 0 (by omega))]
    exact look_at r p i (by simpa using h) (fun j hj => hn (j + 1) (by omega)) e

theorem look_none : ∀ (ks : List (Int × Int)) (p : Int), (∀ j, j < ks.length → (ks.getD j (0, 0)).1 ≠ p) → look ks p = p
  | [], _, _ => rfl
  | m :: r, p, h => by
    unfold look
    rw [if_neg (show ¬ m.1 = p from h 0 (by simp))]
    exact look_none r p fun j hj => h (j + 1) (by simpa using hj)

theorem look_snoc : ∀ (ks : List (Int × Int)) (p x : Int), (∀ j, j < ks.length → (ks.getD j (0, 0)).1 ≠ p) → ∀ q, look (ks ++ [(p, x)]) q = upd (look ks) p x q
  | [], p, x, _, q => by
    show look [(p, x)] q = _
    unfold look upd
    by_cases e : q = p
    · subst e; simp
    · rw [if_neg (show ¬ (p, x).1 = q from fun h => e h.symm), if_neg e]
  | m :: r, p, x, h, q => by
    have ih := look_snoc r p x (fun j hj => h (j + 1) (by simpa using hj)) q
    have hm : m.1 ≠ p := h 0 (by simp)
    show look (m :: (r ++ [(p, x)])) q = _
    unfold look
    rw [ih]
    unfold upd
    by_cases e : m.1 = q
    · rw [if_pos e, if_neg (fun h => hm (e.trans h))]
      conv => rhs; unfold look
      rw [if_pos e]
    · rw [if_neg e]
      by_cases e2 : q = p
      · rw [if_pos e2, if_pos e2]
      · rw [if_neg e2, if_neg e2]
        conv => rhs; unfold look
        rw [if_neg e]

theorem look_set : ∀ (ks : List (Int × Int)) (p x : Int) (i : Nat), i < ks.length → (∀ j, j < i → (ks.getD j (0, 0)).1 ≠ p) → (ks.getD i (0, 0)).1 = p → ∀ q, look (ks.set i (p, x)) q = upd (look ks) p x q
  | [], _, _, _, h, _, _, _ => by simp at h
  | m :: r, p, x, 0, _, _, e, q => by
    have e' : m.1 = p := e
    show look ((p, x) :: r) q = _
    unfold look upd
    by_cases e2 : q = p
    · subst e2; rw [if_pos (show (q, x).1 = q from rfl), if_pos rfl]
    · rw [if_neg (show ¬ (p, x).1 = q from fun h => e2 h.symm), if_neg e2]
      conv => rhs; unfold look
      rw [if_neg (fun h => e2 (h.symm.trans e'))]
  | m :: r, p, x, i + 1, h, hn, e, q => by
    have ih := look_set r p x i (by simpa using h) (fun j hj => hn (j + 1) (by omega)) e q
    have hm : m.1 ≠ p := hn 0 (by omega)
    show look (m :: (r.set i (p, x))) q = _
    unfold look
    rw [ih]
    unfold upd
    by_cases e1 : m.1 = q
    · rw [if_pos e1, if_neg (fun h => hm (e1.trans h))]
      conv => rhs; unfold look
      rw [if_pos e1]
    · rw [if_neg e1]
      by_cases e2 : q = p
      · rw [if_pos e2, if_pos e2]
      · rw [if_neg e2, if_neg e2]
        conv => rhs; unfold look
        rw [if_neg e1]

theorem own_typeM {w : World} {B e size n : Nat} {v : Value} {xs : List Value} (h : w.ownsRow B e size v n xs) {g : Nat} (hg : v.ownBlock = some g) : ∃ cur, w.heap[g]? = some (.cells cur e (0, 0)) := by
  rcases h.2 with ⟨rfl, _⟩ | ⟨g', cap, cur, rfl, _, h1, _⟩
  · cases hg
  · have : g' = g := Option.some.inj hg
    subst this
    exact ⟨cur, h1⟩

/-- Places and values in their rows. -/
structure KV (B : Nat) (bs : List Nat) (v : Value) (ks : List (Int × Int)) (w : World) : Prop where
  len : bs.length = ks.length
  nodup : bs.Nodup
  base : ∀ b ∈ bs, B ≤ b
  own : w.ownsRow B 26 1 v ks.length (bs.map fun b => .slice (some ⟨b, 0, none⟩) 2 2)
  at_ : ∀ j, j < ks.length → w.heap[bs.getD j 0]? = some (.cells #[.int .i64 (ks.getD j (0, 0)).1, .int .i64 (ks.getD j (0, 0)).2] 3 (0, 0))

theorem KV.nil (B : Nat) (w : World) : KV B [] (.slice none 0 0) [] w := ⟨rfl, List.nodup_nil, fun _ h => (by cases h), World.ownsRow_nil _ _ _ _, fun j h => absurd h (Nat.not_lt_zero _)⟩

theorem KV.kept {B : Nat} {bs : List Nat} {v : Value} {ks : List (Int × Int)} {w w' : World} (h : KV B bs v ks w) (hk : ∀ k, k < w.heap.size → w'.heap[k]? = w.heap[k]?) : KV B bs v ks w' :=
  ⟨h.len, h.nodup, h.base, owns_stays h.own fun k _ hk2 => hk k hk2, fun j hj => (hk _ (Array.getElem?_eq_some_iff.1 (h.at_ j hj)).1).trans (h.at_ j hj)⟩

theorem KV.cells {B : Nat} {bs : List Nat} {a : Option Addr} {n c : Nat} {ks : List (Int × Int)} {w : World} (h : KV B bs (.slice a n c) ks w) {i : Nat} (hi : i < n) :
    ∃ g b, a = some ⟨g, 0, none⟩ ∧ n = ks.length ∧ n ≤ c ∧ c ≤ maxLen ∧ bs.getD i 0 = b ∧ w.cell? ⟨g, i, none⟩ = some (.slice (some ⟨b, 0, none⟩) 2 2) ∧ w.cell? ⟨b, 0, none⟩ = some (.int .i64 (ks.getD i (0, 0)).1) ∧ w.cell? ⟨b, 1, none⟩ = some (.int .i64 (ks.getD i (0, 0)).2) := by
  rcases h.own.2 with ⟨e, h0⟩ | ⟨g, cap, cur, e, hb, hg, hnc, hcm, hcs, ht⟩
  · cases e; omega
  · cases e
    have hx := h.at_ i hi
    refine ⟨g, bs.getD i 0, rfl, rfl, hnc, hcm, rfl, ?_, ?_, ?_⟩
    · rw [h.own.cellAt i (by omega), List.getElem?_map]
      simp [List.getD, show i < bs.length by rw [h.len]; exact hi]
    · rw [cell_of_row w _ 0 _ _ (0, 0) hx]; rfl
    · rw [cell_of_row w _ 1 _ _ (0, 0) hx]; rfl

theorem KV.len_le {B : Nat} {bs : List Nat} {a : Option Addr} {n c : Nat} {ks : List (Int × Int)} {w : World} (h : KV B bs (.slice a n c) ks w) : n = ks.length ∧ n ≤ c ∧ c ≤ maxLen := by
  rcases h.own.2 with ⟨e, h0⟩ | ⟨g, cap, cur, e, hb, hg, hnc, hcm, hcs, ht⟩
  · cases e; exact ⟨h0.symm, Nat.le_refl _, Nat.zero_le _⟩
  · cases e; exact ⟨rfl, hnc, hcm⟩

def SeekRel (ks : List (Int × Int)) (n : Nat) (p : Int) (w : World) (si : Value) (wr : World) : Prop :=
  ∃ i : Nat, i ≤ n ∧ si = .int .i64 i ∧ (∀ j, j < i → (ks.getD j (0, 0)).1 ≠ p) ∧ w = wr

set_option maxHeartbeats 2000000 in
set_option maxRecDepth 100000 in
theorem at_any {B : Nat} {bs : List Nat} (a : Option Addr) (n c : Nat) (ks : List (Int × Int)) (p : Int) (w : World) (h : KV B bs (.slice a n c) ks w) :
    Calls Tryd.prog 69 #[.slice a n c, .int .i64 p] w fun e w' => e = .returned (.int .i64 (look ks p)) ∧ w = w' := by
  obtain ⟨hn, hnc, hcm⟩ := h.len_le
  have HN := Lib.hid hn
  have hnm : n ≤ maxLen := Nat.le_trans hnc hcm
  unfold maxLen at hcm hnm
  have HH := Lib.hid h
  have R0 : Hid (SeekRel ks n p w (.int .i64 0) w) := Lib.hid ⟨0, Nat.zero_le _, rfl, fun j hj => absurd hj (Nat.not_lt_zero _), rfl⟩
  clear h hn
  go_enter Tryd.func69, Tryd.ntmps69
  go_wp2_with fail
  go_loopw [5] (fun si wr => SeekRel ks n p w si wr) (fun si _ => n - (intOf si).toNat)
  case atStart => exact R0.out
  case round =>
    clear R0
    obtain ⟨i, hi, rfl, hno, rfl⟩ := hrel
    by_cases hlt : i < n
    · obtain ⟨g, b, rfl, _, _, _, _, cr, c0, c1⟩ := HH.out.cells hlt
      have t1 : decide (i < n) = true := by simpa using hlt
      by_cases hk : (ks.getD i (0, 0)).1 = p
      · have hlk := look_at ks p i (by rw [← HN.out]; exact hlt) hno hk
        rw [hk] at c0
        have t2 : (p == p) = true := by simp
        generalize (ks.getD i (0, 0)).2 = z at *
        have HLK := Lib.hid hlk
        clear hk hno hlk
        go_wp2_with fail
        go_ret
        exact ⟨ret_int HLK.out.symm, rfl⟩
      · have HNO : Hid (∀ j, j < i + 1 → (ks.getD j (0, 0)).1 ≠ p) := Lib.hid fun j hj => by
          by_cases e : j = i
          · subst e; exact hk
          · exact hno j (by omega)
        generalize (ks.getD i (0, 0)).1 = k at *
        have t2 : (k == p) = false := by simpa using hk
        clear hk hno
        go_wp2_with fail
        go_roundw
        case rel => exact ⟨i + 1, by omega, by go_num, HNO.out, rfl⟩
        case measure => simp [intOf]; omega
    · obtain rfl : i = n := by omega
      have t1 : decide (i < i) = false := by simp
      have HLK := Lib.hid (look_none ks p (fun j hj => hno j (by rw [HN.out]; exact hj)))
      clear hno
      go_wp2_with fail
      go_ret
      exact ⟨ret_int HLK.out.symm, rfl⟩

/-- The same places at the same blocks, one value new. -/
theorem KV.stored {B : Nat} {bs : List Nat} {v : Value} {ks : List (Int × Int)} {w : World} (h : KV B bs v ks w) {i : Nat} (hi : i < ks.length) {p : Int} (hp : (ks.getD i (0, 0)).1 = p) (x : Int) : KV B bs v (ks.set i (p, x)) (w.setCell ⟨bs.getD i 0, 1, none⟩ (.int .i64 x)) := by
  have hib : i < bs.length := by rw [h.len]; exact hi
  have hbi := h.at_ i hi
  have hne : ∀ k, k ≠ bs.getD i 0 → (w.setCell ⟨bs.getD i 0, 1, none⟩ (.int .i64 x)).heap[k]? = w.heap[k]? := fun k hk => heap_setCell_other w ⟨bs.getD i 0, 1, none⟩ k _ (fun e => hk e)
  refine ⟨by rw [List.length_set]; exact h.len, h.nodup, h.base, ?_, fun j hj => ?_⟩
  · rw [List.length_set]
    refine ⟨h.own.1, ?_⟩
    rcases h.own.2 with h2 | ⟨g, cap, cur, hv, hb, hg, h3⟩
    · exact .inl h2
    · refine .inr ⟨g, cap, cur, hv, hb, (hne g (fun e => ?_)).trans hg, h3⟩
      rw [e, hbi] at hg
      cases hg
  · rw [List.length_set] at hj
    by_cases e : j = i
    · subst e
      rw [heap_setCell_same w (bs.getD j 0) 1 _ 3 _ hbi]
      have e2 : (ks.set j (p, x)).getD j (0, 0) = (p, x) := by simp [List.getD, hj]
      rw [e2, hp]
      rfl
    · have hjb : j < bs.length := by rw [h.len]; exact hj
      have e2 : (ks.set i (p, x)).getD j (0, 0) = ks.getD j (0, 0) := by simp [List.getD, show ¬ i = j from fun q => e q.symm]
      rw [e2, hne _ (fun q => ?_)]
      · exact h.at_ j hj
      · rw [show bs.getD j 0 = bs[j] by simp [List.getD, hjb], show bs.getD i 0 = bs[i] by simp [List.getD, hib]] at q
        rcases Nat.lt_or_gt_of_ne e with h1 | h1
        · exact List.pairwise_iff_getElem.1 h.nodup _ _ hjb hib h1 q
        · exact List.pairwise_iff_getElem.1 h.nodup _ _ hib hjb h1 q.symm

/-- One place more. -/
theorem KV.more {B : Nat} {bs : List Nat} {v v5 : Value} {ks : List (Int × Int)} {w w5 : World} {o2 : Obj} {p x : Int} (h : KV B bs v ks w) (hB : B ≤ w.heap.size)
    (h5 : ((w.alloc (.cells #[.int .i64 p, .int .i64 x] 3)).alloc o2).grownBy w5 v.ownBlock) (ho : w5.ownsRow B 26 1 v5 (ks.length + 1) ((bs.map fun b => .slice (some ⟨b, 0, none⟩) 2 2) ++ [.slice (some ⟨w.heap.size, 0, none⟩) 2 2])) :
    KV B (bs ++ [w.heap.size]) v5 (ks ++ [(p, x)]) w5 := by
  have hlt : ∀ b ∈ bs, b < w.heap.size := fun b hb => by
    obtain ⟨j, hj, rfl⟩ := List.getElem_of_mem hb
    have := h.at_ j (by rw [← h.len]; exact hj)
    rw [show bs.getD j 0 = bs[j] by simp [List.getD, hj]] at this
    exact (Array.getElem?_eq_some_iff.1 this).1
  have hk : ∀ (k : Nat) (c : Array Value), w.heap[k]? = some (Obj.cells c 3 (0, 0)) → w5.heap[k]? = some (Obj.cells c 3 (0, 0)) := fun k c hc => by
    have hl := (Array.getElem?_eq_some_iff.1 hc).1
    rw [h5.block k (by rw [World.size_alloc, World.size_alloc]; omega) (fun e => ?_), Below.heap_alloc _ _ _ (by rw [World.size_alloc]; omega), Below.heap_alloc _ _ _ hl]
    · exact hc
    · obtain ⟨cur, hcur⟩ := own_typeM h.own e.symm
      rw [hc] at hcur
      cases hcur
  refine ⟨by simp [h.len], ?_, fun b hb => ?_, ?_, fun j hj => ?_⟩
  · rw [List.nodup_append]
    refine ⟨h.nodup, by simp, fun a ha b hb e => ?_⟩
    simp at hb
    have := hlt a ha
    omega
  · rcases List.mem_append.1 hb with h1 | h1
    · exact h.base b h1
    · simp at h1
      omega
  · rw [List.map_append, List.length_append]
    exact ho
  · rw [List.length_append] at hj
    by_cases hjk : j < ks.length
    · have e1 : (bs ++ [w.heap.size]).getD j 0 = bs.getD j 0 := by simp [List.getD, List.getElem?_append, show j < bs.length by rw [h.len]; exact hjk]
      have e2 : (ks ++ [(p, x)]).getD j (0, 0) = ks.getD j (0, 0) := by simp [List.getD, List.getElem?_append, hjk]
      rw [e1, e2]
      exact hk _ _ (h.at_ j hjk)
    · have hj2 : j = ks.length := by simp at hj; omega
      subst hj2
      have e1 : (bs ++ [w.heap.size]).getD ks.length 0 = w.heap.size := by rw [← h.len]; simp [List.getD]
      have e2 : (ks ++ [(p, x)]).getD ks.length (0, 0) = (p, x) := by simp [List.getD]
      rw [e1, e2]
      rw [h5.block w.heap.size (by rw [World.size_alloc, World.size_alloc]; omega) (fun e => ?_), Below.heap_alloc _ _ _ (by rw [World.size_alloc]; omega)]
      · exact heap_alloc_new _ _
      · have := (h.own.lt _ e.symm).2
        omega

def PutKV (B : Nat) (ks : List (Int × Int)) (p x : Int) (w : World) (e : Ending) (w' : World) : Prop :=
  ∃ v ks' bs', e = .returned v ∧ KV B bs' v ks' w' ∧ (∀ q, look ks' q = upd (look ks) p x q) ∧ ks'.length ≤ ks.length + 1 ∧ Below B w w'

set_option maxHeartbeats 2000000 in
set_option maxRecDepth 100000 in
theorem put_any {B : Nat} {bs : List Nat} (a : Option Addr) (n c : Nat) (ks : List (Int × Int)) (p x : Int) (w : World) (h : KV B bs (.slice a n c) ks w) (hB : B ≤ w.heap.size) (hn40 : n ≤ 1000) :
    Calls Tryd.prog 68 #[.slice a n c, .int .i64 p, .int .i64 x] w (PutKV B ks p x w) := by
  obtain ⟨hn, hnc, hcm⟩ := h.len_le
  have HN := Lib.hid hn
  have hnm : n ≤ maxLen := Nat.le_trans hnc hcm
  unfold maxLen at hcm hnm
  have HH := Lib.hid h
  have HB := Lib.hid hB
  have R0 : Hid (SeekRel ks n p w (.int .i64 0) w) := Lib.hid ⟨0, Nat.zero_le _, rfl, fun j hj => absurd hj (Nat.not_lt_zero _), rfl⟩
  obtain ⟨i0, hi, hz0, hz1, hz2⟩ := info_parts rowinfoM
  have HI := Lib.hid hi
  have HZ0 := Lib.hid hz0
  have HZ1 := Lib.hid hz1
  have HZ2 := Lib.hid hz2
  clear h hn hB hi hz0 hz1 hz2
  go_enter Tryd.func68, Tryd.ntmps68
  go_wp2_with fail
  go_loopw [7] (fun si wr => SeekRel ks n p w si wr) (fun si _ => n - (intOf si).toNat)
  case atStart => exact R0.out
  case round =>
    clear R0
    obtain ⟨i, hi, rfl, hno, rfl⟩ := hrel
    by_cases hlt : i < n
    · obtain ⟨g, b, rfl, _, _, _, hbb, cr, c0, c1⟩ := HH.out.cells hlt
      have t1 : decide (i < n) = true := by simpa using hlt
      by_cases hk : (ks.getD i (0, 0)).1 = p
      · have hlk := look_set ks p x i (by rw [← HN.out]; exact hlt) hno hk
        have hst := HH.out.stored (by rw [← HN.out]; exact hlt) hk x
        rw [hbb] at hst
        have hbx := HH.out.at_ i (by rw [← HN.out]; exact hlt)
        rw [hbb] at hbx
        have f1 : w.frozen? ⟨b, 1, none⟩ = false := frozen_of_row w b 1 _ _ hbx
        have hbB : B ≤ b := by
          rw [← hbb]
          have hib : i < bs.length := by rw [HH.out.len, ← HN.out]; exact hlt
          rw [show bs.getD i 0 = bs[i] by simp [List.getD, hib]]
          exact HH.out.base _ (List.getElem_mem hib)
        have FIN : Hid (PutKV B ks p x w (.returned (.slice (some ⟨g, 0, none⟩) n c)) (w.setCell ⟨b, 1, none⟩ (.int .i64 x))) := Lib.hid ⟨_, _, _, rfl, hst, hlk, by rw [List.length_set]; omega, ⟨(grown_store w b 1 (.int .i64 x)).os, (grown_store w b 1 (.int .i64 x)).tape, (grown_store w b 1 (.int .i64 x)).output, (grown_store w b 1 (.int .i64 x)).size, fun k hk => heap_setCell_other w ⟨b, 1, none⟩ k _ (fun e => by have : k = b := e; omega)⟩⟩
        rw [hk] at c0
        have t2 : (p == p) = true := by simp
        generalize (ks.getD i (0, 0)).2 = z at *
        clear hk hno hlk hst hbx hbb hbB
        go_wp2_with fail
        go_ret
        exact FIN.out
      · have HNO : Hid (∀ j, j < i + 1 → (ks.getD j (0, 0)).1 ≠ p) := Lib.hid fun j hj => by
          by_cases e : j = i
          · subst e; exact hk
          · exact hno j (by omega)
        generalize (ks.getD i (0, 0)).1 = k at *
        have t2 : (k == p) = false := by simpa using hk
        clear hk hno
        go_wp2_with fail
        go_roundw
        case rel => exact ⟨i + 1, by omega, by go_num, HNO.out, rfl⟩
        case measure => simp [intOf]; omega
    · obtain rfl : i = n := by omega
      have t1 : decide (i < i) = false := by simp
      have HLK := Lib.hid (look_snoc ks p x (fun j hj => hno j (by rw [HN.out]; exact hj)))
      have HOW : Hid (w.ownsRow B 26 1 (.slice a i c) i (bs.map fun b => .slice (some ⟨b, 0, none⟩) 2 2)) := Lib.hid (by have := HH.out.own; rw [← HN.out] at this; exact this)
      have HM1 := Lib.hid (show i + 1 ≤ maxLen by unfold maxLen; omega)
      have HM2 := Lib.hid (show (i + 1) * 24 ≤ 140737488355328 by omega)
      have HB3 : Hid (B ≤ ((w.alloc (.cells #[.int .i64 p, .int .i64 x] 3)).alloc (.cells #[.slice (some ⟨w.heap.size, 0, none⟩) 2 2] 26)).heap.size) := Lib.hid (by rw [World.size_alloc, World.size_alloc]; have := HB.out; omega)
      have hnews := cell_one_new (w.alloc (.cells #[.int .i64 p, .int .i64 x] 3)) (.slice (some ⟨w.heap.size, 0, none⟩) 2 2) 26
      rw [World.size_alloc] at hnews
      have HNEWS := Lib.hid hnews
      clear hno hnews
      go_wp2_with (at_builtin; refine wpList_append_own _ rfl (.tmp 29) (.tmp 33) 80 rfl B 26 i0 (.slice none 0 0) 1 24 Tryd.underlying80 HI.out HZ0.out HZ1.out HZ2.out rfl (by decide) (.slice a i c) i _ rfl ((HOW.out.alloc _).alloc _) ⟨w.heap.size + 1, 0, none⟩ 1 1 [.slice (some ⟨w.heap.size, 0, none⟩) 2 2] rfl rfl HNEWS.out (by simp [Value.oneCell']) HM1.out HM2.out HB3.out ?_; intro v5 w5 hown5 hgrow5 hnil5; obtain ⟨va5, vc5, rfl⟩ := own_shapeM hown5; replace hown5 := Lib.hid hown5; replace hgrow5 := Lib.hid hgrow5; clear hnil5)
      go_ret
      exact ⟨_, _, _, rfl, HH.out.more HB.out hgrow5.out (by rw [← HN.out]; exact hown5.out), HLK.out, by simp, ((((Below.refl _ _).alloc (Nat.le_refl _) _).alloc (by simp) _).mono HB.out).grown hgrow5.out HB3.out (fun z hz => (HOW.out.lt z hz).1)⟩

end Go.Proofs.YtflbjfcmnopfaaaDoor

/-
  Moves of a tree, plainly: all are done, in an order that loses nothing.
-/
import Derived.Test.YtflbjfcmnopfaaaDoorMvC
namespace Go.Proofs.YtflbjfcmnopfaaaDoor
open Go.RowKit

/-- How many pending places ask for this one. -/
def cntA (ks : List Int) (F : Int → Option Int) (x : Int) : Nat := (ks.filter fun y => decide (F y = some x)).length

theorem cntA_same (ks : List Int) (F : Int → Option Int) (t : Int) (v : Option Int) (x : Int) (h : t ∉ ks) : cntA ks (upd F t v) x = cntA ks F x := by
  unfold cntA
  congr 1
  apply List.filter_congr
  intro y hy
  rw [upd_other F v (fun e => h (by rw [← e]; exact hy))]

theorem cntA_cons (k : Int) (r : List Int) (G : Int → Option Int) (z : Int) : cntA (k :: r) G z = (if G k = some z then 1 else 0) + cntA r G z := by
  unfold cntA
  rw [List.filter_cons]
  by_cases h : G k = some z
  · rw [if_pos h, if_pos (by simpa using h), List.length_cons]
    omega
  · rw [if_neg h, if_neg (by simpa using h)]
    omega

theorem cntA_del (ks : List Int) (F : Int → Option Int) (t a x : Int) (hn : ks.Nodup) (hm : t ∈ ks) (hf : F t = some a) : cntA ks (upd F t none) x + (if x = a then 1 else 0) = cntA ks F x := by
  induction ks with
  | nil => cases hm
  | cons k r ih =>
    have hkr := (List.nodup_cons.1 hn).1
    have hr := (List.nodup_cons.1 hn).2
    rw [cntA_cons, cntA_cons]
    by_cases hk : k = t
    · subst hk
      rw [upd_same, cntA_same r F k none x hkr, hf]
      by_cases e : x = a
      · subst e
        rw [if_pos rfl, if_pos rfl, if_neg (by simp)]
        omega
      · rw [if_neg e, if_neg (by simp), if_neg (fun q => e (Option.some.inj q).symm)]
        omega
    · have hmr : t ∈ r := by
        rcases List.mem_cons.1 hm with h | h
        · exact absurd h.symm hk
        · exact h
      have ih2 := ih hr hmr
      rw [upd_other F none hk]
      generalize (if F k = some x then 1 else 0) = u
      generalize (if x = a then 1 else 0) = v at *
      omega

theorem cntA_zero {ks : List Int} {F : Int → Option Int} {x : Int} (h : cntA ks F x = 0) : ∀ y ∈ ks, F y ≠ some x := by
  intro y hy e
  unfold cntA at h
  have := List.length_eq_zero_iff.1 h
  have hm : y ∈ ks.filter fun y => decide (F y = some x) := List.mem_filter.2 ⟨hy, by simpa using e⟩
  rw [this] at hm
  cases hm
theorem cntA_pos {ks : List Int} {F : Int → Option Int} {x : Int} (h : 0 < cntA ks F x) : ∃ y ∈ ks, F y = some x := by
  unfold cntA at h
  obtain ⟨y, hy⟩ := List.exists_mem_of_length_pos h
  exact ⟨y, (List.mem_filter.1 hy).1, by simpa using (List.mem_filter.1 hy).2⟩

/-- What moves done one after the other leave. -/
def valM (l : List (Int × Int)) : Int → Int := l.foldl (fun V m => upd V m.1 (V m.2)) (fun x => x)
theorem valM_next (l : List (Int × Int)) (t f : Int) : valM (l ++ [(t, f)]) = upd (valM l) t (valM l f) := by
  unfold valM
  rw [List.foldl_append]
  rfl

structure Ord (ks : List Int) (F0 : Int → Option Int) (s : MSt) : Prop where
  sub : ∀ x v, s.F x = some v → F0 x = some v
  asked : ∀ x, s.A x = (cntA ks s.F x : Int)
  live : ∀ y v, s.F y = some v → F0 v = none ∨ (s.F v).isSome = true
  pend : ∀ y, (F0 y = none ∨ (s.F y).isSome = true) → valM s.out y = y
  done : ∀ y v, F0 y = some v → s.F y = none → valM s.out y = v
  num : s.out.length + cnt ks s.F = cnt ks F0
  dest : ∀ m ∈ s.out, (F0 m.1).isSome = true

theorem cnt_del_eq (ks : List Int) (F : Int → Option Int) (t : Int) (hn : ks.Nodup) (hm : t ∈ ks) (hf : (F t).isSome = true) : cnt ks (upd F t none) + 1 = cnt ks F := by
  induction ks with
  | nil => cases hm
  | cons k r ih =>
    have hkr := (List.nodup_cons.1 hn).1
    have hr := (List.nodup_cons.1 hn).2
    by_cases hk : k = t
    · subst hk
      have e : cnt r (upd F k none) = cnt r F := by
        unfold cnt
        congr 1
        apply List.filter_congr
        intro y hy
        rw [upd_other F none (fun e => hkr (by rw [← e]; exact hy))]
      unfold cnt at e ⊢
      rw [List.filter_cons, upd_same, if_neg (by simp), List.filter_cons, if_pos hf, List.length_cons, e]
    · have hmr : t ∈ r := by
        rcases List.mem_cons.1 hm with h | h
        · exact absurd h.symm hk
        · exact h
      have ih2 := ih hr hmr
      unfold cnt at ih2 ⊢
      rw [List.filter_cons, List.filter_cons, upd_other F none hk]
      split
      · rw [List.length_cons, List.length_cons]
        omega
      · exact ih2

theorem ord_do {ks : List Int} {F0 : Int → Option Int} {s : MSt} {t a : Int} (hn : ks.Nodup) (hk : ∀ x, (F0 x).isSome = true → x ∈ ks) (hne : ∀ x, F0 x ≠ some x) (h : Ord ks F0 s) (hf : s.F t = some a) (ha : ¬ 0 < s.A t) : Ord ks F0 (doS s t a) := by
  have h0 : F0 t = some a := h.sub t a hf
  have htk : t ∈ ks := hk t (by rw [h0]; rfl)
  have hz : cntA ks s.F t = 0 := by have := h.asked t; omega
  have hno := cntA_zero hz
  have hta : a ≠ t := fun e => hne t (by rw [h0, e])
  refine ⟨fun x v hx => ?_, fun x => ?_, fun y v hy => ?_, fun y hy => ?_, fun y v hy hd => ?_, ?_, fun m hm => ?_⟩
  · by_cases e : x = t
    · subst e
      have : upd s.F x none x = some v := hx
      rw [upd_same] at this
      cases this
    · exact h.sub x v (by rw [← upd_other s.F none e]; exact hx)
  · show upd s.A a (s.A a - 1) x = (cntA ks (upd s.F t none) x : Int)
    have hd := cntA_del ks s.F t a x hn htk hf
    have hx := h.asked x
    by_cases e : x = a
    · subst e
      rw [if_pos rfl] at hd
      rw [upd_same]
      omega
    · rw [if_neg e] at hd
      rw [upd_other s.A _ e]
      omega
  · have hyt : y ≠ t := fun e => by
      subst e
      have : upd s.F y none y = some v := hy
      rw [upd_same] at this
      cases this
    have hy2 : s.F y = some v := by rw [← upd_other s.F none hyt]; exact hy
    have hvt : v ≠ t := fun e => by
      subst e
      exact hno y (hk y (by rw [h.sub y v hy2]; rfl)) hy2
    rcases h.live y v hy2 with h1 | h1
    · exact .inl h1
    · exact .inr (by show (upd s.F t none v).isSome = true; rw [upd_other s.F none hvt]; exact h1)
  · have hyt : y ≠ t := fun e => by
      subst e
      rcases hy with h1 | h1
      · rw [h0] at h1; cases h1
      · have : (upd s.F y none y).isSome = true := h1
        rw [upd_same] at this
        cases this
    show valM (s.out ++ [(t, a)]) y = y
    rw [valM_next, upd_other _ _ hyt]
    refine h.pend y ?_
    rcases hy with h1 | h1
    · exact .inl h1
    · exact .inr (by rw [← upd_other s.F none hyt]; exact h1)
  · show valM (s.out ++ [(t, a)]) y = v
    rw [valM_next]
    by_cases e : y = t
    · subst e
      rw [upd_same]
      rw [h0] at hy
      cases hy
      exact h.pend a (h.live y a hf)
    · rw [upd_other _ _ e]
      exact h.done y v hy (by rw [← upd_other s.F none e]; exact hd)
  · show (s.out ++ [(t, a)]).length + cnt ks (upd s.F t none) = cnt ks F0
    have := cnt_del_eq ks s.F t hn htk (by rw [hf]; rfl)
    have := h.num
    rw [List.length_append]
    simp
    omega
  · have hm2 : m ∈ s.out ++ [(t, a)] := hm
    rcases List.mem_append.1 hm2 with h1 | h1
    · exact h.dest m h1
    · simp at h1
      subst h1
      show (F0 t).isSome = true
      rw [h0]
      rfl

def Blk (s : MSt) (x : Int) : Prop := s.F x = none ∨ 0 < s.A x

theorem ord_doF {ks : List Int} {F0 : Int → Option Int} (hn : ks.Nodup) (hk : ∀ x, (F0 x).isSome = true → x ∈ ks) (hne : ∀ x, F0 x ≠ some x) : ∀ (n : Nat) (s : MSt) (t : Int), Ord ks F0 s → cnt ks s.F ≤ n → Ord ks F0 (doF n s t) ∧ Blk (doF n s t) t ∧ (∀ x, Blk s x → Blk (doF n s t) x)
  | 0, s, t, h, hc => by
    refine ⟨h, .inl ?_, fun _ hx => hx⟩
    cases hf : s.F t with
    | none => exact hf
    | some v =>
      have := cnt_del ks s.F t (hk t (by rw [h.sub t v hf]; rfl)) (by rw [hf]; rfl)
      omega
  | n + 1, s, t, h, hc => by
    cases hf : s.F t with
    | none => rw [do_none _ s t hf]; exact ⟨h, .inl hf, fun _ hx => hx⟩
    | some a =>
      by_cases ha : 0 < s.A t
      · rw [doF_stop hf ha]; exact ⟨h, .inr ha, fun _ hx => hx⟩
      · have htk : t ∈ ks := hk t (by rw [h.sub t a hf]; rfl)
        obtain ⟨k, hk1, he, hck⟩ := doF_go htk hf ha hc
        obtain rfl : k = n := by omega
        rw [he]
        obtain ⟨i1, i2, i3⟩ := ord_doF hn hk hne k (doS s t a) a (ord_do hn hk hne h hf ha) hck
        refine ⟨i1, i3 t (.inl (upd_same s.F t none)), fun x hx => ?_⟩
        by_cases e : x = a
        · subst e; exact i2
        · refine i3 x ?_
          rcases hx with h1 | h1
          · refine .inl ?_
            show upd s.F t none x = none
            unfold upd
            split
            · rfl
            · exact h1
          · refine .inr ?_
            show 0 < upd s.A a (s.A a - 1) x
            rw [upd_other s.A _ e]
            exact h1

theorem ord_free {ks : List Int} {F0 : Int → Option Int} (hn : ks.Nodup) (hk : ∀ x, (F0 x).isSome = true → x ∈ ks) (hne : ∀ x, F0 x ≠ some x) (N : Nat) (hN : ks.length ≤ N) : ∀ (l : List (Int × Int)) (s : MSt), Ord ks F0 s → Ord ks F0 (freeF N l s) ∧ (∀ m ∈ l, Blk (freeF N l s) m.1) ∧ (∀ x, Blk s x → Blk (freeF N l s) x)
  | [], s, h => ⟨h, fun m hm => (by cases hm), fun _ hx => hx⟩
  | m :: r, s, h => by
    obtain ⟨i1, i2, i3⟩ := ord_doF hn hk hne N s m.1 h (Nat.le_trans (cnt_le _ _) hN)
    obtain ⟨j1, j2, j3⟩ := ord_free hn hk hne N hN r (doF N s m.1) i1
    have e : freeF N (m :: r) s = freeF N r (doF N s m.1) := rfl
    rw [e]
    refine ⟨j1, fun q hq => ?_, fun x hx => j3 x (i3 x hx)⟩
    rcases List.mem_cons.1 hq with rfl | h2
    · exact j3 _ i2
    · exact j2 q h2

/-- The first pass: all moves are pending, each asked for as often as it is. -/
theorem beg_all (l : List (Int × Int)) (hn : (l.map Prod.fst).Nodup) (hne : ∀ m ∈ l, m.1 ≠ m.2) : ∀ i, i ≤ l.length → ∃ s, (l.take i).foldl begS ⟨fun _ => none, fun _ => 0, []⟩ = s ∧ s.out = [] ∧ (∀ j, j < i → s.F (l.getD j (0, 0)).1 = some (l.getD j (0, 0)).2) ∧ (∀ x, x ∉ (l.take i).map Prod.fst → s.F x = none) ∧ ∀ x, s.A x = (cntA ((l.take i).map Prod.fst) s.F x : Int)
  | 0, _ => ⟨_, rfl, rfl, fun j hj => absurd hj (Nat.not_lt_zero _), fun _ _ => rfl, fun _ => rfl⟩
  | i + 1, h => by
    obtain ⟨s, e, h1, h2, h3, h4⟩ := beg_all l hn hne i (by omega)
    have hi : i < l.length := h
    have hm : l.getD i (0, 0) ∈ l := by simp [List.getD, hi]
    have hnot : (l.getD i (0, 0)).1 ∉ (l.take i).map Prod.fst := by
      intro hc
      have e2 : l.map Prod.fst = (l.take i).map Prod.fst ++ (l.drop i).map Prod.fst := by rw [← List.map_append, List.take_append_drop]
      rw [e2] at hn
      have hd : (l.getD i (0, 0)).1 ∈ (l.drop i).map Prod.fst := by
        refine List.mem_map_of_mem ?_
        rw [List.drop_eq_getElem_cons hi, show l.getD i (0, 0) = l[i] by simp [List.getD, hi]]
        exact List.mem_cons_self
      exact absurd rfl ((List.nodup_append.1 hn).2.2 _ hc _ hd)
    have hlt : ∀ j, j < i → (l.getD j (0, 0)).1 ∈ (l.take i).map Prod.fst := fun j hj => by
      refine List.mem_map_of_mem ?_
      have hjl : j < (l.take i).length := by rw [List.length_take]; omega
      have : l.getD j (0, 0) = (l.take i)[j] := by simp [List.getD, show j < l.length by omega]
      rw [this]
      exact List.getElem_mem hjl
    have hxy := hne _ hm
    rw [take_next l i hi]
    generalize hmm : l.getD i (0, 0) = m at *
    obtain ⟨x, y⟩ := m
    dsimp only at hnot hxy
    have e3 : begS s (x, y) = ⟨upd s.F x (some y), upd s.A y (s.A y + 1), s.out⟩ := by unfold begS; rw [if_neg hxy]
    refine ⟨⟨upd s.F x (some y), upd s.A y (s.A y + 1), s.out⟩, by rw [List.foldl_append, e]; exact e3, h1, fun j hj => ?_, fun z hz => ?_, fun z => ?_⟩
    · by_cases hji : j = i
      · subst hji
        rw [hmm]
        exact upd_same _ _ _
      · have hj2 := hlt j (by omega)
        show upd s.F x (some y) (l.getD j (0, 0)).1 = _
        rw [upd_other s.F _ (fun e => hnot (by rw [← e]; exact hj2))]
        exact h2 j (by omega)
    · rw [List.map_append] at hz
      have hz2 : z ≠ x ∧ z ∉ (l.take i).map Prod.fst := by
        constructor
        · intro e; subst e; exact hz (by simp)
        · intro e; exact hz (List.mem_append_left _ e)
      show upd s.F x (some y) z = none
      rw [upd_other s.F _ hz2.1]
      exact h3 z hz2.2
    · have ea : cntA ((l.take i ++ [(x, y)]).map Prod.fst) (upd s.F x (some y)) z = cntA ((l.take i).map Prod.fst) s.F z + (if y = z then 1 else 0) := by
        rw [List.map_append]
        have e4 : cntA ((l.take i).map Prod.fst ++ [x]) (upd s.F x (some y)) z = cntA ((l.take i).map Prod.fst) (upd s.F x (some y)) z + (if y = z then 1 else 0) := by
          unfold cntA
          rw [List.filter_append, List.length_append]
          congr 1
          rw [List.filter_cons, upd_same]
          split
          · rename_i q
            have q2 : y = z := by simpa using q
            rw [if_pos q2]
            rfl
          · rename_i q
            have q2 : ¬ y = z := by simpa using q
            rw [if_neg q2]
            rfl
        exact e4.trans (by rw [cntA_same _ _ _ _ _ hnot])
      show upd s.A y (s.A y + 1) z = (cntA ((l.take i ++ [(x, y)]).map Prod.fst) (upd s.F x (some y)) z : Int)
      rw [ea]
      unfold upd
      split
      · rename_i q
        subst q
        rw [if_pos rfl, h4]
        push_cast
        omega
      · rename_i q
        rw [if_neg (fun e => q e.symm), h4]
        push_cast
        omega

end Go.Proofs.YtflbjfcmnopfaaaDoor

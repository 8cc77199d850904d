/-
  Moves, plainly: what moves.order tells of any moves whose places are laid once: they do what is done at once, by one more for each round.
-/
import Derived.Test.YtflbjfcmnopfaaaDoorMvU
namespace Go.Proofs.YtflbjfcmnopfaaaDoor
open Go.RowKit

/-- Where one comes from a place in so many moves. -/
def itO (F : Int → Option Int) : Nat → Int → Option Int
  | 0, x => some x
  | n + 1, x => (F x).bind (itO F n)
def Orb (F : Int → Option Int) (x y : Int) : Prop := ∃ k, itO F k x = some y
def Cyc (F : Int → Option Int) (x : Int) : Prop := ∃ k, 0 < k ∧ itO F k x = some x

section
variable {F : Int → Option Int}
theorem itO_add (a b : Nat) : ∀ x, itO F (a + b) x = (itO F a x).bind (itO F b) := by
  induction a with
  | zero => intro x; rw [Nat.zero_add]; rfl
  | succ a ih =>
    intro x
    rw [show a + 1 + b = (a + b) + 1 by omega]
    unfold itO
    cases F x with
    | none => rfl
    | some y => exact ih y
theorem itO_one (x : Int) : itO F 1 x = F x := by
  unfold itO
  cases F x <;> rfl
theorem itO_last (n : Nat) (x : Int) : itO F (n + 1) x = (itO F n x).bind F := by
  rw [itO_add]
  cases itO F n x with
  | none => rfl
  | some y => exact itO_one y
theorem Orb.refl (x : Int) : Orb F x x := ⟨0, rfl⟩
theorem Orb.trans {x y z : Int} (h : Orb F x y) (g : Orb F y z) : Orb F x z := by
  obtain ⟨a, ha⟩ := h
  obtain ⟨b, hb⟩ := g
  exact ⟨a + b, by rw [itO_add, ha]; exact hb⟩
theorem Orb.step {x y : Int} (h : F x = some y) : Orb F x y := ⟨1, by rw [itO_one, h]⟩
theorem Cyc.has {x : Int} (h : Cyc F x) : ∃ y, F x = some y := by
  obtain ⟨k, h0, h⟩ := h
  obtain ⟨j, rfl⟩ : ∃ j, k = j + 1 := ⟨k - 1, by omega⟩
  unfold itO at h
  cases hf : F x with
  | none => rw [hf] at h; cases h
  | some y => exact ⟨y, rfl⟩
theorem Cyc.next {x y : Int} (h : Cyc F x) (hf : F x = some y) : Cyc F y ∧ Orb F y x := by
  obtain ⟨k, h0, h⟩ := h
  obtain ⟨j, rfl⟩ : ∃ j, k = j + 1 := ⟨k - 1, by omega⟩
  unfold itO at h
  rw [hf] at h
  have h2 : itO F j y = some x := h
  exact ⟨⟨j + 1, by omega, by rw [itO_last, h2]; exact hf⟩, ⟨j, h2⟩⟩
theorem Cyc.go {x : Int} (h : Cyc F x) : ∀ (k : Nat) (y : Int), itO F k x = some y → Cyc F y ∧ Orb F y x
  | 0, y, e => by cases e; exact ⟨h, Orb.refl _⟩
  | k + 1, y, e => by
    rw [itO_last] at e
    cases hz : itO F k x with
    | none => rw [hz] at e; cases e
    | some z =>
      rw [hz] at e
      obtain ⟨h1, h2⟩ := h.go k z hz
      obtain ⟨h3, h4⟩ := h1.next e
      exact ⟨h3, h4.trans h2⟩
theorem Cyc.orb {x y : Int} (h : Cyc F x) (o : Orb F x y) : Cyc F y ∧ Orb F y x := by
  obtain ⟨k, e⟩ := o
  exact h.go k y e
theorem Cyc.pred {x : Int} (h : Cyc F x) : ∃ p, Cyc F p ∧ F p = some x := by
  have hc := h
  obtain ⟨k, h0, h⟩ := h
  obtain ⟨j, rfl⟩ : ∃ j, k = j + 1 := ⟨k - 1, by omega⟩
  rw [itO_last] at h
  cases hz : itO F j x with
  | none => rw [hz] at h; cases h
  | some z =>
    rw [hz] at h
    exact ⟨z, (hc.go j z hz).1, h⟩
end

/-- The second pass keeps what goes round. -/
structure OrdC (ks : List Int) (F0 : Int → Option Int) (s : MSt) : Prop where
  o : Ord ks F0 s
  c : ∀ x, Cyc F0 x → (s.F x).isSome = true

theorem ordC_do {ks : List Int} {F0 : Int → Option Int} {s : MSt} {t a : Int} (hn : ks.Nodup) (hk : ∀ x, (F0 x).isSome = true → x ∈ ks) (hne : ∀ x, F0 x ≠ some x) (h : OrdC ks F0 s) (hf : s.F t = some a) (ha : ¬ 0 < s.A t) : OrdC ks F0 (doS s t a) := by
  refine ⟨ord_do hn hk hne h.o hf ha, fun x hx => ?_⟩
  have hz : cntA ks s.F t = 0 := by have := h.o.asked t; omega
  have hno := cntA_zero hz
  have hxt : x ≠ t := by
    rintro rfl
    obtain ⟨p, hp, hpx⟩ := hx.pred
    have h1 := h.c p hp
    cases hs : s.F p with
    | none => rw [hs] at h1; cases h1
    | some v =>
      have := h.o.sub p v hs
      rw [hpx] at this
      cases this
      exact hno p (hk p (by rw [hpx]; rfl)) hs
  show (upd s.F t none x).isSome = true
  rw [upd_other s.F none hxt]
  exact h.c x hx

theorem ordC_doF {ks : List Int} {F0 : Int → Option Int} (hn : ks.Nodup) (hk : ∀ x, (F0 x).isSome = true → x ∈ ks) (hne : ∀ x, F0 x ≠ some x) : ∀ (n : Nat) (s : MSt) (t : Int), OrdC ks F0 s → cnt ks s.F ≤ n → OrdC ks F0 (doF n s t) ∧ Blk (doF n s t) t ∧ (∀ x, Blk s x → Blk (doF n s t) x)
  | 0, s, t, h, hc => by
    refine ⟨h, .inl ?_, fun _ hx => hx⟩
    cases hf : s.F t with
    | none => exact hf
    | some v =>
      have := cnt_del ks s.F t (hk t (by rw [h.o.sub t v hf]; rfl)) (by rw [hf]; rfl)
      omega
  | n + 1, s, t, h, hc => by
    cases hf : s.F t with
    | none => rw [do_none _ s t hf]; exact ⟨h, .inl hf, fun _ hx => hx⟩
    | some a =>
      by_cases ha : 0 < s.A t
      · rw [doF_stop hf ha]; exact ⟨h, .inr ha, fun _ hx => hx⟩
      · have htk : t ∈ ks := hk t (by rw [h.o.sub t a hf]; rfl)
        obtain ⟨k, hk1, he, hck⟩ := doF_go htk hf ha hc
        obtain rfl : k = n := by omega
        rw [he]
        obtain ⟨i1, i2, i3⟩ := ordC_doF hn hk hne k (doS s t a) a (ordC_do hn hk hne h hf ha) hck
        refine ⟨i1, i3 t (.inl (upd_same s.F t none)), fun x hx => ?_⟩
        by_cases e : x = a
        · subst e; exact i2
        · refine i3 x ?_
          rcases hx with h1 | h1
          · refine .inl ?_
            show upd s.F t none x = none
            unfold upd
            split
            · rfl
            · exact h1
          · refine .inr ?_
            show 0 < upd s.A a (s.A a - 1) x
            rw [upd_other s.A _ e]
            exact h1

theorem ordC_free {ks : List Int} {F0 : Int → Option Int} (hn : ks.Nodup) (hk : ∀ x, (F0 x).isSome = true → x ∈ ks) (hne : ∀ x, F0 x ≠ some x) (N : Nat) (hN : ks.length ≤ N) : ∀ (l : List (Int × Int)) (s : MSt), OrdC ks F0 s → OrdC ks F0 (freeF N l s) ∧ (∀ m ∈ l, Blk (freeF N l s) m.1) ∧ (∀ x, Blk s x → Blk (freeF N l s) x)
  | [], s, h => ⟨h, fun m hm => (by cases hm), fun _ hx => hx⟩
  | m :: r, s, h => by
    obtain ⟨i1, i2, i3⟩ := ordC_doF hn hk hne N s m.1 h (Nat.le_trans (cnt_le _ _) hN)
    obtain ⟨j1, j2, j3⟩ := ordC_free hn hk hne N hN r (doF N s m.1) i1
    have e : freeF N (m :: r) s = freeF N r (doF N s m.1) := rfl
    rw [e]
    refine ⟨j1, fun q hq => ?_, fun x hx => j3 x (i3 x hx)⟩
    rcases List.mem_cons.1 hq with rfl | h2
    · exact j3 _ i2
    · exact j2 q h2

/-- As many, all among them: the same. -/
theorem pigeon : ∀ (K L : List Int), K.Nodup → (∀ x ∈ K, x ∈ L) → L.length ≤ K.length → L.Nodup ∧ ∀ x ∈ L, x ∈ K
  | [], L, _, _, h => by
    have : L = [] := List.length_eq_zero_iff.1 (by simpa using h)
    subst this
    exact ⟨List.nodup_nil, fun x hx => hx⟩
  | k :: r, L, hn, hs, h => by
    have hkr := (List.nodup_cons.1 hn).1
    have hkL : k ∈ L := hs k (by simp)
    obtain ⟨h1, h2⟩ := pigeon r (L.erase k) (List.nodup_cons.1 hn).2 (fun x hx => (List.mem_erase_of_ne (fun e => hkr (by rw [← e]; exact hx))).2 (hs x (by simp [hx]))) (by rw [List.length_erase_of_mem hkL]; simp at h; omega)
    have hp := List.perm_cons_erase hkL
    refine ⟨hp.nodup_iff.2 (List.nodup_cons.2 ⟨fun hk => hkr (h2 k hk), h1⟩), fun x hx => ?_⟩
    rcases List.mem_cons.1 (hp.mem_iff.1 hx) with rfl | h3
    · simp
    · simp [h2 x h3]

theorem nodup_short {K L : List Int} (hn : K.Nodup) (hs : ∀ x ∈ K, x ∈ L) : K.length ≤ L.length := by
  by_cases h : K.length ≤ L.length
  · exact h
  · exfalso
    have hL : ∀ (K L : List Int), K.Nodup → (∀ x ∈ K, x ∈ L) → L.length < K.length → False := by
      intro K
      induction K with
      | nil => intro L _ _ h; simp at h
      | cons k r ih =>
        intro L hn hs h
        have hkr := (List.nodup_cons.1 hn).1
        have hkL : k ∈ L := hs k (by simp)
        refine ih (L.erase k) (List.nodup_cons.1 hn).2 (fun x hx => (List.mem_erase_of_ne (fun e => hkr (by rw [← e]; exact hx))).2 (hs x (by simp [hx]))) ?_
        rw [List.length_erase_of_mem hkL]
        simp at h
        have : 0 < L.length := List.length_pos_of_mem hkL
        omega
    exact hL K L hn hs (by omega)

/-- What is left goes round: every one is asked for by one, and asks for one. -/
theorem left_closed {ks : List Int} {F : Int → Option Int} (hn : ks.Nodup) (hk : ∀ x, (F x).isSome = true → x ∈ ks) (hp : ∀ x, (F x).isSome = true → ∃ y, F y = some x) :
    (∀ y v, F y = some v → (F v).isSome = true) ∧ ∀ y z v, F y = some v → F z = some v → y = z := by
  have hPn : (ks.filter fun k => (F k).isSome).Nodup := hn.filter _
  have hPm : ∀ y, y ∈ ks.filter (fun k => (F k).isSome) ↔ (F y).isSome = true := fun y => ⟨fun h => (List.mem_filter.1 h).2, fun h => List.mem_filter.2 ⟨hk y h, h⟩⟩
  generalize ks.filter (fun k => (F k).isSome) = P at hPn hPm
  obtain ⟨h1, h2⟩ := pigeon P (P.map fun k => (F k).getD 0) hPn (fun x hx => by
    obtain ⟨y, hy⟩ := hp x ((hPm x).1 hx)
    exact List.mem_map.2 ⟨y, (hPm y).2 (by rw [hy]; rfl), by rw [hy]; rfl⟩) (by simp)
  refine ⟨fun y v hy => (hPm v).1 (h2 v (List.mem_map.2 ⟨y, (hPm y).2 (by rw [hy]; rfl), by rw [hy]; rfl⟩)), fun y z v hy hz => ?_⟩
  obtain ⟨i, hi, rfl⟩ := List.getElem_of_mem ((hPm y).2 (by rw [hy]; rfl))
  obtain ⟨j, hj, rfl⟩ := List.getElem_of_mem ((hPm z).2 (by rw [hz]; rfl))
  have hpw := List.pairwise_iff_getElem.1 h1
  rcases Nat.lt_trichotomy i j with q | q | q
  · exfalso
    refine hpw i j (by simpa using hi) (by simpa using hj) q ?_
    simp [hy, hz]
  · subst q; rfl
  · exfalso
    refine hpw j i (by simpa using hj) (by simpa using hi) q ?_
    simp [hy, hz]

/-- The round of a place. -/
def rnd (F : Int → Option Int) (x : Int) : Nat → Int
  | 0 => x
  | n + 1 => (F (rnd F x n)).getD 0

theorem least {P : Nat → Prop} (n : Nat) (h : P n) : ∃ m, m ≤ n ∧ P m ∧ ∀ i, i < m → ¬ P i := by
  induction n using Nat.strongRecOn with
  | _ n ih =>
    by_cases hx : ∃ i, i < n ∧ P i
    · obtain ⟨i, hi, hp⟩ := hx
      obtain ⟨m, h1, h2, h3⟩ := ih i hi hp
      exact ⟨m, by omega, h2, h3⟩
    · exact ⟨n, Nat.le_refl _, h, fun i hi hp => hx ⟨i, hi, hp⟩⟩

structure Round (F : Int → Option Int) (x : Int) (k : Nat) : Prop where
  pos : 0 < k
  back : rnd F x k = x
  step : ∀ i, F (rnd F x i) = some (rnd F x (i + 1))
  inj : ∀ i j, i < j → j < k → rnd F x i ≠ rnd F x j

theorem round_is {ks : List Int} {F : Int → Option Int} (hk : ∀ x, (F x).isSome = true → x ∈ ks) (hc : ∀ y v, F y = some v → (F v).isSome = true) (hi : ∀ y z v, F y = some v → F z = some v → y = z) (x : Int) (hx : (F x).isSome = true) : ∃ k, Round F x k ∧ k ≤ cnt ks F := by
  have hs : ∀ i, (F (rnd F x i)).isSome = true := by
    intro i
    induction i with
    | zero => exact hx
    | succ i ih =>
      cases hv : F (rnd F x i) with
      | none => rw [hv] at ih; cases ih
      | some v =>
        show (F ((F (rnd F x i)).getD 0)).isSome = true
        rw [hv]
        exact hc _ v hv
  have hstep : ∀ i, F (rnd F x i) = some (rnd F x (i + 1)) := by
    intro i
    have := hs i
    cases hv : F (rnd F x i) with
    | none => rw [hv] at this; cases this
    | some v =>
      show some v = some ((F (rnd F x i)).getD 0)
      rw [hv]
      rfl
  have hdown : ∀ d i, rnd F x i = rnd F x (i + d) → rnd F x d = x := by
    intro d i
    induction i with
    | zero => intro h; rw [Nat.zero_add] at h; exact h.symm
    | succ i ih =>
      intro h
      refine ih (hi _ _ (rnd F x (i + 1)) (hstep i) ?_)
      rw [hstep (i + d), h]
      congr 2
      omega
  have hex : ∃ k, 0 < k ∧ rnd F x k = x ∧ k ≤ cnt ks F := by
    by_cases hnd : ((List.range (cnt ks F + 1)).map (rnd F x)).Nodup
    · exfalso
      have := nodup_short (L := ks.filter fun k => (F k).isSome) hnd (fun y hy => by
        obtain ⟨i, _, rfl⟩ := List.mem_map.1 hy
        exact List.mem_filter.2 ⟨hk _ (hs i), hs i⟩)
      rw [List.length_map, List.length_range] at this
      unfold cnt at this
      omega
    · have : ∃ i j, i < j ∧ j ≤ cnt ks F ∧ rnd F x i = rnd F x j := by
        refine Classical.byContradiction fun hno => hnd ?_
        refine List.pairwise_iff_getElem.2 fun i j hi hj hij e => hno ⟨i, j, hij, ?_, ?_⟩
        · simp at hj; omega
        · simpa using e
      obtain ⟨i, j, h1, h2, h3⟩ := this
      refine ⟨j - i, by omega, hdown (j - i) i (by rw [show i + (j - i) = j by omega]; exact h3), by omega⟩
  obtain ⟨k0, h0⟩ := hex
  obtain ⟨k, hkk, ⟨h1, h2, h3⟩, hmin⟩ := least (P := fun k => 0 < k ∧ rnd F x k = x ∧ k ≤ cnt ks F) k0 h0
  refine ⟨k, ⟨h1, h2, hstep, fun i j hij hj e => hmin (j - i) (by omega) ⟨by omega, hdown (j - i) i (by rw [show i + (j - i) = j by omega]; exact e), by omega⟩⟩, h3⟩

section
variable {F : Int → Option Int} {x : Int} {k : Nat}
theorem Round.ne (h : Round F x k) {i j : Nat} (hi : i < k) (hj : j < k) (e : i ≠ j) : rnd F x i ≠ rnd F x j := by
  rcases Nat.lt_or_gt_of_ne e with q | q
  · exact h.inj i j q hj
  · exact (h.inj j i q hi).symm
theorem Round.all (h : Round F x k) (n : Nat) : ∃ i, i < k ∧ rnd F x n = rnd F x i := by
  induction n with
  | zero => exact ⟨0, h.pos, rfl⟩
  | succ n ih =>
    obtain ⟨i, hi, e⟩ := ih
    have : rnd F x (n + 1) = rnd F x (i + 1) := by
      show (F (rnd F x n)).getD 0 = (F (rnd F x i)).getD 0
      rw [e]
    by_cases q : i + 1 < k
    · exact ⟨i + 1, q, this⟩
    · refine ⟨0, h.pos, ?_⟩
      rw [this, show i + 1 = k by omega, h.back]
      rfl
theorem Round.chased (h : Round F x k) : ∀ (n i : Nat), 1 ≤ i → i < k → k - i ≤ n → chase n F (rnd F x i) x = some (rnd F x (k - 1))
  | 0, i, _, _, _ => by omega
  | n + 1, i, h1, h2, h3 => by
    unfold chase
    rw [h.step i, Option.getD_some]
    by_cases e : i + 1 = k
    · rw [e, h.back, if_pos rfl, show k - 1 = i by omega]
    · have : rnd F x (i + 1) ≠ x := h.ne (show i + 1 < k by omega) h.pos (by omega)
      rw [if_neg this]
      exact h.chased n (i + 1) (by omega) (by omega) (by omega)
end

/-- The third pass, in a round: so many of its moves are done. -/
structure Chn (ks : List Int) (F : Int → Option Int) (A : Int → Int) (out : List (Int × Int)) (x spare : Int) (k j : Nat) (s : MSt) : Prop where
  f1 : ∀ i, i < j → s.F (rnd F x i) = none
  f2 : ∀ i, j ≤ i → i + 1 < k → s.F (rnd F x i) = some (rnd F x (i + 1))
  f3 : j < k → s.F (rnd F x (k - 1)) = some spare
  f4 : ∀ y, (∀ i, i < k → y ≠ rnd F x i) → s.F y = F y
  a1 : ∀ i, i ≤ j → i < k → s.A (rnd F x i) = 0
  a2 : ∀ i, j < i → i < k → s.A (rnd F x i) = 1
  a4 : ∀ y, y ≠ spare → (∀ i, i < k → y ≠ rnd F x i) → s.A y = A y
  v1 : ∀ i, i < j → valM s.out (rnd F x i) = rnd F x (i + 1)
  v2 : valM s.out spare = x
  v3 : ∀ y, y ≠ spare → (∀ i, i < j → y ≠ rnd F x i) → valM s.out y = valM out y
  n : s.out.length + cnt ks s.F = out.length + cnt ks F + 1
  u : ∃ m ∈ s.out, m.1 = spare
  d : ∀ m ∈ s.out, m ∈ out ∨ m.1 = spare ∨ (F m.1).isSome = true

theorem chn_do {ks : List Int} {F : Int → Option Int} {A : Int → Int} {out : List (Int × Int)} {x spare : Int} {k j : Nat} {s : MSt} (hn : ks.Nodup) (hk : ∀ y, (F y).isSome = true → y ∈ ks) (hsp : F spare = none) (hv : ∀ y, (F y).isSome = true → valM out y = y) (R : Round F x k) (hj : j < k) (h : Chn ks F A out x spare k j s) :
    ∃ a, s.F (rnd F x j) = some a ∧ s.A (rnd F x j) = 0 ∧ (j + 1 < k → a = rnd F x (j + 1)) ∧ Chn ks F A out x spare k (j + 1) (doS s (rnd F x j) a) := by
  have hns : ∀ i, rnd F x i ≠ spare := fun i e => by
    have := R.step i
    rw [e, hsp] at this
    cases this
  obtain ⟨a, ha, ha1, ha2⟩ : ∃ a, s.F (rnd F x j) = some a ∧ (j + 1 < k → a = rnd F x (j + 1)) ∧ (j + 1 = k → a = spare) := by
    by_cases q : j + 1 < k
    · exact ⟨_, h.f2 j (Nat.le_refl _) q, fun _ => rfl, fun e => by omega⟩
    · have hjk : j = k - 1 := by omega
      have := h.f3 hj
      rw [← hjk] at this
      exact ⟨spare, this, fun e => absurd e q, fun _ => rfl⟩
  have hao : ∀ i, i < k → i ≤ j → a ≠ rnd F x i := fun i hi hij e => by
    by_cases q : j + 1 < k
    · rw [ha1 q] at e
      exact R.ne q hi (by omega) e
    · rw [ha2 (by omega)] at e
      exact hns i e.symm
  have hother : ∀ i, i < k → i ≠ j → rnd F x i ≠ rnd F x j := fun i hi e => R.ne hi hj e
  refine ⟨a, ha, h.a1 j (Nat.le_refl _) hj, ha1, ?_⟩
  refine ⟨fun i hi => ?_, fun i hi hik => ?_, fun q => ?_, fun y hy => ?_, fun i hi hik => ?_, fun i hi hik => ?_, fun y hy hyo => ?_, fun i hi => ?_, ?_, fun y hy hyo => ?_, ?_, ?_, fun m hm => ?_⟩
  · show upd s.F (rnd F x j) none (rnd F x i) = none
    by_cases e : i = j
    · subst e; exact upd_same _ _ _
    · rw [upd_other _ _ (hother i (by omega) e)]
      exact h.f1 i (by omega)
  · show upd s.F (rnd F x j) none (rnd F x i) = _
    rw [upd_other _ _ (hother i (by omega) (by omega))]
    exact h.f2 i (by omega) hik
  · show upd s.F (rnd F x j) none (rnd F x (k - 1)) = _
    rw [upd_other _ _ (hother (k - 1) (by omega) (by omega))]
    exact h.f3 hj
  · show upd s.F (rnd F x j) none y = _
    rw [upd_other _ _ (hy j hj)]
    exact h.f4 y hy
  · show upd s.A a (s.A a - 1) (rnd F x i) = 0
    by_cases e : i = j + 1
    · subst e
      rw [← ha1 hik, upd_same, ha1 hik, h.a2 (j + 1) (by omega) hik]
      rfl
    · rw [upd_other _ _ (fun e2 => hao i hik (by omega) e2.symm)]
      exact h.a1 i (by omega) hik
  · show upd s.A a (s.A a - 1) (rnd F x i) = 1
    have : rnd F x i ≠ a := by
      by_cases q : j + 1 < k
      · rw [ha1 q]; exact R.ne hik q (by omega)
      · rw [ha2 (by omega)]; exact hns i
    rw [upd_other _ _ this]
    exact h.a2 i (by omega) hik
  · show upd s.A a (s.A a - 1) y = _
    have : y ≠ a := by
      by_cases q : j + 1 < k
      · rw [ha1 q]; exact hyo _ q
      · rw [ha2 (by omega)]; exact hy
    rw [upd_other _ _ this]
    exact h.a4 y hy hyo
  · show valM (s.out ++ [(rnd F x j, a)]) (rnd F x i) = _
    rw [valM_next]
    by_cases e : i = j
    · subst e
      rw [upd_same]
      by_cases q : i + 1 < k
      · rw [ha1 q, h.v3 _ (hns _) (fun p hp => R.ne q (by omega) (by omega)), hv _ (by rw [R.step]; rfl)]
      · rw [ha2 (by omega), h.v2, show i + 1 = k by omega, R.back]
    · rw [upd_other _ _ (hother i (by omega) e)]
      exact h.v1 i (by omega)
  · show valM (s.out ++ [(rnd F x j, a)]) spare = x
    rw [valM_next, upd_other _ _ (hns j).symm]
    exact h.v2
  · show valM (s.out ++ [(rnd F x j, a)]) y = _
    rw [valM_next, upd_other _ _ (hyo j (by omega))]
    exact h.v3 y hy fun i hi => hyo i (by omega)
  · show (s.out ++ [(rnd F x j, a)]).length + cnt ks (upd s.F (rnd F x j) none) = _
    have h1 := cnt_del_eq ks s.F (rnd F x j) hn (hk _ (by rw [R.step]; rfl)) (by rw [ha]; rfl)
    have h2 := h.n
    rw [List.length_append]
    simp only [List.length_cons, List.length_nil]
    omega
  · obtain ⟨m, hm, e⟩ := h.u
    exact ⟨m, List.mem_append_left _ hm, e⟩
  · have hm2 : m ∈ s.out ++ [(rnd F x j, a)] := hm
    rcases List.mem_append.1 hm2 with h1 | h1
    · exact h.d m h1
    · simp at h1
      subst h1
      exact .inr (.inr (by show (F (rnd F x j)).isSome = true; rw [R.step]; rfl))

theorem chn_all {ks : List Int} {F : Int → Option Int} {A : Int → Int} {out : List (Int × Int)} {x spare : Int} {k : Nat} (hn : ks.Nodup) (hk : ∀ y, (F y).isSome = true → y ∈ ks) (hsp : F spare = none) (hv : ∀ y, (F y).isSome = true → valM out y = y) (R : Round F x k) : ∀ (d j : Nat) (s : MSt) (N : Nat), j + d = k → d ≤ N → 0 < d → Chn ks F A out x spare k j s → Chn ks F A out x spare k k (doF N s (rnd F x j))
  | 0, _, _, _, _, _, h, _ => absurd h (Nat.lt_irrefl _)
  | d + 1, j, s, N, hj, hN, _, h => by
    obtain ⟨a, h1, h2, h3, h4⟩ := chn_do hn hk hsp hv R (show j < k by omega) h
    obtain ⟨n, rfl⟩ : ∃ n, N = n + 1 := ⟨N - 1, by omega⟩
    have e : doF (n + 1) s (rnd F x j) = doF n (doS s (rnd F x j) a) a := by
      rw [doF, h1]
      dsimp only
      rw [if_neg (by rw [h2]; decide)]
    rw [e]
    by_cases q : j + 1 < k
    · rw [h3 q]
      exact chn_all hn hk hsp hv R d (j + 1) _ n (by omega) (by omega) (by omega) (by rw [← h3 q]; exact h4)
    · have hjk : j + 1 = k := by omega
      rw [hjk] at h4
      have hs : (doS s (rnd F x j) a).F a = none := by
        have h5 := h.f3 (by omega)
        rw [show k - 1 = j by omega, h1] at h5
        cases h5
        rw [h4.f4 spare fun i _ e2 => by
          have := R.step i
          rw [← e2, hsp] at this
          cases this]
        exact hsp
      rw [do_none n _ a hs]
      exact h4

/-- Between rounds. -/
structure Inv (ks : List Int) (F0 : Int → Option Int) (spare : Int) (c : Nat) (s : MSt) : Prop where
  sub : ∀ x v, s.F x = some v → F0 x = some v
  asked : ∀ x, x ≠ spare → s.A x = (cntA ks s.F x : Int)
  cl : ∀ y v, s.F y = some v → (s.F v).isSome = true
  inj : ∀ y z v, s.F y = some v → s.F z = some v → y = z
  pend : ∀ y, (F0 y = none ∧ y ≠ spare ∨ (s.F y).isSome = true) → valM s.out y = y
  done : ∀ y v, F0 y = some v → s.F y = none → valM s.out y = v
  num : s.out.length + cnt ks s.F = cnt ks F0 + c
  used : (∃ m ∈ s.out, m.1 = spare) ↔ 0 < c
  dest : ∀ m ∈ s.out, m.1 = spare ∨ (F0 m.1).isSome = true

theorem cntA_congr {ks : List Int} {F G : Int → Option Int} {x : Int} (h : ∀ y ∈ ks, F y = some x ↔ G y = some x) : cntA ks F x = cntA ks G x := by
  unfold cntA
  congr 1
  refine List.filter_congr fun y hy => ?_
  have := h y hy
  by_cases q : G y = some x
  · rw [decide_eq_true q, decide_eq_true (this.2 q)]
  · rw [decide_eq_false q, decide_eq_false (fun e => q (this.1 e))]
theorem cntA_none {ks : List Int} {F : Int → Option Int} {x : Int} (h : ∀ y ∈ ks, F y ≠ some x) : cntA ks F x = 0 := by
  unfold cntA
  rw [List.filter_eq_nil_iff.2 (fun y hy => by simpa using h y hy)]
  rfl
theorem cntA_one {ks : List Int} {F : Int → Option Int} {x p : Int} (hn : ks.Nodup) (hp : p ∈ ks) (hf : F p = some x) (hi : ∀ y, F y = some x → y = p) : cntA ks F x = 1 := by
  have h1 := cntA_del ks F p x x hn hp hf
  rw [if_pos rfl, cntA_none (fun y _ e => by
    by_cases q : y = p
    · subst q; rw [upd_same] at e; cases e
    · rw [upd_other F none q] at e; exact q (hi y e))] at h1
  omega

theorem inv_ring {ks : List Int} {F0 : Int → Option Int} {spare : Int} {c N : Nat} {s : MSt} (hn : ks.Nodup) (hk : ∀ x, (F0 x).isSome = true → x ∈ ks) (hne : ∀ x, F0 x ≠ some x) (hsp : F0 spare = none) (hN : ks.length ≤ N) (h : Inv ks F0 spare c s) {x y v : Int} (hf : s.F x = some v) (hy : y = v) :
    ∃ s', ringS N spare (some (s, (c : Int))) (x, y) = some (s', ((c + 1 : Nat) : Int)) ∧ Inv ks F0 spare (c + 1) s' ∧ ∀ z, (s'.F z).isSome = true ↔ (s.F z).isSome = true ∧ ¬ Orb s.F x z := by
  subst hy
  have hks : ∀ z, (s.F z).isSome = true → z ∈ ks := fun z hz => by
    cases hv : s.F z with
    | none => rw [hv] at hz; cases hz
    | some u => exact hk z (by rw [h.sub z u hv]; rfl)
  have hss : s.F spare = none := by
    cases hv : s.F spare with
    | none => rfl
    | some u => rw [h.sub spare u hv] at hsp; cases hsp
  obtain ⟨k, R, hkc⟩ := round_is hks h.cl h.inj x (by rw [hf]; rfl)
  have hk2 : 2 ≤ k := by
    rcases Nat.lt_or_ge k 2 with q | q
    · exfalso
      have hk1 : k = 1 := by have := R.pos; omega
      have h1 := R.step 0
      rw [show 0 + 1 = k by omega, R.back] at h1
      exact hne x (h.sub x x h1)
    · exact q
  have hkN : k ≤ N := Nat.le_trans hkc (Nat.le_trans (cnt_le _ _) hN)
  have hr1 : rnd s.F x 1 = y := by
    show (s.F x).getD 0 = y
    rw [hf]; rfl
  have hch : chase N s.F y x = some (rnd s.F x (k - 1)) := by
    rw [← hr1]
    exact R.chased N 1 (by omega) (by omega) (by omega)
  have hlast : s.F (rnd s.F x (k - 1)) = some x := by
    rw [R.step, show k - 1 + 1 = k by omega, R.back]
  have hA1 : ∀ i, s.A (rnd s.F x i) = 1 := by
    intro i
    have hne2 : rnd s.F x i ≠ spare := fun e => by
      have := R.step i
      rw [e, hss] at this
      cases this
    rw [h.asked _ hne2]
    obtain ⟨j, _, hj⟩ := R.all (i + (k - 1))
    have hpre : s.F (rnd s.F x (i + (k - 1))) = some (rnd s.F x i) := by
      rw [R.step]
      have : ∀ i, rnd s.F x (i + k) = rnd s.F x i := by
        intro i
        induction i with
        | zero => rw [Nat.zero_add, R.back]; rfl
        | succ i ih =>
          rw [show i + 1 + k = (i + k) + 1 by omega]
          show (s.F (rnd s.F x (i + k))).getD 0 = (s.F (rnd s.F x i)).getD 0
          rw [ih]
      rw [show i + (k - 1) + 1 = i + k by omega, this]
    have := cntA_one hn (hks _ (by rw [hpre]; rfl)) hpre (fun z hz => h.inj z _ _ hz hpre)
    rw [this]
    rfl
  have C0 : Chn ks s.F s.A s.out x spare k 0 ⟨upd s.F (rnd s.F x (k - 1)) (some spare), upd s.A x (s.A x - 1), s.out ++ [(spare, x)]⟩ := by
    refine ⟨fun i hi => absurd hi (Nat.not_lt_zero _), fun i _ hik => ?_, fun _ => upd_same _ _ _, fun z hz => ?_, fun i hi _ => ?_, fun i hi hik => ?_, fun z hz hzo => ?_, fun i hi => absurd hi (Nat.not_lt_zero _), ?_, fun z hz _ => ?_, ?_, ⟨(spare, x), by simp, rfl⟩, fun m hm => ?_⟩
    · show upd s.F (rnd s.F x (k - 1)) (some spare) (rnd s.F x i) = _
      rw [upd_other _ _ (R.ne (show i < k by omega) (by omega) (by omega))]
      exact R.step i
    · show upd s.F (rnd s.F x (k - 1)) (some spare) z = _
      rw [upd_other _ _ (hz (k - 1) (by omega))]
    · obtain rfl : i = 0 := by omega
      show upd s.A x (s.A x - 1) x = 0
      have := hA1 0
      rw [show rnd s.F x 0 = x from rfl] at this
      rw [upd_same, this]
      rfl
    · show upd s.A x (s.A x - 1) (rnd s.F x i) = 1
      rw [upd_other s.A _ (show rnd s.F x i ≠ x from R.ne hik R.pos (by omega))]
      exact hA1 i
    · show upd s.A x (s.A x - 1) z = _
      rw [upd_other s.A _ (show z ≠ x from hzo 0 R.pos)]
    · show valM (s.out ++ [(spare, x)]) spare = x
      rw [valM_next, upd_same]
      exact h.pend x (.inr (by rw [hf]; rfl))
    · show valM (s.out ++ [(spare, x)]) z = _
      rw [valM_next, upd_other _ _ hz]
    · show (s.out ++ [(spare, x)]).length + cnt ks (upd s.F (rnd s.F x (k - 1)) (some spare)) = _
      rw [cnt_put ks s.F _ _ (by rw [hlast]; rfl), List.length_append]
      simp only [List.length_cons, List.length_nil]
      omega
    · have hm2 : m ∈ s.out ++ [(spare, x)] := hm
      rcases List.mem_append.1 hm2 with h1 | h1
      · exact .inl h1
      · simp at h1
        subst h1
        exact .inr (.inl rfl)
  have CK := chn_all hn hks hss (fun z hz => h.pend z (.inr hz)) R k 0 _ N (by omega) hkN R.pos C0
  rw [show rnd s.F x 0 = x from rfl] at CK
  generalize hs' : doF N ⟨upd s.F (rnd s.F x (k - 1)) (some spare), upd s.A x (s.A x - 1), s.out ++ [(spare, x)]⟩ x = s' at CK
  have hin : ∀ z, (∃ i, i < k ∧ z = rnd s.F x i) ∨ (∀ i, i < k → z ≠ rnd s.F x i) := fun z => by
    by_cases q : ∃ i, i < k ∧ z = rnd s.F x i
    · exact .inl q
    · exact .inr fun i hi e => q ⟨i, hi, e⟩
  have hsome : ∀ z u, s'.F z = some u → s.F z = some u ∧ ∀ i, i < k → z ≠ rnd s.F x i := fun z u hz => by
    rcases hin z with ⟨i, hi, e⟩ | hno
    · rw [e, CK.f1 i hi] at hz; cases hz
    · rw [CK.f4 z hno] at hz; exact ⟨hz, hno⟩
  have hkeep : ∀ z, (∀ i, i < k → z ≠ rnd s.F x i) → s'.F z = s.F z := CK.f4
  have hnext : ∀ z u, s.F z = some u → (∃ i, i < k ∧ u = rnd s.F x i) → ∃ i, i < k ∧ z = rnd s.F x i := fun z u hz ⟨i, hi, e⟩ => by
    have hpre : ∃ j, s.F (rnd s.F x j) = some (rnd s.F x i) := by
      cases i with
      | zero => exact ⟨k - 1, by rw [hlast]; rfl⟩
      | succ i => exact ⟨i, R.step i⟩
    obtain ⟨j, hj⟩ := hpre
    obtain ⟨p, hp, e2⟩ := R.all j
    refine ⟨p, hp, ?_⟩
    rw [← e2]
    exact h.inj z _ u hz (by rw [hj, e])
  refine ⟨s', ?_, ⟨fun z u hz => h.sub z u (hsome z u hz).1, fun z hz => ?_, fun z u hz => ?_, fun z1 z2 u h1 h2 => h.inj z1 z2 u (hsome _ _ h1).1 (hsome _ _ h2).1, fun z hz => ?_, fun z u hz hd => ?_, ?_, ⟨fun _ => Nat.succ_pos _, fun _ => CK.u⟩, fun m hm => ?_⟩, fun z => ?_⟩
  · unfold ringS
    dsimp only
    rw [hf]
    dsimp only
    rw [hch]
    dsimp only
    rw [hlast, if_pos (show (some x).isSome = true from rfl), hs']
    rfl
  · rcases hin z with ⟨i, hi, e⟩ | hno
    · rw [e, CK.a1 i (by omega) hi, cntA_none]
      · rfl
      · intro y _ hy
        obtain ⟨h1, h2⟩ := hsome _ _ hy
        obtain ⟨p, hp, e2⟩ := hnext y _ h1 ⟨i, hi, rfl⟩
        exact h2 p hp e2
    · rw [CK.a4 z hz hno, h.asked z hz]
      congr 1
      refine cntA_congr fun y _ => ⟨fun hy => ?_, fun hy => (hsome _ _ hy).1⟩
      rw [hkeep y]
      · exact hy
      · intro i hi e
        rw [e, R.step i] at hy
        cases hy
        obtain ⟨p, hp, e2⟩ := R.all (i + 1)
        exact hno p hp e2
  · obtain ⟨h1, h2⟩ := hsome z u hz
    rw [hkeep u]
    · exact h.cl z u h1
    · intro i hi e
      obtain ⟨p, hp, e2⟩ := hnext z u h1 ⟨i, hi, e⟩
      exact h2 p hp e2
  · have hz2 : z ≠ spare ∧ (∀ i, i < k → z ≠ rnd s.F x i) ∧ ((F0 z = none ∧ z ≠ spare) ∨ (s.F z).isSome = true) := by
      rcases hz with ⟨h1, h2⟩ | h1
      · refine ⟨h2, fun i hi e => ?_, .inl ⟨h1, h2⟩⟩
        have := h.sub _ _ (R.step i)
        rw [← e, h1] at this
        cases this
      · cases hv : s'.F z with
        | none => rw [hv] at h1; cases h1
        | some u =>
          obtain ⟨h3, h4⟩ := hsome z u hv
          exact ⟨fun e => (by rw [e, hss] at h3; cases h3), h4, .inr (by rw [h3]; rfl)⟩
    rw [CK.v3 z hz2.1 hz2.2.1]
    exact h.pend z hz2.2.2
  · rcases hin z with ⟨i, hi, e⟩ | hno
    · rw [e, CK.v1 i hi]
      have := h.sub _ _ (R.step i)
      rw [← e, hz] at this
      exact (Option.some.inj this).symm
    · rw [CK.v3 z (fun e => by rw [e, hsp] at hz; cases hz) hno]
      exact h.done z u hz (by rw [← hkeep z hno]; exact hd)
  · have h1 := CK.n
    have h2 := h.num
    omega
  · rcases CK.d m hm with h1 | h1 | h1
    · exact h.dest m h1
    · exact .inl h1
    · cases hv : s.F m.1 with
      | none => rw [hv] at h1; cases h1
      | some u => exact .inr (by rw [h.sub _ _ hv]; rfl)
  · have hit : ∀ n, itO s.F n x = some (rnd s.F x n) := by
      intro n
      induction n with
      | zero => rfl
      | succ n ih => rw [itO_last, ih]; exact R.step n
    constructor
    · intro hz
      cases hv : s'.F z with
      | none => rw [hv] at hz; cases hz
      | some u =>
        obtain ⟨h3, h4⟩ := hsome z u hv
        refine ⟨by rw [h3]; rfl, fun ⟨n, e⟩ => ?_⟩
        rw [hit n] at e
        obtain ⟨p, hp, e2⟩ := R.all n
        exact h4 p hp (by rw [← e2]; exact (Option.some.inj e).symm)
    · rintro ⟨h1, h2⟩
      rw [hkeep z fun i _ e => h2 ⟨i, by rw [hit i, e]⟩]
      exact h1

/-- The first pass over any moves. -/
structure BegI (pre : List (Int × Int)) (s : MSt) : Prop where
  o : s.out = []
  y : ∀ m ∈ pre, s.F m.1 = if m.1 = m.2 then none else some m.2
  n : ∀ x, x ∉ pre.map Prod.fst → s.F x = none
  a : ∀ x, s.A x = (cntA (pre.map Prod.fst) s.F x : Int)

theorem cntA_snoc (ks : List Int) (k : Int) (F : Int → Option Int) (x : Int) : cntA (ks ++ [k]) F x = cntA ks F x + (if F k = some x then 1 else 0) := by
  unfold cntA
  rw [List.filter_append, List.length_append]
  congr 1
  by_cases h : F k = some x
  · rw [if_pos h, List.filter_cons, if_pos (by simpa using h)]; rfl
  · rw [if_neg h, List.filter_cons, if_neg (by simpa using h)]; rfl

theorem begI_next {pre : List (Int × Int)} {s : MSt} {x y : Int} (h : BegI pre s) (hx : x ∉ pre.map Prod.fst) : BegI (pre ++ [(x, y)]) (begS s (x, y)) := by
  by_cases e : x = y
  · subst e
    have e1 : begS s (x, x) = s := by unfold begS; rw [if_pos rfl]
    rw [e1]
    refine ⟨h.o, fun m hm => ?_, fun z hz => h.n z fun hc => hz (by rw [List.map_append]; exact List.mem_append_left _ hc), fun z => ?_⟩
    · rcases List.mem_append.1 hm with h1 | h1
      · exact h.y m h1
      · simp at h1
        subst h1
        rw [if_pos rfl]
        exact h.n x hx
    · rw [List.map_append]
      show s.A z = (cntA (pre.map Prod.fst ++ [x]) s.F z : Int)
      rw [cntA_snoc, h.n x hx, if_neg (by simp), h.a z]
      rfl
  · have e1 : begS s (x, y) = ⟨upd s.F x (some y), upd s.A y (s.A y + 1), s.out⟩ := by unfold begS; rw [if_neg e]
    rw [e1]
    refine ⟨h.o, fun m hm => ?_, fun z hz => ?_, fun z => ?_⟩
    · rcases List.mem_append.1 hm with h1 | h1
      · have : m.1 ≠ x := fun q => hx (by rw [← q]; exact List.mem_map_of_mem h1)
        show upd s.F x (some y) m.1 = _
        rw [upd_other _ _ this]
        exact h.y m h1
      · simp at h1
        subst h1
        rw [if_neg e]
        exact upd_same _ _ _
    · rw [List.map_append] at hz
      have hzx : z ≠ x := fun q => hz (by subst q; simp)
      show upd s.F x (some y) z = none
      rw [upd_other _ _ hzx]
      exact h.n z fun hc => hz (List.mem_append_left _ hc)
    · rw [List.map_append]
      show upd s.A y (s.A y + 1) z = (cntA (pre.map Prod.fst ++ [x]) (upd s.F x (some y)) z : Int)
      rw [cntA_snoc, cntA_same _ _ _ _ _ hx, upd_same]
      by_cases q : z = y
      · subst q
        rw [upd_same, if_pos rfl, h.a z]
        push_cast
        rfl
      · rw [upd_other _ _ q, if_neg (fun e => q (Option.some.inj e).symm), h.a z]
        rfl

theorem begI_all : ∀ (r pre : List (Int × Int)) (s : MSt), ((pre ++ r).map Prod.fst).Nodup → BegI pre s → BegI (pre ++ r) (r.foldl begS s)
  | [], pre, s, _, h => by rw [List.append_nil]; exact h
  | (x, y) :: r, pre, s, hn, h => by
    have hx : x ∉ pre.map Prod.fst := fun hc => by
      rw [List.map_append] at hn
      exact (List.nodup_append.1 hn).2.2 x hc x (by simp) rfl
    have h2 := begI_all r (pre ++ [(x, y)]) (begS s (x, y)) (by rw [List.append_assoc]; exact hn) (begI_next h hx)
    rw [List.append_assoc] at h2
    exact h2

theorem begI (l : List (Int × Int)) (hn : (l.map Prod.fst).Nodup) : BegI l (begF l) := begI_all l [] _ hn ⟨rfl, fun m hm => (by cases hm), fun _ _ => rfl, fun _ => rfl⟩

/-- How many of the first moves begin a round. -/
noncomputable def cycN (F : Int → Option Int) (l : List (Int × Int)) : Nat → Nat
  | 0 => 0
  | i + 1 => cycN F l i + (@ite Nat (Cyc F (l.getD i (0, 0)).1 ∧ ∀ j, j < i → ¬ Orb F (l.getD i (0, 0)).1 (l.getD j (0, 0)).1) (Classical.propDecidable _) 1 0)

theorem cycN_yes {F : Int → Option Int} {l : List (Int × Int)} {i : Nat} (h : Cyc F (l.getD i (0, 0)).1 ∧ ∀ j, j < i → ¬ Orb F (l.getD i (0, 0)).1 (l.getD j (0, 0)).1) : cycN F l (i + 1) = cycN F l i + 1 := by
  show cycN F l i + _ = _
  rw [if_pos h]
theorem cycN_no {F : Int → Option Int} {l : List (Int × Int)} {i : Nat} (h : ¬ (Cyc F (l.getD i (0, 0)).1 ∧ ∀ j, j < i → ¬ Orb F (l.getD i (0, 0)).1 (l.getD j (0, 0)).1)) : cycN F l (i + 1) = cycN F l i := by
  show cycN F l i + _ = _
  rw [if_neg h]
  rfl

/-- What moves.order tells of any moves. -/
structure Told (l : List (Int × Int)) (spare : Int) (o : List (Int × Int)) (c : Nat) : Prop where
  count : c = cycN (begF l).F l l.length
  num : o.length = cnt (l.map Prod.fst) (begF l).F + c
  val : ∀ m ∈ l, valM o m.1 = m.2
  rest : ∀ y, y ∉ l.map Prod.fst → y ≠ spare → valM o y = y
  used : (∃ m ∈ o, m.1 = spare) ↔ 0 < c
  dest : ∀ m ∈ o, m.1 = spare ∨ m.1 ∈ l.map Prod.fst

theorem order_told (l : List (Int × Int)) (spare : Int) (hn : (l.map Prod.fst).Nodup) (hfree : ∀ m ∈ l, m.1 ≠ spare) : ∃ (o : List (Int × Int)) (c : Nat), orderF l spare = some (o, (c : Int)) ∧ Told l spare o c := by
  have B := begI l hn
  have hks : ∀ x, ((begF l).F x).isSome = true → x ∈ l.map Prod.fst := fun x hx => by
    by_cases hm : x ∈ l.map Prod.fst
    · exact hm
    · rw [B.n x hm] at hx; cases hx
  have hne : ∀ x, (begF l).F x ≠ some x := fun x hx => by
    obtain ⟨m, hm, rfl⟩ := List.mem_map.1 (hks x (by rw [hx]; rfl))
    rw [B.y m hm] at hx
    split at hx
    · cases hx
    · rename_i q
      exact q (Option.some.inj hx).symm
  have hsp : (begF l).F spare = none := B.n spare fun hc => by
    obtain ⟨m, hm, e⟩ := List.mem_map.1 hc
    exact hfree m hm e
  have h0 : OrdC (l.map Prod.fst) (begF l).F (begF l) := by
    refine ⟨⟨fun _ _ h => h, B.a, fun y v _ => ?_, fun y _ => ?_, fun y v hy hd => ?_, ?_, fun m hm => ?_⟩, fun x hx => ?_⟩
    · cases hv : (begF l).F v with
      | none => exact .inl rfl
      | some u => exact .inr rfl
    · rw [B.o]; rfl
    · rw [hy] at hd; cases hd
    · rw [B.o]; simp
    · rw [B.o] at hm; cases hm
    · obtain ⟨y, hy⟩ := hx.has
      rw [hy]; rfl
  obtain ⟨g1, g2, _⟩ := ordC_free hn hks hne l.length (by simp) l (begF l) h0
  have hval : ∀ m ∈ l, ∀ (o : List (Int × Int)), (∀ y v, (begF l).F y = some v → valM o y = v) → (∀ y, (begF l).F y = none ∧ y ≠ spare → valM o y = y) → valM o m.1 = m.2 := fun m hm o h1 h2 => by
    have := B.y m hm
    split at this
    · rename_i q
      rw [h2 m.1 ⟨this, hfree m hm⟩, q]
    · exact h1 _ _ this
  have hrest : ∀ y, y ∉ l.map Prod.fst → y ≠ spare → (begF l).F y = none ∧ y ≠ spare := fun y h1 h2 => ⟨B.n y h1, h2⟩
  unfold orderF ringF
  generalize freeF l.length l (begF l) = s at *
  generalize hF0 : (begF l).F = F0 at *
  have hP : ∀ x, (s.F x).isSome = true → ∃ y, s.F y = some x := fun x hx => by
    cases hv : s.F x with
    | none => rw [hv] at hx; cases hx
    | some v =>
      obtain ⟨m, hm, e⟩ := List.mem_map.1 (hks x (by rw [g1.o.sub x v hv]; rfl))
      have := g2 m hm
      rw [e] at this
      rcases this with h1 | h1
      · rw [h1] at hv; cases hv
      · rw [g1.o.asked x] at h1
        obtain ⟨y, _, hy⟩ := cntA_pos (show 0 < cntA (l.map Prod.fst) s.F x by omega)
        exact ⟨y, hy⟩
  have hks2 : ∀ x, (s.F x).isSome = true → x ∈ l.map Prod.fst := fun x hx => by
    cases hv : s.F x with
    | none => rw [hv] at hx; cases hx
    | some v => exact hks x (by rw [g1.o.sub x v hv]; rfl)
  obtain ⟨hcl, hinj⟩ := left_closed hn hks2 hP
  have hitF : ∀ (t : MSt), (∀ x v, t.F x = some v → F0 x = some v) → ∀ n x y, itO t.F n x = some y → itO F0 n x = some y := fun t ht n => by
    induction n with
    | zero => intro x y h; exact h
    | succ n ih =>
      intro x y h
      rw [itO_last] at h ⊢
      cases hz : itO t.F n x with
      | none => rw [hz] at h; cases h
      | some z =>
        rw [hz] at h
        rw [ih x z hz]
        exact ht z y h
  have hcyc : ∀ x, (s.F x).isSome = true ↔ Cyc F0 x := fun x => by
    constructor
    · intro hx
      obtain ⟨k, R, _⟩ := round_is hks2 hcl hinj x hx
      refine ⟨k, R.pos, hitF s g1.o.sub k x x ?_⟩
      have hit : ∀ n, itO s.F n x = some (rnd s.F x n) := by
        intro n
        induction n with
        | zero => rfl
        | succ n ih => rw [itO_last, ih]; exact R.step n
      rw [hit k, R.back]
    · exact g1.c x
  have hnosp : ∀ m ∈ s.out, m.1 ≠ spare := fun m hm e => by
    have := g1.o.dest m hm
    rw [e, hsp] at this
    cases this
  have I0 : Inv (l.map Prod.fst) F0 spare 0 s := ⟨g1.o.sub, fun x _ => g1.o.asked x, hcl, hinj, fun y hy => g1.o.pend y (hy.imp (fun h => h.1) id), g1.o.done, by have := g1.o.num; omega, ⟨fun ⟨m, hm, e⟩ => absurd e (hnosp m hm), fun h => absurd h (Nat.lt_irrefl _)⟩, fun m hm => .inr (g1.o.dest m hm)⟩
  have main : ∀ i, i ≤ l.length → ∃ t, (l.take i).foldl (ringS l.length spare) (some (s, 0)) = some (t, ((cycN F0 l i : Nat) : Int)) ∧ Inv (l.map Prod.fst) F0 spare (cycN F0 l i) t ∧ ∀ z, (t.F z).isSome = true ↔ Cyc F0 z ∧ ∀ j, j < i → ¬ Orb F0 z (l.getD j (0, 0)).1 := by
    intro i
    induction i with
    | zero => exact fun _ => ⟨s, rfl, I0, fun z => ⟨fun h => ⟨(hcyc z).1 h, fun j hj => absurd hj (Nat.not_lt_zero _)⟩, fun h => (hcyc z).2 h.1⟩⟩
    | succ i ih =>
      intro hi
      obtain ⟨t, ht, I, hz⟩ := ih (by omega)
      have hm : l.getD i (0, 0) ∈ l := by simp [List.getD, show i < l.length by omega]
      rw [take_next l i hi, List.foldl_append, ht]
      generalize hmm : l.getD i (0, 0) = m at hm
      obtain ⟨x, y⟩ := m
      show ∃ t', ringS l.length spare (some (t, ((cycN F0 l i : Nat) : Int))) (x, y) = _ ∧ _
      cases hf : t.F x with
      | none =>
        have hno : ¬ (Cyc F0 x ∧ ∀ j, j < i → ¬ Orb F0 x (l.getD j (0, 0)).1) := fun h => by
          have := (hz x).2 h
          rw [hf] at this
          cases this
        have e : cycN F0 l (i + 1) = cycN F0 l i := cycN_no (by rw [hmm]; exact hno)
        rw [e]
        refine ⟨t, ?_, I, fun z => ⟨fun h => ?_, fun h => (hz z).2 ⟨h.1, fun j hj => h.2 j (by omega)⟩⟩⟩
        · unfold ringS
          dsimp only
          rw [hf]
        · obtain ⟨h1, h2⟩ := (hz z).1 h
          refine ⟨h1, fun j hj => ?_⟩
          by_cases q : j = i
          · subst q
            rw [hmm]
            intro o
            obtain ⟨h3, h4⟩ := h1.orb o
            exact hno ⟨h3, fun j hj o2 => h2 j hj (o.trans o2)⟩
          · exact h2 j (by omega)
      | some v =>
        have hv : y = v := by
          have h1 := I.sub x v hf
          have h2 := B.y (x, y) hm
          dsimp only at h2
          rw [hF0, h1] at h2
          split at h2
          · cases h2
          · exact (Option.some.inj h2).symm
        have hyes := (hz x).1 (by rw [hf]; rfl)
        obtain ⟨t', e1, I', hz'⟩ := inv_ring hn hks hne hsp (by simp) I hf hv (N := l.length)
        have e : cycN F0 l (i + 1) = cycN F0 l i + 1 := cycN_yes (by rw [hmm]; exact hyes)
        rw [e]
        refine ⟨t', e1, I', fun z => (hz' z).trans ⟨fun h => ?_, fun h => ?_⟩⟩
        · obtain ⟨h1, h2⟩ := (hz z).1 h.1
          refine ⟨h1, fun j hj => ?_⟩
          by_cases q : j = i
          · subst q
            rw [hmm]
            intro o
            refine h.2 ?_
            obtain ⟨n, hn2⟩ := (h1.orb o).2
            refine ⟨n, ?_⟩
            -- the round of x stays within what is left
            have hit : ∀ n, ∃ u, itO t.F n x = some u := by
              intro n
              induction n with
              | zero => exact ⟨x, rfl⟩
              | succ n ih =>
                obtain ⟨u, hu⟩ := ih
                have hus : (t.F u).isSome = true := by
                  cases n with
                  | zero => cases hu; rw [hf]; rfl
                  | succ n =>
                    rw [itO_last] at hu
                    cases hw : itO t.F n x with
                    | none => rw [hw] at hu; cases hu
                    | some w => rw [hw] at hu; exact I.cl w u hu
                cases hw : t.F u with
                | none => rw [hw] at hus; cases hus
                | some w => exact ⟨w, by rw [itO_last, hu]; exact hw⟩
            obtain ⟨u, hu⟩ := hit n
            have := hitF t I.sub n x u hu
            dsimp only at hn2
            rw [hn2] at this
            rw [hu, this]
          · exact h2 j (by omega)
        · refine ⟨(hz z).2 ⟨h.1, fun j hj => h.2 j (by omega)⟩, fun ⟨n, e2⟩ => ?_⟩
          have o : Orb F0 x z := ⟨n, hitF t I.sub n x z e2⟩
          have := h.2 i (by omega)
          rw [hmm] at this
          exact this (hyes.1.orb o).2
  obtain ⟨t, ht, I, hz⟩ := main l.length (Nat.le_refl _)
  rw [List.take_of_length_le (Nat.le_refl _)] at ht
  refine ⟨t.out, cycN F0 l l.length, by rw [ht]; rfl, ?_⟩
  have hnone : ∀ z, t.F z = none := fun z => by
    cases hv : t.F z with
    | none => rfl
    | some v =>
      obtain ⟨h1, h2⟩ := (hz z).1 (by rw [hv]; rfl)
      obtain ⟨m, hm, e⟩ := List.mem_map.1 (hks z (by rw [I.sub z v hv]; rfl))
      obtain ⟨j, hj, rfl⟩ := List.getElem_of_mem hm
      exfalso
      refine h2 j hj ?_
      rw [show l.getD j (0, 0) = l[j] by simp [List.getD, hj], e]
      exact Orb.refl _
  refine ⟨by rw [hF0], ?_, fun m hm => hval m hm _ (fun y v hy => I.done y v hy (hnone y)) fun y hy => I.pend y (.inl hy), fun y h1 h2 => I.pend y (.inl (hrest y h1 h2)), I.used, fun m hm => (I.dest m hm).imp id (hks _)⟩
  have := I.num
  rw [cnt_none _ _ hnone] at this
  rw [hF0]
  omega

end Go.Proofs.YtflbjfcmnopfaaaDoor

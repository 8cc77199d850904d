/-
  MovesRing, plainly: a ring turned by some, with a row that hangs on it.
-/
import Derived.Test.YtflbjfcmnopfaaaDoorMvX
namespace Go.Proofs.YtflbjfcmnopfaaaDoor
open Go.RowKit

/-- The law's moves: a ring turned by some, and a row that hangs on it. -/
def ringA (n : Nat) (b : Nat) (i : Nat) : List (Int × Int) := (List.range i).map fun (i : Nat) => ((i : Int), (((i + b) % n : Nat) : Int))
def tailA (n : Nat) (i : Nat) : List (Int × Int) := (List.range i).map fun (i : Nat) => (100 + (i : Int), ((i % n : Nat) : Int))
def ringL (n b t : Nat) : List (Int × Int) := ringA n b n ++ tailA n t

theorem ringA_next (n b i : Nat) : ringA n b (i + 1) = ringA n b i ++ [((i : Int), (((i + b) % n : Nat) : Int))] := by simp [ringA, List.range_succ]
theorem tailA_next (n i : Nat) : tailA n (i + 1) = tailA n i ++ [(100 + (i : Int), ((i % n : Nat) : Int))] := by simp [tailA, List.range_succ]
theorem ringL_len (n b t : Nat) : (ringL n b t).length = n + t := by simp [ringL, ringA, tailA]
theorem ringL_one {n b t i : Nat} (h : i < n) : (ringL n b t).getD i (0, 0) = ((i : Int), (((i + b) % n : Nat) : Int)) := by
  simp [ringL, ringA, tailA, List.getD, List.getElem?_append, h]
theorem ringL_two {n b t i : Nat} (h : i < t) : (ringL n b t).getD (n + i) (0, 0) = (100 + (i : Int), ((i % n : Nat) : Int)) := by
  simp [ringL, ringA, tailA, List.getD, h]
theorem ringL_mem {n b t : Nat} {m : Int × Int} (h : m ∈ ringL n b t) : (∃ i : Nat, i < n ∧ m = ((i : Int), (((i + b) % n : Nat) : Int))) ∨ ∃ i : Nat, i < t ∧ m = (100 + (i : Int), ((i % n : Nat) : Int)) := by
  simp only [ringL, ringA, tailA, List.mem_append, List.mem_map, List.mem_range] at h
  rcases h with ⟨i, hi, rfl⟩ | ⟨i, hi, rfl⟩
  · exact .inl ⟨i, hi, rfl⟩
  · exact .inr ⟨i, hi, rfl⟩
theorem ringL_in {n b t : Nat} (hn : 0 < n) (hn3 : n ≤ 30) (ht : t ≤ 9) {m : Int × Int} (h : m ∈ ringL n b t) : 0 ≤ m.1 ∧ m.1 ≤ 108 ∧ 0 ≤ m.2 ∧ m.2 < n := by
  rcases ringL_mem h with ⟨i, hi, rfl⟩ | ⟨i, hi, rfl⟩
  · have := Nat.mod_lt (i + b) hn
    dsimp only
    omega
  · have := Nat.mod_lt i hn
    dsimp only
    omega
theorem ringL_nodup {n b t : Nat} (hn3 : n ≤ 30) : ((ringL n b t).map Prod.fst).Nodup := by
  unfold ringL ringA tailA
  rw [List.map_append, List.map_map, List.map_map, List.nodup_append]
  refine ⟨List.Pairwise.map _ (fun (a b : Nat) (h : a ≠ b) (e : (a : Int) = (b : Int)) => h (by omega)) List.nodup_range, List.Pairwise.map _ (fun (a b : Nat) (h : a ≠ b) (e : 100 + (a : Int) = 100 + (b : Int)) => h (by omega)) List.nodup_range, fun x hx y hy => ?_⟩
  simp only [List.mem_map, List.mem_range, Function.comp] at hx hy
  obtain ⟨i, hi, rfl⟩ := hx
  obtain ⟨j, hj, rfl⟩ := hy
  omega

theorem mod_self {n b i : Nat} (hi : i < n) (hb : b < n) : (i + b) % n = i ↔ b = 0 := by
  constructor
  · intro h
    by_cases q : i + b < n
    · rw [Nat.mod_eq_of_lt q] at h; omega
    · rw [Nat.mod_eq_sub_mod (by omega), Nat.mod_eq_of_lt (by omega)] at h; omega
  · intro h
    subst h
    exact Nat.mod_eq_of_lt (by omega)

structure RingOk (n b : Nat) : Prop where
  hn : 0 < n
  hn3 : n ≤ 30
  hb : b < n

theorem ringF_one {n b t : Nat} (R : RingOk n b) {i : Nat} (hi : i < n) (h0 : b ≠ 0) : (begF (ringL n b t)).F i = some (((i + b) % n : Nat) : Int) := by
  have := (begI (ringL n b t) (ringL_nodup R.hn3)).y _ (show ((i : Int), (((i + b) % n : Nat) : Int)) ∈ ringL n b t by
    simp only [ringL, ringA, List.mem_append, List.mem_map, List.mem_range]
    exact .inl ⟨i, hi, rfl⟩)
  rw [if_neg (fun e => h0 ((mod_self hi R.hb).1 (by have e2 : (i : Int) = (((i + b) % n : Nat) : Int) := e; omega)))] at this
  exact this
theorem ringF_zero {n b t : Nat} (R : RingOk n b) {i : Nat} (hi : i < n) (h0 : b = 0) : (begF (ringL n b t)).F i = none := by
  have := (begI (ringL n b t) (ringL_nodup R.hn3)).y _ (show ((i : Int), (((i + b) % n : Nat) : Int)) ∈ ringL n b t by
    simp only [ringL, ringA, List.mem_append, List.mem_map, List.mem_range]
    exact .inl ⟨i, hi, rfl⟩)
  rw [if_pos (by have := (mod_self hi R.hb).2 h0; rw [this])] at this
  exact this
theorem ringF_two {n b t : Nat} (R : RingOk n b) {i : Nat} (hi : i < t) : (begF (ringL n b t)).F (100 + (i : Int)) = some ((i % n : Nat) : Int) := by
  have := (begI (ringL n b t) (ringL_nodup R.hn3)).y _ (show (100 + (i : Int), ((i % n : Nat) : Int)) ∈ ringL n b t by
    simp only [ringL, tailA, List.mem_append, List.mem_map, List.mem_range]
    exact .inr ⟨i, hi, rfl⟩)
  have h2 := Nat.mod_lt i R.hn
  have h3 := R.hn3
  rw [if_neg (by dsimp only; omega)] at this
  exact this
theorem ringF_some {n b t : Nat} (R : RingOk n b) {x v : Int} (h : (begF (ringL n b t)).F x = some v) : 0 ≤ v ∧ v < n := by
  have B := begI (ringL n b t) (ringL_nodup R.hn3)
  by_cases hm : x ∈ (ringL n b t).map Prod.fst
  · obtain ⟨m, hm1, rfl⟩ := List.mem_map.1 hm
    rw [B.y m hm1] at h
    split at h
    · cases h
    · cases h
      rcases ringL_mem hm1 with ⟨i, hi, rfl⟩ | ⟨i, hi, rfl⟩
      · have := Nat.mod_lt (i + b) R.hn
        dsimp only
        omega
      · have := Nat.mod_lt i R.hn
        dsimp only
        omega
  · rw [B.n x hm] at h
    cases h

theorem ring_it {n b t : Nat} (R : RingOk n b) (h0 : b ≠ 0) {i : Nat} (hi : i < n) : ∀ k, itO (begF (ringL n b t)).F k i = some (((i + k * b) % n : Nat) : Int)
  | 0 => by
    rw [Nat.zero_mul, Nat.add_zero, Nat.mod_eq_of_lt hi]
    rfl
  | k + 1 => by
    rw [itO_last, ring_it R h0 hi k]
    show (begF (ringL n b t)).F _ = _
    rw [ringF_one R (Nat.mod_lt _ R.hn) h0, Nat.mod_add_mod]
    congr 3
    rw [Nat.add_mul, Nat.one_mul]
    omega
theorem ring_cyc {n b t : Nat} (R : RingOk n b) (h0 : b ≠ 0) {i : Nat} (hi : i < n) : Cyc (begF (ringL n b t)).F i :=
  ⟨n, R.hn, by rw [ring_it R h0 hi, Nat.add_mul_mod_self_left, Nat.mod_eq_of_lt hi]⟩
theorem tail_cyc {n b t : Nat} (R : RingOk n b) {i : Nat} : ¬ Cyc (begF (ringL n b t)).F (100 + (i : Int)) := by
  intro h
  obtain ⟨p, _, hp⟩ := h.pred
  have := ringF_some R hp
  have := R.hn3
  omega
theorem zero_cyc {n b t : Nat} (R : RingOk n b) (h0 : b = 0) (x : Int) : ¬ Cyc (begF (ringL n b t)).F x := by
  intro h
  obtain ⟨p, hp, hpx⟩ := h.pred
  have h1 := ringF_some R hpx
  obtain ⟨y, hy⟩ := h.has
  have h2 := ringF_zero (t := t) R (show x.toNat < n by omega) h0
  rw [show ((x.toNat : Nat) : Int) = x by omega, hy] at h2
  cases h2

/-- Which places have been seen after so many rounds. -/
def SeenBy (n b i k : Nat) : Prop := ∃ j, j < i ∧ ∃ q, (j + q * b) % n = k

theorem seen_sym {n b : Nat} (R : RingOk n b) {j k : Nat} (hj : j < n) : (∃ q, (j + q * b) % n = k) → ∃ q, (k + q * b) % n = j := by
  rintro ⟨q, rfl⟩
  refine ⟨q * (n - 1), ?_⟩
  rw [Nat.mod_add_mod]
  have e : j + q * b + q * (n - 1) * b = j + n * (q * b) := by
    obtain ⟨m, rfl⟩ : ∃ m, n = m + 1 := ⟨n - 1, by omega⟩
    rw [Nat.add_sub_cancel, Nat.mul_assoc, Nat.add_mul, Nat.one_mul, Nat.mul_left_comm m q b]
    omega
  rw [e, Nat.add_mul_mod_self_left, Nat.mod_eq_of_lt hj]

theorem orb_iff {n b t : Nat} (R : RingOk n b) (h0 : b ≠ 0) {i j : Nat} (hi : i < n) (hj : j < n) : Orb (begF (ringL n b t)).F i j ↔ ∃ q, (j + q * b) % n = i := by
  constructor
  · rintro ⟨k, e⟩
    rw [ring_it R h0 hi] at e
    refine seen_sym R hi ⟨k, ?_⟩
    have := Option.some.inj e
    omega
  · intro h
    obtain ⟨q, e⟩ := seen_sym R hj h
    exact ⟨q, by rw [ring_it R h0 hi, e]⟩

theorem ring_cyc_next {n b t : Nat} (R : RingOk n b) {i : Nat} (hi : i < n) : ((b ≠ 0 ∧ ¬ SeenBy n b i i) → cycN (begF (ringL n b t)).F (ringL n b t) (i + 1) = cycN (begF (ringL n b t)).F (ringL n b t) i + 1) ∧ (¬ (b ≠ 0 ∧ ¬ SeenBy n b i i) → cycN (begF (ringL n b t)).F (ringL n b t) (i + 1) = cycN (begF (ringL n b t)).F (ringL n b t) i) := by
  have h1 := ringL_one (b := b) (t := t) hi
  constructor
  · rintro ⟨h0, hs⟩
    refine cycN_yes ?_
    rw [h1]
    refine ⟨ring_cyc R h0 hi, fun j hj o => hs ⟨j, hj, ?_⟩⟩
    rw [ringL_one (show j < n by omega)] at o
    exact (orb_iff R h0 hi (by omega)).1 o
  · intro h
    refine cycN_no ?_
    rw [h1]
    rintro ⟨hc, ho⟩
    by_cases h0 : b = 0
    · exact zero_cyc R h0 _ hc
    · refine h ⟨h0, ?_⟩
      rintro ⟨j, hj, hq⟩
      refine ho j hj ?_
      rw [ringL_one (show j < n by omega)]
      exact (orb_iff R h0 hi (by omega)).2 hq

theorem ring_cyc_tail {n b t : Nat} (R : RingOk n b) : ∀ i, i ≤ t → cycN (begF (ringL n b t)).F (ringL n b t) (n + i) = cycN (begF (ringL n b t)).F (ringL n b t) n
  | 0, _ => rfl
  | i + 1, h => by
    rw [show n + (i + 1) = (n + i) + 1 by omega, cycN_no, ring_cyc_tail R i (by omega)]
    rw [ringL_two (show i < t by omega)]
    exact fun h => tail_cyc R h.1

theorem ring_cnt {n b t : Nat} (R : RingOk n b) : cnt ((ringL n b t).map Prod.fst) (begF (ringL n b t)).F = (if b = 0 then 0 else n) + t := by
  have e : (ringL n b t).map Prod.fst = (ringA n b n).map Prod.fst ++ (tailA n t).map Prod.fst := by unfold ringL; rw [List.map_append]
  have h2 : cnt ((tailA n t).map Prod.fst) (begF (ringL n b t)).F = t := by
    rw [cnt_all _ _ fun k hk => ?_]
    · simp [tailA]
    · simp only [tailA, List.map_map, List.mem_map, List.mem_range, Function.comp] at hk
      obtain ⟨i, hi, rfl⟩ := hk
      rw [ringF_two R hi]
      rfl
  have h1 : cnt ((ringA n b n).map Prod.fst) (begF (ringL n b t)).F = if b = 0 then 0 else n := by
    split
    · rename_i h0
      unfold cnt
      rw [List.filter_eq_nil_iff.2 fun k hk => ?_]
      · rfl
      · simp only [ringA, List.map_map, List.mem_map, List.mem_range, Function.comp] at hk
        obtain ⟨i, hi, rfl⟩ := hk
        rw [ringF_zero R hi h0]
        simp
    · rename_i h0
      rw [cnt_all _ _ fun k hk => ?_]
      · simp [ringA]
      · simp only [ringA, List.map_map, List.mem_map, List.mem_range, Function.comp] at hk
        obtain ⟨i, hi, rfl⟩ := hk
        rw [ringF_one R hi h0]
        rfl
  rw [e]
  unfold cnt at h1 h2 ⊢
  rw [List.filter_append, List.length_append, h1, h2]
/-- All that the law asks of Order's answer. -/
theorem ring_told (n b t : Nat) (spare : Int) (hn : 0 < n) (hn3 : n ≤ 30) (hb : b < n) (ht : t ≤ 9) (hsp : spare < 0 ∨ 1000 < spare) : ∃ (o : List (Int × Int)) (c : Nat), orderF (ringL n b t) spare = some (o, (c : Int)) ∧ c = cycN (begF (ringL n b t)).F (ringL n b t) n ∧ c ≤ n ∧ o.length = (if b = 0 then 0 else n) + t + c ∧ ∀ m ∈ ringL n b t, valM o m.1 = m.2 := by
  obtain ⟨o, c, h, T⟩ := order_told (ringL n b t) spare (ringL_nodup hn3) (fun m hm => by have := ringL_in hn hn3 ht hm; omega)
  have hc : c = cycN (begF (ringL n b t)).F (ringL n b t) n := by rw [T.count, ringL_len, ring_cyc_tail ⟨hn, hn3, hb⟩ t (Nat.le_refl _)]
  have hle : ∀ i, cycN (begF (ringL n b t)).F (ringL n b t) i ≤ i := by
    intro i
    induction i with
    | zero => exact Nat.le_refl _
    | succ i ih =>
      by_cases q : Cyc (begF (ringL n b t)).F ((ringL n b t).getD i (0, 0)).1 ∧ ∀ j, j < i → ¬ Orb (begF (ringL n b t)).F ((ringL n b t).getD i (0, 0)).1 ((ringL n b t).getD j (0, 0)).1
      · rw [cycN_yes q]; omega
      · rw [cycN_no q]; omega
  exact ⟨o, c, h, hc, by rw [hc]; exact hle n, by rw [T.num, ring_cnt ⟨hn, hn3, hb⟩], T.val⟩

end Go.Proofs.YtflbjfcmnopfaaaDoor

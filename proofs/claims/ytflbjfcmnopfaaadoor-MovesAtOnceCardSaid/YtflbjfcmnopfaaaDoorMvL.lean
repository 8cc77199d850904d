/-
  Moves, plainly: what package moves does with a list, in order.
-/
import Derived.Test.YtflbjfcmnopfaaaDoorMap
namespace Go.Proofs.YtflbjfcmnopfaaaDoor

/-- What is still to be laid, how often a place is still asked for, what has been told. -/
structure MSt where
  F : Int → Option Int
  A : Int → Int
  out : List (Int × Int)

def doS (s : MSt) (to at_ : Int) : MSt := ⟨upd s.F to none, upd s.A at_ (s.A at_ - 1), s.out ++ [(to, at_)]⟩

def doF : Nat → MSt → Int → MSt
  | 0, s, _ => s
  | n + 1, s, to => match s.F to with
    | none => s
    | some at_ => if 0 < s.A to then s else doF n (doS s to at_) at_

/-- How many of these places are still to be laid. -/
def cnt (ks : List Int) (F : Int → Option Int) : Nat := (ks.filter fun k => (F k).isSome).length

theorem cnt_le (ks : List Int) (F : Int → Option Int) : cnt ks F ≤ ks.length := List.length_filter_le _ _

theorem cnt_del (ks : List Int) (F : Int → Option Int) (to : Int) (hm : to ∈ ks) (hf : (F to).isSome = true) : cnt ks (upd F to none) + 1 ≤ cnt ks F := by
  induction ks with
  | nil => cases hm
  | cons k r ih =>
    have mono : ∀ r : List Int, cnt r (upd F to none) ≤ cnt r F := by
      intro r
      induction r with
      | nil => exact Nat.le_refl _
      | cons x q iq =>
        unfold cnt at iq ⊢
        simp only [List.filter_cons]
        by_cases hx : x = to
        · subst hx
          rw [upd_same, if_neg (by simp), if_pos hf]
          simp only [List.length_cons]
          omega
        · rw [upd_other F none hx]
          split <;> (try simp only [List.length_cons]) <;> omega
    by_cases hk : k = to
    · subst hk
      have := mono r
      unfold cnt at this ⊢
      simp only [List.filter_cons]
      rw [upd_same, if_neg (by simp), if_pos hf]
      simp only [List.length_cons]
      omega
    · have hr : to ∈ r := by
        rcases List.mem_cons.1 hm with h | h
        · exact absurd h.symm hk
        · exact h
      have := ih hr
      unfold cnt at this ⊢
      simp only [List.filter_cons]
      rw [upd_other F none hk]
      split <;> (try simp only [List.length_cons]) <;> omega

theorem cnt_put (ks : List Int) (F : Int → Option Int) (x v : Int) (hf : (F x).isSome = true) : cnt ks (upd F x (some v)) = cnt ks F := by
  unfold cnt
  congr 1
  apply List.filter_congr
  intro k _
  by_cases hk : k = x
  · subst hk; rw [upd_same, hf]; rfl
  · rw [upd_other F _ hk]

/-- More rounds than there are places make no odds. -/
theorem doF_more (ks : List Int) : ∀ (n : Nat) (s : MSt) (to : Int), (∀ x, (s.F x).isSome = true → x ∈ ks) → cnt ks s.F ≤ n → doF (n + 1) s to = doF n s to
  | 0, s, to, hk, hn => by
    unfold doF
    cases h : s.F to with
    | none => rfl
    | some v =>
      exfalso
      have h1 : (s.F to).isSome = true := by rw [h]; rfl
      have := cnt_del ks s.F to (hk to h1) h1
      omega
  | n + 1, s, to, hk, hn => by
    rw [doF, doF]
    cases h : s.F to with
    | none => rfl
    | some v =>
      have h1 : (s.F to).isSome = true := by rw [h]; rfl
      dsimp only
      split
      · rfl
      · have h2 := cnt_del ks s.F to (hk to h1) h1
        refine doF_more ks n _ _ (fun x hx => ?_) (by show cnt ks (upd s.F to none) ≤ n; omega)
        by_cases hxt : x = to
        · rw [hxt]; exact hk to h1
        · exact hk x (by rw [← upd_other s.F none hxt]; exact hx)

/-- The first pass: what is to be laid, what is asked for. -/
def begS (s : MSt) (m : Int × Int) : MSt := if m.1 = m.2 then s else ⟨upd s.F m.1 (some m.2), upd s.A m.2 (s.A m.2 + 1), s.out⟩
def begF (l : List (Int × Int)) : MSt := l.foldl begS ⟨fun _ => none, fun _ => 0, []⟩

/-- The second pass. -/
def freeF (N : Nat) (l : List (Int × Int)) (s : MSt) : MSt := l.foldl (fun s m => doF N s m.1) s

def chase : Nat → (Int → Option Int) → Int → Int → Option Int
  | 0, _, _, _ => none
  | n + 1, F, last, x => if (F last).getD 0 = x then some last else chase n F ((F last).getD 0) x

/-- The third pass: a round. -/
def ringS (N : Nat) (spare : Int) (s : Option (MSt × Int)) (m : Int × Int) : Option (MSt × Int) :=
  match s with
  | none => none
  | some (s, c) => match s.F m.1 with
    | none => some (s, c)
    | some _ => match chase N s.F m.2 m.1 with
      | none => none
      | some last => if (s.F last).isSome then some (doF N ⟨upd s.F last (some spare), upd s.A m.1 (s.A m.1 - 1), s.out ++ [(spare, m.1)]⟩ m.1, c + 1) else none

def ringF (N : Nat) (spare : Int) (l : List (Int × Int)) (s : MSt) : Option (MSt × Int) := l.foldl (ringS N spare) (some (s, 0))

def orderF (l : List (Int × Int)) (spare : Int) : Option (List (Int × Int) × Int) :=
  (ringF l.length spare l (freeF l.length l (begF l))).map fun x => (x.1.out, x.2)

theorem ring_none (N : Nat) (spare : Int) : ∀ l : List (Int × Int), l.foldl (ringS N spare) none = none
  | [] => rfl
  | _ :: r => ring_none N spare r

/-- Where nothing is left the third pass does nothing. -/
theorem ring_done (N : Nat) (spare : Int) (s : MSt) (c : Int) (h : ∀ x, s.F x = none) : ∀ l : List (Int × Int), l.foldl (ringS N spare) (some (s, c)) = some (s, c)
  | [] => rfl
  | m :: r => by
    rw [List.foldl_cons]
    have : ringS N spare (some (s, c)) m = some (s, c) := by
      unfold ringS
      dsimp only
      rw [h]
    rw [this]
    exact ring_done N spare s c h r

/-- Moves that go nowhere. -/
theorem beg_none : ∀ (l : List (Int × Int)) (s : MSt), (∀ m ∈ l, m.1 = m.2) → l.foldl begS s = s
  | [], _, _ => rfl
  | m :: r, s, h => by
    rw [List.foldl_cons]
    have : begS s m = s := by unfold begS; rw [if_pos (h m (by simp))]
    rw [this]
    exact beg_none r s fun x hx => h x (by simp [hx])

theorem do_none (N : Nat) (s : MSt) (to : Int) (h : s.F to = none) : doF N s to = s := by
  cases N with
  | zero => rfl
  | succ n => rw [doF, h]

theorem free_none (N : Nat) : ∀ (l : List (Int × Int)) (s : MSt), (∀ x, s.F x = none) → freeF N l s = s
  | [], _, _ => rfl
  | m :: r, s, h => by
    unfold freeF
    rw [List.foldl_cons, do_none N s m.1 (h _)]
    exact free_none N r s h

theorem order_none (l : List (Int × Int)) (spare : Int) (h : ∀ m ∈ l, m.1 = m.2) : orderF l spare = some ([], 0) := by
  have h1 : begF l = ⟨fun _ => none, fun _ => 0, []⟩ := beg_none l _ h
  unfold orderF ringF
  rw [h1, free_none _ _ _ (fun _ => rfl), ring_done _ _ _ _ (fun _ => rfl)]
  rfl

/-- Two places that change. -/
theorem order_two (spare : Int) (h : spare = 9 ∨ spare = 1001) : ∃ o, orderF [(1, 2), (2, 1)] spare = some (o, 1) ∧ o.length = 3 := by
  rcases h with rfl | rfl
  · exact ⟨[(9, 1), (1, 2), (2, 9)], by decide, rfl⟩
  · exact ⟨[(1001, 1), (1, 2), (2, 1001)], by decide, rfl⟩

end Go.Proofs.YtflbjfcmnopfaaaDoor

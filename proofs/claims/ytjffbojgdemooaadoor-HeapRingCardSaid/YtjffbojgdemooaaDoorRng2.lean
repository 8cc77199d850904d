/-
  HeapRing: the objects, and what is reached.
-/
import Derived.Test.YtjffbojgdemooaaDoorRng1
import Derived.Test.YtjffbojgdemooaaDoorHFirst
namespace Go.Proofs.YtjffbojgdemooaaDoor
open Go.RowKit

def obR (n : Nat) (p : Nat) : Option (Int × Nat) := if mkB n p = true then some (0, 2) else none

theorem ring_obj (v : Int) {n k p : Nat} (hn : n ≤ 40) (h : mkB n p = true) : Obj1 2000 (ptW v n k) (mkB n) 1 irF p 0 2 := by
  have hl := mkB_lt n hn p h
  exact ⟨by omega, h, by rw [ptW_head v n k p ((heads_mk n).four p h)]; exact (heads_mk n).head p h, by omega, by decide, by decide, fun c hc => ⟨by omega, rfl⟩⟩

theorem ring_objs (v : Int) {n : Nat} (hn : n ≤ 40) : Objs 2000 (ptW v n n) (mkB n) 1 irF (obR n) where
  has := fun p kl m h => by
    unfold obR at h
    split at h
    · rename_i hb
      cases h
      exact ring_obj v hn hb
    · cases h
  no := fun p _ h => by
    unfold obR at h
    split at h
    · cases h
    · rename_i hb
      simpa using hb
  wf := fun j _ => ptW_wf v n n hn j

theorem ring_ob {n a : Nat} (ha : a < n) : obR n (rgP a) = some (0, 2) := by unfold obR; rw [if_pos (mkB_at n a ha)]

theorem ring_is {n : Nat} (hn : n ≤ 40) : ∀ a, a < n → isB (obR n) 2000 (((rgP a : Nat) : Int) + 1) = true := fun a ha => by
  have hl := rgP_le (show a < 41 by omega)
  unfold isB
  rw [show (((rgP a : Nat) : Int) + 1 - 1).toNat = rgP a by omega, ring_ob ha]
  simp
  omega

theorem ring_is0 (n : Nat) : isB (obR n) 2000 0 = false := by simp [isB]

theorem ring_refsTo (v : Int) {n : Nat} (hn : n ≤ 40) (a : Nat) (ha : a < n) : refsTo (ptW v n n) irF 0 (rgP a) 2 = [((rgP ((a + 1) % n) : Nat) : Int) + 1] := by
  have h3 := (ptW_vals v n n a ha hn).2
  have e1 : refK irF 0 0 = false := by decide
  have e2 : refK irF 0 1 = true := by decide
  have h4 : ((rgP ((a + 1) % n) : Nat) : Int) + 1 ≠ 0 := by omega
  show ([] ++ (if refK irF 0 0 && ptW v n n (rgP a + 2 + 0) != 0 then [ptW v n n (rgP a + 2 + 0)] else [])) ++ (if refK irF 0 1 && ptW v n n (rgP a + 2 + 1) != 0 then [ptW v n n (rgP a + 2 + 1)] else []) = _
  rw [e1, e2, show rgP a + 2 + 1 = rgP a + 3 from rfl, h3]
  simp [h4]

theorem ring_refs (v : Int) {n : Nat} (hn : n ≤ 40) : ∀ a, a < n → refsB (ptW v n n) irF (obR n) (((rgP a : Nat) : Int) + 1) = [((rgP ((a + 1) % n) : Nat) : Int) + 1] := fun a ha => by
  unfold refsB
  rw [show (((rgP a : Nat) : Int) + 1 - 1).toNat = rgP a by omega, ring_ob ha]
  exact ring_refsTo v hn a ha

theorem ring_refs0 (v : Int) {n : Nat} (hn : n ≤ 40) (h0 : 0 < n) : ∀ x ∈ refsB (ptW v n n) irF (obR n) 0, ∃ a, a < n ∧ x = ((rgP a : Nat) : Int) + 1 := fun x hx => by
  unfold refsB at hx
  have e : obR n ((0 : Int) - 1).toNat = some (0, 2) := ring_ob (n := n) (a := 0) h0
  rw [e] at hx
  have hx2 : x ∈ refsTo (ptW v n n) irF 0 (rgP 0) 2 := hx
  rw [ring_refsTo v hn 0 h0] at hx2
  exact ⟨(0 + 1) % n, Nat.mod_lt _ h0, List.mem_singleton.1 hx2⟩

/-- What is told of the ring from its s-th object on. -/
theorem ring_told (v : Int) {n s k : Nat} (hn : n ≤ 40) (h0 : 0 < n) (hs : s < n)
    (hk : (outN (isB (obR n) 2000) (refsB (ptW v n n) irF (obR n)) [((rgP s : Nat) : Int) + 1, 0, ((rgP s : Nat) : Int) + 1] k).length = k) :
    k = n ∧ outN (isB (obR n) 2000) (refsB (ptW v n n) irF (obR n)) [((rgP s : Nat) : Int) + 1, 0, ((rgP s : Nat) : Int) + 1] k = rgL rgP n s n :=
  ring_end h0 hs (fun a b ha hb h => rgP_inj (by omega) (by omega) h) (ring_is hn) (ring_is0 n) (ring_refs v hn) (ring_refs0 v hn h0) hk

theorem rgL_nodup (P : Nat → Nat) (n s : Nat) (hP : ∀ a b, a < n → b < n → P a = P b → a = b) : ∀ k, k ≤ n → (rgL P n s k).Nodup
  | 0, _ => by simp [rgL]
  | k + 1, h => by
    rw [rgL_next, List.nodup_append]
    refine ⟨rgL_nodup P n s hP k (by omega), by simp, fun a ha b hb e => ?_⟩
    simp at hb
    subst hb
    obtain ⟨t, ht, e2⟩ := rgL_mem.1 (e ▸ ha)
    have h2 : P ((s + k) % n) = P ((s + t) % n) := by omega
    have hn : 0 < n := by omega
    exact mod_ne (n := n) (s := s) ht (by omega) (hP _ _ (Nat.mod_lt _ hn) (Nat.mod_lt _ hn) h2).symm

/-- The number of the t-th object told. -/
theorem ring_num {n s t : Nat} (hn : n ≤ 40) (ht : t < n) : toldF (rgL rgP n s n) (((rgP ((s + t) % n) : Nat) : Int) + 1) = t := by
  have hm : (((rgP ((s + t) % n) : Nat) : Int) + 1) ∈ rgL rgP n s n := rgL_mem.2 ⟨t, ht, rfl⟩
  have hnd := rgL_nodup rgP n s (fun a b ha hb h => rgP_inj (by omega) (by omega) h) n (Nat.le_refl _)
  unfold toldF
  rw [if_pos (by simpa using hm)]
  have hl : t < (rgL rgP n s n).length := by rw [rgL_len]; exact ht
  have e : (rgL rgP n s n)[t] = ((rgP ((s + t) % n) : Nat) : Int) + 1 := by
    have := rgL_at rgP n s n t ht
    rw [List.getD_eq_getElem?_getD, List.getElem?_eq_getElem hl] at this
    exact this
  rw [← e, hnd.idxOf_getElem]

/-- The two values of the t-th object told. -/
theorem ring_vals (v : Int) {n s t : Nat} (hn : n ≤ 40) (h0 : 0 < n) (_hs : s < n) (_ht : t < n) :
    valF (ptW v n n) irF (rgL rgP n s n) 0 (rgP ((s + t) % n)) 0 = IntKind.i64.wrap (v + ((s + t) % n : Nat)) ∧ valF (ptW v n n) irF (rgL rgP n s n) 0 (rgP ((s + t) % n)) 1 = ((t + 1) % n : Nat) := by
  obtain ⟨h1, h2⟩ := ptW_vals v n n ((s + t) % n) (Nat.mod_lt _ h0) hn
  have e1 : refK irF 0 0 = false := by decide
  have e2 : refK irF 0 1 = true := by decide
  unfold valF
  rw [e1, e2]
  refine ⟨h1, ?_⟩
  show toldF _ (ptW v n n (rgP ((s + t) % n) + 3)) = _
  rw [h2]
  have e3 : ((s + t) % n + 1) % n = (s + (t + 1) % n) % n := by rw [Nat.mod_add_mod, Nat.add_mod_mod]; rfl
  rw [e3]
  exact ring_num hn (Nat.mod_lt _ h0)

end Go.Proofs.YtjffbojgdemooaaDoor

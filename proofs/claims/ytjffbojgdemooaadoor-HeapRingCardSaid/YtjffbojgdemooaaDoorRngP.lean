/-
  HeapRing: the two puts of a round.
-/
import Derived.Test.YtjffbojgdemooaaDoorRng2
namespace Go.Proofs.YtjffbojgdemooaaDoor
open Go.RowKit

theorem obj_put {N : Nat} {wd : Nat → Int} {bd : Nat → Bool} {cl : Nat} {cf : Nat → ByteArray} {p : Nat} {kl : Int} {m : Nat} (h : Obj1 N wd bd cl cf p kl m) {j : Nat} (hj : p ≠ j) (x : Int) : Obj1 N (putW wd j x) bd cl cf p kl m :=
  ⟨h.lt, h.beg, by rw [putW_other _ _ hj]; exact h.head, h.fit, h.lo, h.hi, h.cls⟩

def Ring2 (N hb ab gb bg : Nat) (cp : Option Addr) (cx B n k : Nat) (v : Int) (mk : Value) (ns : List Int) (wA : World) (e : Ending) (w' : World) : Prop :=
  ∃ mk' ns', e = .returned (.bool true) ∧ Hp B hb ab gb bg cp 1 cx irF 2000 100 ((4 * ((n + 2) / 3) : Nat) : Int) ((100 + 4 * n : Nat) : Int) 1050 1050 2000 1050 (ptW v n (k + 1)) (mkB n) mk' w' ∧ Mkr N hb ab gb bg cp mk' ns' w' ∧ ns'.length ≤ ns.length + 1 ∧ Mks hb gb bg mk mk' wA w'

theorem put_ring2 {N hb ab gb bg : Nat} {cp : Option Addr} {cx B n k : Nat} {mk : Value} {ns : List Int} (v : Int) (wA : World) (hk : k < n) (hn : n ≤ 40) (hns : ns.length ≤ 100)
    (h : Hp B hb ab gb bg cp 1 cx irF 2000 100 ((4 * ((n + 2) / 3) : Nat) : Int) ((100 + 4 * n : Nat) : Int) 1050 1050 2000 1050 (putW (ptW v n k) (rgP k + 2 + 0) (IntKind.i64.wrap (v + k))) (mkB n) mk wA) (hm : Mkr N hb ab gb bg cp mk ns wA) :
    Calls Tryd.prog 75 #[.pointer (some ⟨hb, 0, none⟩), .int .i64 (((rgP k : Nat) : Int) + 1), .int .i64 ((1 : Nat) : Int), .int .i64 (((rgP ((k + 1) % n) : Nat) : Int) + 1)] wA (Ring2 N hb ab gb bg cp cx B n k v mk ns wA) := by
  have hk' : (k + 1) % n < n := Nat.mod_lt _ (by omega)
  have m1 := rgP_mod k
  have m2 := rgP_mod ((k + 1) % n)
  have op : Obj1 2000 (putW (ptW v n k) (rgP k + 2 + 0) (IntKind.i64.wrap (v + k))) (mkB n) 1 irF (rgP k) 0 2 := obj_put (ring_obj v hn (mkB_at n k hk)) (by omega) _
  have oq : Obj1 2000 (putW (ptW v n k) (rgP k + 2 + 0) (IntKind.i64.wrap (v + k))) (mkB n) 1 irF (rgP ((k + 1) % n)) 0 2 := obj_put (ring_obj v hn (mkB_at n _ hk')) (by omega) _
  have e2 : refK irF 0 1 = true := by decide
  cases hmk : marks n k with
  | true =>
    unfold marks at hmk
    have h1 : ¬ k % 3 = 0 ∧ ((k + 1) % n) % 3 = 0 := by simpa using hmk
    have hw : putW (ptW v n k) (rgP k + 2 + 0) (IntKind.i64.wrap (v + k)) (rgP k + 1) = 0 := by
      rw [putW_other _ _ (by omega), ptW_before v n k k 1 (Nat.le_refl _) (by omega) (by decide)]
      refine (heads_mk n).rest _ ?_
      cases hb : mkB n (rgP k + 1) with
      | false => rfl
      | true => have := (heads_mk n).four _ hb; omega
    refine (put_mark (rgP k) 0 2 1 (rgP ((k + 1) % n)) 0 2 wA h hm hw (by omega) op (by decide) e2 oq (by unfold rgP; rw [if_pos h1.2]; omega) (by unfold rgP; rw [if_neg h1.1]; omega)).mono ?_
    rintro e w' ⟨mk', rfl, hH, hM, hQ⟩
    have he : putW (putW (putW (ptW v n k) (rgP k + 2 + 0) (IntKind.i64.wrap (v + k))) (rgP k + 1) 1) (rgP k + 2 + 1) (((rgP ((k + 1) % n) : Nat) : Int) + 1) = ptW v n (k + 1) := by
      show _ = putW (if marks n k = true then _ else _) _ _
      rw [if_pos (by unfold marks; exact hmk)]
    rw [he] at hH
    exact ⟨mk', _, rfl, hH, hM, by simp, hQ⟩
  | false =>
    unfold marks at hmk
    have h1 : k % 3 = 0 ∨ ¬ ((k + 1) % n) % 3 = 0 := by
      by_cases h3 : k % 3 = 0
      · exact .inl h3
      · refine .inr fun h4 => ?_
        simp [h3, h4] at hmk
    refine (put_ref (rgP k) 0 2 1 (rgP ((k + 1) % n)) 0 2 wA h op (by decide) e2 oq (by
      rcases h1 with h3 | h3
      · right; unfold rgP; rw [if_pos h3]; omega
      · left; unfold rgP; rw [if_neg h3]; omega)).mono ?_
    rintro e w' ⟨rfl, hH, hT⟩
    have he : putW (putW (ptW v n k) (rgP k + 2 + 0) (IntKind.i64.wrap (v + k))) (rgP k + 2 + 1) (((rgP ((k + 1) % n) : Nat) : Int) + 1) = ptW v n (k + 1) := by
      show _ = putW (if marks n k = true then _ else _) _ _
      rw [if_neg (by unfold marks; rw [hmk]; decide)]
    rw [he] at hH
    exact ⟨mk, ns, rfl, hH, hm.tri hT, by omega, Mks.of_tri hT⟩

end Go.Proofs.YtjffbojgdemooaaDoor

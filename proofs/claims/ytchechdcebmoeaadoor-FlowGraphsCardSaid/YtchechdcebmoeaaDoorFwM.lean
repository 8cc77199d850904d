/-
  flow.newWalk, plainly: what the walk has seen of its edges.
-/
import Derived.Test.YtchechdcebmoeaaDoorFwL
namespace Go.Proofs.YtchechdcebmoeaaDoor
open Go.RowKit

/-- What the walk has seen of its edges. -/
structure EdgW (g : List (List Int)) (s : Wk) : Prop where
  lp : ∀ a b, (a, b) ∈ s.loops → s.st b ≠ 0
  la : ∀ a b, (a, b) ∈ s.loops → s.st a ≠ 0
  lq : ∀ (l r : List (Nat × Nat)) (a k : Nat), s.path = l ++ (a, k) :: r → ∀ b, (a, b) ∈ s.loops → b ∈ l.map Prod.fst ∨ b = a
  pt : ∀ (l r : List (Nat × Nat)) (v k : Nat), s.path = l ++ (v, k) :: r → ∀ e, e < k → ∀ y : Nat, edgeW g v e = y → y < g.length →
    ((∃ k2 r2, r = (y, k2) :: r2) ∧ (v, y) ∉ s.loops) ∨ (y ∈ s.left ∧ (v, y) ∉ s.loops) ∨ ((v, y) ∈ s.loops ∧ (y ∈ l.map Prod.fst ∨ y = v))
  lf : ∀ v ∈ s.left, ∀ e, e < degW g v → ∀ y : Nat, edgeW g v e = y → y < g.length →
    (y ∈ s.left ∧ s.left.idxOf y < s.left.idxOf v ∧ (v, y) ∉ s.loops) ∨ ((v, y) ∈ s.loops ∧ (y ∈ s.path.map Prod.fst ∨ (y ∈ s.left ∧ s.left.idxOf v ≤ s.left.idxOf y)))

theorem split_last {l r : List (Nat × Nat)} {d : List (Nat × Nat)} {x a : Nat × Nat} (h : d ++ [x] = l ++ a :: r) : (r = [] ∧ l = d ∧ a = x) ∨ ∃ r', r = r' ++ [x] ∧ d = l ++ a :: r' := by
  rcases List.eq_nil_or_concat r with e | ⟨r', z, e⟩
  · subst e
    have := List.append_inj' h rfl
    exact .inl ⟨rfl, this.1.symm, by simpa using this.2.symm⟩
  · subst e
    have h2 : d ++ [x] = (l ++ a :: r') ++ [z] := by rw [h]; simp
    have := List.append_inj' h2 rfl
    refine .inr ⟨r', ?_, this.1⟩
    rw [show x = z by simpa using this.2]
    simp

theorem EdgW.step {g : List (List Int)} {s : Wk} (b : BasW s) (h : EdgW g s) {v k : Nat} (hp : s.path.getLast? = some (v, k)) (hkd : k ≤ degW g v) (hst : ∀ w, s.st w ≤ 2) : EdgW g (stepW g s v k) := by
  have hsp := last_split hp
  have hmf : s.path.map Prod.fst = s.path.dropLast.map Prod.fst ++ [v] := by
    conv => lhs; rw [hsp]
    rw [List.map_append]
    rfl
  have hnp := b.nodupP
  rw [hmf] at hnp
  have hv1 : s.st v = 1 := (b.one v).2 (by rw [hmf]; simp)
  have hvl : v ∉ s.left := fun hm => by have := (b.two v).2 hm; omega
  unfold stepW
  by_cases hk : k = degW g v
  · rw [if_pos hk]
    have hidx : ∀ y, y ∈ s.left → (s.left ++ [v]).idxOf y = s.left.idxOf y := fun y hy => by rw [List.idxOf_append, if_pos hy]
    have hidv : (s.left ++ [v]).idxOf v = s.left.length := by rw [List.idxOf_append, if_neg hvl]; simp
    refine ⟨fun a c hl => ?_, fun a c hl => ?_, fun l r a m hpa b2 hb => ?_, fun l r u m hpu e he y hy hyg => ?_, fun u hu e he y hy hyg => ?_⟩
    · show setN s.st v 2 c ≠ 0
      unfold setN
      split
      · decide
      · exact h.lp a c hl
    · show setN s.st v 2 a ≠ 0
      unfold setN
      split
      · decide
      · exact h.la a c hl
    · have hpa2 : s.path.dropLast = l ++ (a, m) :: r := hpa
      exact h.lq l (r ++ [(v, k)]) a m (by rw [hsp, hpa2]; simp) b2 hb
    · have hpu2 : s.path.dropLast = l ++ (u, m) :: r := hpu
      have := h.pt l (r ++ [(v, k)]) u m (by rw [hsp, hpu2]; simp) e he y hy hyg
      rcases this with ⟨⟨k2, r2, hr⟩, hn⟩ | ⟨hyl, hn⟩ | h3
      · cases r with
        | nil =>
          simp at hr
          exact .inr (.inl ⟨by show y ∈ s.left ++ [v]; simp [hr.1], hn⟩)
        | cons a r' =>
          simp at hr
          exact .inl ⟨⟨k2, r', by rw [hr.1]⟩, hn⟩
      · exact .inr (.inl ⟨List.mem_append_left _ hyl, hn⟩)
      · exact .inr (.inr h3)
    · have hu2 : u ∈ s.left ++ [v] := hu
      rcases List.mem_append.1 hu2 with h1 | h1
      · rcases h.lf u h1 e he y hy hyg with ⟨a1, a2, a3⟩ | ⟨a1, a2⟩
        · exact .inl ⟨List.mem_append_left _ a1, by show (s.left ++ [v]).idxOf y < (s.left ++ [v]).idxOf u; rw [hidx y a1, hidx u h1]; exact a2, a3⟩
        · refine .inr ⟨a1, ?_⟩
          rcases a2 with a2 | ⟨a2, a3⟩
          · rw [hmf] at a2
            rcases List.mem_append.1 a2 with a4 | a4
            · exact .inl a4
            · simp at a4
              subst a4
              refine .inr ⟨by show y ∈ s.left ++ [y]; simp, ?_⟩
              show (s.left ++ [y]).idxOf u ≤ (s.left ++ [y]).idxOf y
              rw [hidx u h1, hidv]
              exact List.idxOf_le_length
          · exact .inr ⟨List.mem_append_left _ a2, by show (s.left ++ [v]).idxOf u ≤ (s.left ++ [v]).idxOf y; rw [hidx y a2, hidx u h1]; exact a3⟩
      · simp at h1
        subst h1
        have := h.pt s.path.dropLast [] u k hsp e (by omega) y hy hyg
        rcases this with ⟨⟨k2, r2, hr⟩, _⟩ | ⟨hyl, hn⟩ | ⟨h3, h4⟩
        · cases hr
        · refine .inl ⟨List.mem_append_left _ hyl, ?_, hn⟩
          show (s.left ++ [u]).idxOf y < (s.left ++ [u]).idxOf u
          rw [hidx y hyl, hidv]
          exact List.idxOf_lt_length_of_mem hyl
        · refine .inr ⟨h3, ?_⟩
          rcases h4 with h4 | h4
          · exact .inl h4
          · subst h4
            exact .inr ⟨by show y ∈ s.left ++ [y]; simp, Nat.le_refl _⟩
  · rw [if_neg hk]
    have hd := hsp
    generalize hdd : s.path.dropLast = d at *
    have split2 : ∀ (P2 : List (Nat × Nat)), (P2 = [] ∨ ∃ y0, P2 = [(y0, 0)]) → ∀ (l r : List (Nat × Nat)) (u m : Nat), d ++ (v, k + 1) :: P2 = l ++ (u, m) :: r → m ≠ 0 → (l = d ∧ u = v ∧ m = k + 1 ∧ r = P2) ∨ ∃ r', r = r' ++ (v, k + 1) :: P2 ∧ d = l ++ (u, m) :: r' := by
      intro P2 hP l r u m hpu hm
      have one : ∀ (r : List (Nat × Nat)), d ++ [(v, k + 1)] = l ++ (u, m) :: r → (l = d ∧ u = v ∧ m = k + 1 ∧ r = []) ∨ ∃ r', r = r' ++ [(v, k + 1)] ∧ d = l ++ (u, m) :: r' := fun r h => by
        rcases split_last h with ⟨e1, e2, e3⟩ | ⟨r', e1, e2⟩
        · cases e3
          exact .inl ⟨e2, rfl, rfl, e1⟩
        · exact .inr ⟨r', e1, e2⟩
      rcases hP with rfl | ⟨y0, rfl⟩
      · exact one r hpu
      · have h2 : (d ++ [(v, k + 1)]) ++ [(y0, 0)] = l ++ (u, m) :: r := by rw [← hpu]; simp
        rcases split_last h2 with ⟨e1, e2, e3⟩ | ⟨r1, e1, e2⟩
        · cases e3; exact absurd rfl hm
        · rcases one r1 e2 with ⟨a1, a2, a3, a4⟩ | ⟨r', a1, a2⟩
          · exact .inl ⟨a1, a2, a3, by rw [e1, a4]; rfl⟩
          · exact .inr ⟨r', by rw [e1, a1]; simp, a2⟩
    have main : ∀ (lo P2 : List (Nat × Nat)), (P2 = [] ∨ ∃ y0, P2 = [(y0, 0)]) → (∀ p ∈ s.loops, p ∈ lo) → (∀ p ∈ lo, p ∈ s.loops ∨ p.1 = v) → (∀ y, y ∈ s.left → (v, y) ∉ s.loops → (v, y) ∉ lo) →
        (∀ y : Nat, edgeW g v k = y → y < g.length → ((∃ k2 r2, P2 = (y, k2) :: r2) ∧ (v, y) ∉ lo) ∨ (y ∈ s.left ∧ (v, y) ∉ lo) ∨ ((v, y) ∈ lo ∧ (y ∈ d.map Prod.fst ∨ y = v))) →
        ∀ (l r : List (Nat × Nat)) (u m : Nat), d ++ (v, k + 1) :: P2 = l ++ (u, m) :: r → ∀ e, e < m → ∀ y : Nat, edgeW g u e = y → y < g.length →
        ((∃ k2 r2, r = (y, k2) :: r2) ∧ (u, y) ∉ lo) ∨ (y ∈ s.left ∧ (u, y) ∉ lo) ∨ ((u, y) ∈ lo ∧ (y ∈ l.map Prod.fst ∨ y = u)) := by
      intro lo P2 hP h1 h2 h3 h4 l r u m hpu e he y hy hyg
      rcases split2 P2 hP l r u m hpu (by omega) with ⟨rfl, rfl, rfl, rfl⟩ | ⟨r', hr, hdl⟩
      · by_cases hek : e = k
        · subst hek
          exact h4 y hy hyg
        · rcases h.pt l [] u k hd e (by omega) y hy hyg with ⟨⟨k2, r2, hr⟩, _⟩ | ⟨hyl, hn⟩ | ⟨a1, a2⟩
          · cases hr
          · exact .inr (.inl ⟨hyl, h3 y hyl hn⟩)
          · exact .inr (.inr ⟨h1 _ a1, a2⟩)
      · have huv : u ≠ v := fun e => by
          subst e
          refine (List.nodup_append.1 hnp).2.2 u ?_ u (by simp) rfl
          rw [hdl]
          simp
        have hno : (u, y) ∉ s.loops → (u, y) ∉ lo := fun hn hm => by
          rcases h2 _ hm with h5 | h5
          · exact hn h5
          · exact huv h5
        rcases h.pt l (r' ++ [(v, k)]) u m (by rw [hd, hdl]; simp) e he y hy hyg with ⟨⟨k2, r2, hr2⟩, hn⟩ | ⟨hyl, hn⟩ | ⟨a1, a2⟩
        · refine .inl ⟨?_, hno hn⟩
          cases r' with
          | nil => simp at hr2; exact ⟨k + 1, P2, by rw [hr, hr2.1.1]; rfl⟩
          | cons a r'' => simp at hr2; exact ⟨k2, r'' ++ (v, k + 1) :: P2, by rw [hr, hr2.1]; rfl⟩
        · exact .inr (.inl ⟨hyl, hno hn⟩)
        · exact .inr (.inr ⟨h1 _ a1, a2⟩)
    have mainL : ∀ (lo P2 : List (Nat × Nat)), (∀ p ∈ s.loops, p ∈ lo) → (∀ p ∈ lo, p ∈ s.loops ∨ p.1 = v) → ∀ u ∈ s.left, ∀ e, e < degW g u → ∀ y : Nat, edgeW g u e = y → y < g.length →
        (y ∈ s.left ∧ s.left.idxOf y < s.left.idxOf u ∧ (u, y) ∉ lo) ∨ ((u, y) ∈ lo ∧ (y ∈ (d ++ (v, k + 1) :: P2).map Prod.fst ∨ (y ∈ s.left ∧ s.left.idxOf u ≤ s.left.idxOf y))) := by
      intro lo P2 h1 h2 u hu e he y hy hyg
      have huv : u ≠ v := fun e => hvl (by rw [← e]; exact hu)
      rcases h.lf u hu e he y hy hyg with ⟨a1, a2, a3⟩ | ⟨a1, a2⟩
      · exact .inl ⟨a1, a2, fun hm => by
          rcases h2 _ hm with h5 | h5
          · exact a3 h5
          · exact huv h5⟩
      · refine .inr ⟨h1 _ a1, a2.imp (fun a4 => ?_) id⟩
        rw [hmf] at a4
        rcases List.mem_append.1 a4 with a5 | a5
        · rw [List.map_append]; exact List.mem_append_left _ a5
        · simp at a5
          rw [List.map_append, a5]
          simp
    have mainQ : ∀ (lo P2 : List (Nat × Nat)), (P2 = [] ∨ ∃ y0, P2 = [(y0, 0)] ∧ s.st y0 = 0 ∧ v ≠ y0) → (∀ p ∈ lo, p ∈ s.loops ∨ (p.1 = v ∧ (p.2 ∈ d.map Prod.fst ∨ p.2 = v))) →
        ∀ (l r : List (Nat × Nat)) (a m : Nat), d ++ (v, k + 1) :: P2 = l ++ (a, m) :: r → ∀ b, (a, b) ∈ lo → b ∈ l.map Prod.fst ∨ b = a := by
      intro lo P2 hP h2 l r a m hpa b2 hb
      by_cases hm0 : m = 0
      · subst hm0
        -- the new place, which no loop names, or one of those that were there
        have hmem : (a, 0) ∈ d ++ (v, k + 1) :: P2 := by rw [hpa]; simp
        rcases hP with rfl | ⟨y0, rfl, hy0, hvy⟩
        · rcases split_last hpa with ⟨e1, e2, e3⟩ | ⟨r', e1, e2⟩
          · cases e3
          · rcases h2 _ hb with h5 | ⟨h5, h6⟩
            · exact h.lq l (r' ++ [(v, k)]) a 0 (by rw [hd, e2]; simp) b2 h5
            · exfalso
              dsimp only at h5
              subst h5
              refine (List.nodup_append.1 hnp).2.2 a ?_ a (by simp) rfl
              rw [e2]; simp
        · have h3 : (d ++ [(v, k + 1)]) ++ [(y0, 0)] = l ++ (a, 0) :: r := by rw [← hpa]; simp
          rcases split_last h3 with ⟨e1, e2, e3⟩ | ⟨r1, e1, e2⟩
          · cases e3
            rcases h2 _ hb with h5 | ⟨h5, _⟩
            · exact absurd hy0 (h.la _ _ h5)
            · exact absurd h5.symm hvy
          · rcases split_last e2 with ⟨e4, e5, e6⟩ | ⟨r', e4, e5⟩
            · cases e6
            · rcases h2 _ hb with h5 | ⟨h5, h6⟩
              · exact h.lq l (r' ++ [(v, k)]) a 0 (by rw [hd, e5]; simp) b2 h5
              · exfalso
                dsimp only at h5
                subst h5
                refine (List.nodup_append.1 hnp).2.2 a ?_ a (by simp) rfl
                rw [e5]; simp
      · rcases split2 P2 (hP.imp id fun ⟨y0, e, _⟩ => ⟨y0, e⟩) l r a m hpa hm0 with ⟨rfl, rfl, rfl, rfl⟩ | ⟨r', hr, hdl⟩
        · rcases h2 _ hb with h5 | ⟨_, h6⟩
          · exact h.lq l [] a k hd b2 h5
          · exact h6
        · rcases h2 _ hb with h5 | ⟨h5, h6⟩
          · exact h.lq l (r' ++ [(v, k)]) a m (by rw [hd, hdl]; simp) b2 h5
          · exfalso
            dsimp only at h5
            subst h5
            refine (List.nodup_append.1 hnp).2.2 a ?_ a (by simp) rfl
            rw [hdl]; simp
    unfold meetW
    generalize hyy : edgeW g v k = y at *
    by_cases h1 : y < 0 ∨ (g.length : Int) ≤ y
    · rw [if_pos h1]
      exact ⟨h.lp, h.la, mainQ s.loops [] (.inl rfl) (fun _ h => .inl h), main s.loops [] (.inl rfl) (fun _ h => h) (fun _ h => .inl h) (fun _ _ h => h) (fun z hz hzg => by omega), mainL s.loops [] (fun _ h => h) (fun _ h => .inl h)⟩
    · rw [if_neg h1]
      dsimp only
      by_cases h2 : s.st y.toNat = 0
      · rw [if_pos h2]
        dsimp only
        have hnl : (v, y.toNat) ∉ s.loops := fun hm => h.lp _ _ hm h2
        refine ⟨fun a c hl => ?_, fun a c hl => ?_, fun l r a m hpa => mainQ s.loops [(y.toNat, 0)] (.inr ⟨_, rfl, h2, fun e => by rw [← e] at h2; omega⟩) (fun _ h => .inl h) l r a m (by rw [← hpa]; simp), fun l r u m hpu => main s.loops [(y.toNat, 0)] (.inr ⟨_, rfl⟩) (fun _ h => h) (fun _ h => .inl h) (fun _ _ h => h) (fun z hz hzg => ?_) l r u m (by rw [← hpu]; simp), fun u hu e he z hz hzg => ?_⟩
        · show setN s.st y.toNat 1 c ≠ 0
          unfold setN
          split
          · decide
          · exact h.lp a c hl
        · show setN s.st y.toNat 1 a ≠ 0
          unfold setN
          split
          · decide
          · exact h.la a c hl
        · have : z = y.toNat := by omega
          subst this
          exact .inl ⟨⟨0, [], rfl⟩, hnl⟩
        · have := mainL s.loops [(y.toNat, 0)] (fun _ h => h) (fun _ h => .inl h) u hu e he z hz hzg
          rw [show d ++ (v, k + 1) :: [(y.toNat, 0)] = d ++ [(v, k + 1)] ++ [(y.toNat, 0)] by simp] at this
          exact this
      · rw [if_neg h2]
        by_cases h3 : s.st y.toNat = 1
        · rw [if_pos h3]
          have hyp : y.toNat ∈ s.path.map Prod.fst := (b.one _).1 h3
          have hyl : y.toNat ∉ s.left := fun hm => by have := (b.two _).2 hm; omega
          have ha : ∀ p ∈ s.loops, p ∈ s.loops ++ [(v, y.toNat)] := fun p hp => List.mem_append_left _ hp
          have hb : ∀ p ∈ s.loops ++ [(v, y.toNat)], p ∈ s.loops ∨ p.1 = v := fun p hp => by
            rcases List.mem_append.1 hp with h4 | h4
            · exact .inl h4
            · simp at h4; exact .inr (by rw [h4])
          have hc : ∀ p ∈ s.loops ++ [(v, y.toNat)], p ∈ s.loops ∨ (p.1 = v ∧ (p.2 ∈ d.map Prod.fst ∨ p.2 = v)) := fun p hp => by
            rcases List.mem_append.1 hp with h4 | h4
            · exact .inl h4
            · simp at h4
              rw [hmf] at hyp
              rw [h4]
              exact .inr ⟨rfl, by
                rcases List.mem_append.1 hyp with h5 | h5
                · exact .inl h5
                · exact .inr (by simpa using h5)⟩
          refine ⟨fun a c hl => ?_, fun a c hl => ?_, mainQ (s.loops ++ [(v, y.toNat)]) [] (.inl rfl) hc, main (s.loops ++ [(v, y.toNat)]) [] (.inl rfl) ha hb (fun z hz hn hm => ?_) (fun z hz hzg => ?_), mainL (s.loops ++ [(v, y.toNat)]) [] ha hb⟩
          · rcases List.mem_append.1 hl with h4 | h4
            · exact h.lp a c h4
            · simp at h4; rw [h4.2]; exact h2
          · rcases List.mem_append.1 hl with h4 | h4
            · exact h.la a c h4
            · simp at h4; rw [h4.1, hv1]; decide
          · rcases List.mem_append.1 hm with h4 | h4
            · exact hn h4
            · simp at h4; subst h4; exact hyl hz
          · have : z = y.toNat := by omega
            subst this
            refine .inr (.inr ⟨by simp, ?_⟩)
            rw [hmf] at hyp
            rcases List.mem_append.1 hyp with h4 | h4
            · exact .inl h4
            · exact .inr (by simpa using h4)
        · rw [if_neg h3]
          have hnl0 : y.toNat ∈ s.left := (b.two _).1 (by have := hst y.toNat; omega)
          refine ⟨h.lp, h.la, mainQ s.loops [] (.inl rfl) (fun _ h => .inl h), main s.loops [] (.inl rfl) (fun _ h => h) (fun _ h => .inl h) (fun _ _ h => h) (fun z hz hzg => ?_), mainL s.loops [] (fun _ h => h) (fun _ h => .inl h)⟩
          have : z = y.toNat := by omega
          subst this
          by_cases hm : (v, y.toNat) ∈ s.loops
          · exfalso
            have h6 : y.toNat ∈ s.path.map Prod.fst := by
              rw [hmf]
              rcases h.lq d [] v k hd _ hm with h5 | h5
              · exact List.mem_append_left _ h5
              · exact List.mem_append_right _ (by simp [h5])
            have := (b.one _).2 h6
            omega
          · exact .inr (.inl ⟨hnl0, hm⟩)

theorem EdgW.begin (g : List (List Int)) : EdgW g beginW := by
  refine ⟨fun a b h => by simp [beginW] at h, fun a b h => by simp [beginW] at h, fun l r a k _ b h => by simp [beginW] at h, fun l r v k hp e he => ?_, fun v hv => by simp [beginW] at hv⟩
  have h2 : [((0 : Nat), (0 : Nat))] = l ++ (v, k) :: r := hp
  cases l with
  | nil => simp at h2; omega
  | cons a l' => simp at h2

/-- What the whole walk has seen: of a place left, each edge's target was left before it and no loop tells it, or a loop tells it and its target was left no sooner. -/
theorem walk_edges (g : List (List Int)) (h0 : 0 < g.length) : ∀ v ∈ (walkW g).left, ∀ e, e < degW g v → ∀ y : Nat, edgeW g v e = y → y < g.length →
    y ∈ (walkW g).left ∧ (((walkW g).left.idxOf v ≤ (walkW g).left.idxOf y) ↔ (v, y) ∈ (walkW g).loops) := by
  have hne : g ≠ [] := fun e => by rw [e] at h0; simp at h0
  have hok : OkW g (muW g beginW + 1) beginW :=
    ⟨fun p hp => by simp [beginW] at hp; subst hp; exact ⟨h0, Nat.zero_le _⟩, fun v => by unfold beginW setN; dsimp only; split <;> decide, fun v hv => by simp [beginW] at hv, fun e he => by simp [beginW] at he, by simp [beginW]; omega⟩
  have all : OkW g (muW g beginW + 1) (walkW g) ∧ BasW (walkW g) ∧ EdgW g (walkW g) := by
    unfold walkW
    rw [if_neg hne]
    refine run_keeps (P := fun s => OkW g (muW g beginW + 1) s ∧ BasW s ∧ EdgW g s) (fun s v k h hp => ⟨(h.1.step hp).1, h.2.1.step hp, h.2.2.step h.2.1 hp ?_ h.1.st3⟩) _ _ ⟨hok, BasW.begin, EdgW.begin g⟩
    exact (h.1.place (v, k) (by rw [last_split hp]; simp)).2
  have hpe := (walk_bas g h0).2
  intro v hv e he y hy hyg
  rcases all.2.2.lf v hv e he y hy hyg with ⟨a1, a2, a3⟩ | ⟨a1, a2⟩
  · exact ⟨a1, ⟨fun h => by omega, fun h => absurd h a3⟩⟩
  · rw [hpe] at a2
    rcases a2 with a2 | ⟨a2, a4⟩
    · cases a2
    · exact ⟨a2, ⟨fun _ => a1, fun _ => a4⟩⟩

end Go.Proofs.YtchechdcebmoeaaDoor

/-
  The document's clean graph, by a contract.
-/
import Derived.Test.YtchechdcebmoeaaDoorRws
import Derived.Test.YtchechdcebmoeaaDoorFwS
import Derived.Test.YtchechdcebmoeaaDoorFwE
import Derived.Test.YtchechdcebmoeaaDoorAmong
namespace Go.Proofs.YtchechdcebmoeaaDoor
open Go.RowKit

def cleanG (g : List (List Int)) : List (List Int) := (List.range g.length).map fun i => clnI g.length (g.getD i [])
theorem cleanG_len (g : List (List Int)) : (cleanG g).length = g.length := by simp [cleanG]
theorem cleanG_at (g : List (List Int)) {i : Nat} (h : i < g.length) : (cleanG g).getD i [] = clnI g.length (g.getD i []) := by simp [cleanG, List.getD, h]

/-- The rows: those before i are done, row i has seen k edges. -/
def FCl (g : List (List Int)) (i k j : Nat) : List Int := if j < i then clnI g.length (g.getD j []) else clnI g.length ((g.getD j []).take k)

theorem clnI_len (n : Nat) (l : List Int) : (clnI n l).length ≤ l.length := by
  have key : ∀ (l o : List Int), (l.foldl (fun o x => if (0 ≤ x ∧ x < (n : Int)) ∧ x ∉ o then o ++ [x] else o) o).length ≤ o.length + l.length := by
    intro l
    induction l with
    | nil => intro o; simp
    | cons x r ih =>
      intro o
      rw [List.foldl_cons]
      have h1 := ih (if (0 ≤ x ∧ x < (n : Int)) ∧ x ∉ o then o ++ [x] else o)
      have h2 : (if (0 ≤ x ∧ x < (n : Int)) ∧ x ∉ o then o ++ [x] else o).length ≤ o.length + 1 := by split <;> simp
      simp only [List.length_cons]
      omega
  simpa [clnI] using key l []

structure CleanR (g : List (List Int)) (W : World) (i : Nat) (vs : Nat → Value) (s3 : Value) (wr : World) : Prop where
  own : wr.ownsRow W.heap.size 26 1 s3 i ((List.range i).map vs)
  below : Below W.heap.size W wr

def Cln1 (g : List (List Int)) (W : World) (s3 s4 : Value) (wr : World) : Prop := ∃ i : Nat, i ≤ g.length ∧ s4 = .int .i64 i ∧ ∃ vs, CleanR g W i vs s3 wr ∧ Fam W.heap.size i vs (FCl g i 0) wr
def Cln2 (g : List (List Int)) (W : World) (i : Nat) (s3 s5 s6 : Value) (wr : World) : Prop := ∃ k : Nat, k ≤ degW g i ∧ s6 = .int .i64 k ∧ ∃ vs, s5 = vs i ∧ CleanR g W i vs s3 wr ∧ Fam W.heap.size (i + 1) vs (FCl g i k) wr

theorem own_keptC {w w' : World} {N e k n : Nat} {v : Value} {xs : List Value} (h : w.ownsRow N e k v n xs) (hk : ∀ k, v.ownBlock = some k → w'.heap[k]? = w.heap[k]?) : w'.ownsRow N e k v n xs := by
  refine ⟨h.1, ?_⟩
  rcases h.2 with h2 | ⟨g, cap, cur, hv, hb, hg, h3⟩
  · exact .inl h2
  · exact .inr ⟨g, cap, cur, hv, hb, (hk g (by rw [hv]; rfl)).trans hg, h3⟩

theorem Fam.grow {B i : Nat} {vs : Nat → Value} {F : Nat → List Int} {w : World} (h : Fam B i vs F w) {G : Nat → List Int} (hG : ∀ j, j < i → F j = G j) (hi : G i = []) : Fam B (i + 1) (updV vs i (.slice none 0 0)) G w := by
  refine ⟨fun j hj => ?_, fun a b k ha hb e1 e2 => ?_⟩
  · by_cases e : j = i
    · rw [e, updV_same, hi]; exact World.ownsRow_nil _ _ _ _
    · rw [updV_other _ _ e, ← hG j (by omega)]; exact h.own j (by omega)
  · by_cases e : a = i
    · rw [e, updV_same] at e1; simp [Value.ownBlock] at e1
    · by_cases e' : b = i
      · rw [e', updV_same] at e2; simp [Value.ownBlock] at e2
      · rw [updV_other _ _ e] at e1
        rw [updV_other _ _ e'] at e2
        exact h.apart a b k (by omega) (by omega) e1 e2

theorem clean_grf {g : List (List Int)} {W wr : World} {vs : Nat → Value} {a : Option Addr} {c : Nat} {i : Nat} (hi : i = g.length) (h : CleanR g W i vs (.slice a i c) wr) (hf : Fam W.heap.size i vs (FCl g i 0) wr) (hn : g.length ≤ 1000) : Grf wr a i c (cleanG g) := by
  have hall : ∀ j, j < i → FCl g i 0 j = (cleanG g).getD j [] := fun j hj => by rw [cleanG_at g (by omega), FCl, if_pos hj]
  rcases h.own.2 with ⟨e, h1⟩ | ⟨gb, cap, cur, e, hlo, hg, h2, h3, hcs, ht⟩
  · cases e
    exact ⟨by rw [cleanG_len, ← hi], Nat.le_refl _, Nat.zero_le _, fun h => absurd h (Nat.lt_irrefl 0)⟩
  · cases e
    refine ⟨by rw [cleanG_len, hi], h2, h3, fun _ => ⟨gb, 0, rfl, (Array.getElem?_eq_some_iff.1 hg).1, fun j hj => ?_⟩⟩
    obtain ⟨ra, rc, hv, hr⟩ := hf.row hj (fun x hx => by
      rw [FCl, if_pos hj] at hx
      have := (clnI_mem _ _ x).1 hx
      exact wf64 (by omega) (by omega))
    have hc : wr.cell? ⟨gb, j, none⟩ = some (vs j) := by
      rw [cell_of_row wr gb j _ 26 (0, 0) hg]
      have h5 : (cur.toList.take (i * 1))[j]? = ((List.range i).map vs)[j]? := by rw [ht]
      rw [List.getElem?_take_of_lt (by omega)] at h5
      rw [← Array.getElem?_toList, h5]
      simp [hj]
    have hd : degW (cleanG g) j = (FCl g i 0 j).length := by unfold degW; rw [← hall j hj]
    refine ⟨ra, rc, ?_, ?_⟩
    · rw [Nat.zero_add, hc, hv, hd]
    · rw [hd, ← hall j hj]; exact hr

def CleanPost (g : List (List Int)) (w : World) (e : Ending) (w' : World) : Prop := ∃ a c, e = .returned (.slice a g.length c) ∧ Grf w' a g.length c (cleanG g) ∧ Below w.heap.size w w'

set_option maxHeartbeats 4000000 in
set_option maxRecDepth 100000 in
theorem clean_any (ga : Option Addr) (gc : Nat) (g : List (List Int)) (w : World) (hg : Grf w ga g.length gc g) (hn : g.length ≤ 1000) (hd : ∀ v, degW g v ≤ 1000000) :
    Calls Tryd.prog 108 #[.slice ga g.length gc] w (CleanPost g w) := by
  have hle := hg.le
  have hmax := hg.max
  unfold maxLen at hmax
  have HG := Lib.hid hg
  unfold CleanPost
  obtain ⟨n, hnn⟩ : ∃ n, g.length = n := ⟨_, rfl⟩
  have HNN := Lib.hid hnn
  rw [hnn] at hle hn ⊢
  obtain ⟨i0, hi, hz0, hz1, hz2⟩ := info_parts intinfoW
  have HI := Lib.hid hi
  have HZ0 := Lib.hid hz0
  have HZ1 := Lib.hid hz1
  have HZ2 := Lib.hid hz2
  obtain ⟨i1, hj, hy0, hy1, hy2⟩ := info_parts rowinfoM
  have HJ := Lib.hid hj
  have HY0 := Lib.hid hy0
  have HY1 := Lib.hid hy1
  have HY2 := Lib.hid hy2
  have R0 : Hid (Cln1 g w (.slice none 0 0) (.int .i64 0) w) := Lib.hid ⟨0, Nat.zero_le _, rfl, fun _ => .slice none 0 0, ⟨World.ownsRow_nil _ _ _ _, Below.refl _ _⟩, ⟨fun j hj => absurd hj (Nat.not_lt_zero _), fun i j k hi => absurd hi (Nat.not_lt_zero _)⟩⟩
  clear hi hz0 hz1 hz2 hj hy0 hy1 hy2 hg hnn
  go_enter Tryd.func108, Tryd.ntmps108
  go_wp2_with fail
  go_loopw [3, 4] (fun s3 s4 wr => Cln1 g w s3 s4 wr) (fun _ s4 _ => n - (intOf s4).toNat)
  case atStart => exact R0.out
  case round =>
    clear R0
    obtain ⟨i, hi, rfl, vs, hC, hF⟩ := hrel
    rw [HNN.out] at hi
    obtain ⟨oa, oc, rfl⟩ := own_shapeM hC.own
    by_cases hlt : i < n
    · have t1 : decide ((i : Int) < n) = true := by simp; omega
      have t1' : decide (i < n) = true := by simpa using hlt
      obtain ⟨gb, go, rfl, hgb, hgc⟩ := HG.out.at_ (by rw [HNN.out]; omega)
      obtain ⟨ra, rc, cg0, hrow⟩ := hgc i (by rw [HNN.out]; exact hlt)
      have hrl := hrow.le
      have hrm := hrow.max
      unfold maxLen at hrm
      have hdeg := hd i
      have HRW := Lib.hid hrow
      have HCG := Lib.hid cg0
      have HGB := Lib.hid hgb
      have R1 : Hid (Cln2 g w i (.slice oa i oc) (.slice none 0 0) (.int .i64 0) wr) := Lib.hid ⟨0, Nat.zero_le _, rfl, updV vs i (.slice none 0 0), (updV_same _ _ _).symm, ⟨by
        rw [show (List.range i).map (updV vs i (.slice none 0 0)) = (List.range i).map vs from List.map_congr_left fun j hj => updV_other _ _ (by have := List.mem_range.1 hj; omega)]
        exact hC.own, hC.below⟩, hF.grow (fun _ _ => rfl) (by unfold FCl; rw [if_neg (Nat.lt_irrefl i)]; simp [clnI])⟩
      have hol : i ≤ oc ∧ oc ≤ maxLen := by
        rcases hC.own.2 with ⟨e, h0⟩ | ⟨g2, cap, cur, e, _, _, h2, h3, _⟩
        · cases e; exact ⟨by omega, Nat.zero_le _⟩
        · cases e; exact ⟨h2, h3⟩
      have hol1 := hol.1
      have hol2 := hol.2
      unfold maxLen at hol2
      clear hgc hrow cg0 hgb hC hF hol
      go_wp2_with fail
      go_loopw [5, 6] (fun s5 s6 wr => Cln2 g w i (.slice oa i oc) s5 s6 wr) (fun _ s6 _ => degW g i - (intOf s6).toNat)
      case atStart => exact R1.out
      case round =>
        clear R1
        obtain ⟨k, hk, rfl, vs, rfl, hC, hF⟩ := hrel
        have cg := (hC.below.cell (p := ⟨gb, go + i, none⟩) HGB.out).trans HCG.out
        have hii : i < i + 1 := Nat.lt_succ_self i
        obtain ⟨va, vc, hv, hvc, hvm⟩ := hF.shape hii
        have hcl : (FCl g i k i).length ≤ 1000000 := by
          unfold FCl
          rw [if_neg (Nat.lt_irrefl i)]
          have h1 := clnI_len g.length ((g.getD i []).take k)
          have h2 : ((g.getD i []).take k).length ≤ degW g i := by unfold degW; rw [List.length_take]; omega
          omega
        rw [hv]
        by_cases hkl : k < degW g i
        · have t2 : decide ((k : Int) < degW g i) = true := by simp; omega
          have t2' : decide (k < degW g i) = true := by simpa using hkl
          obtain ⟨rb, ro, rfl, hrc⟩ := Row_at (Row_cells HRW.out hC.below) (by omega)
          have ck := hrc k hkl
          obtain ⟨x, hx⟩ : ∃ x, (g.getD i []).getD k 0 = x := ⟨_, rfl⟩
          rw [hx] at ck
          have hct := clnI_take n (g.getD i []) k hkl
          rw [hx] at hct
          have hFk : FCl g i k i = clnI n ((g.getD i []).take k) := by unfold FCl; rw [if_neg (Nat.lt_irrefl i), HNN.out]
          have hFj : ∀ l, FCl g i k i = l → FCl g i (k + 1) i = l → ∀ j, j < i + 1 → FCl g i k j = FCl g i (k + 1) j := fun l h1 h2 j hj => by
            by_cases e : j = i
            · rw [e, h1, h2]
            · unfold FCl; rw [if_pos (by omega), if_pos (by omega)]
          have hFn : FCl g i (k + 1) i = clnI n ((g.getD i []).take (k + 1)) := by unfold FCl; rw [if_neg (Nat.lt_irrefl i), HNN.out]
          clear hrc hx
          by_cases hin : 0 ≤ x ∧ x < (n : Int)
          · have t3 : decide (x ≥ 0) = true := by simp; omega
            have t3' : decide (0 ≤ x) = true := by simp; omega
            have t4 : decide (x < (n : Int)) = true := by simp; omega
            obtain ⟨a2, c2, hv2, hrw⟩ := hF.row hii (fun z hz => by
              rw [hFk] at hz
              have := (clnI_mem _ _ z).1 hz
              exact wf64 (by omega) (by omega))
            rw [hv] at hv2
            have e2 := Value.slice.inj hv2
            obtain ⟨rfl, rfl⟩ : va = a2 ∧ vc = c2 := ⟨e2.1, e2.2.2⟩
            have KA := Lib.hid (among_any va _ vc _ x wr hrw)
            have hown := hF.own i hii
            rw [hv] at hown
            obtain ⟨q, hq⟩ : ∃ q, (FCl g i k i).length = q := ⟨_, rfl⟩
            by_cases hm : x ∈ FCl g i k i
            · rw [decide_eq_true hm] at KA
              rw [if_neg (by rw [← hFk]; exact fun h => h.2 hm), ← hFk] at hct
              have FIN : Hid (Cln2 g w i (.slice oa i oc) (.slice va q vc) (.int .i64 ((k + 1 : Nat) : Int)) wr) := Lib.hid ⟨k + 1, by omega, rfl, vs, by rw [hv, hq], hC, hF.congr (hFj _ rfl (by rw [hFn, hct]))⟩
              rw [hq] at KA ⊢
              clear hC hF hv hv2 e2 hrw hown hq hm hct hFk hFj hFn hin
              go_wp2_with (go_at_call 17; refine KA.out.mono ?_; rintro e w' ⟨rfl, hw⟩; obtain rfl : wr = w' := hw.symm)
              go_roundw
              case rel => obtain ⟨k2, h1, h2, h3⟩ := FIN.out; exact ⟨k2, h1, by rw [← h2]; go_num, h3⟩
              case measure => simp [intOf]; omega
            · rw [decide_eq_false hm] at KA
              rw [if_pos ⟨hin, by rw [← hFk]; exact hm⟩, ← hFk] at hct
              have FIN : Hid (∀ va5 vc5 w5, w5.ownsRow w.heap.size 3 1 (.slice va5 (q + 1) vc5) (q + 1) ((FCl g i k i).map (Value.int .i64) ++ [.int .i64 x]) → (wr.alloc (.cells #[.int .i64 x] 3)).grownBy w5 (Value.slice va q vc).ownBlock →
                  ((Value.slice va5 (q + 1) vc5).ownBlock = (Value.slice va q vc).ownBlock ∨ (Value.slice va5 (q + 1) vc5).ownBlock = some (wr.alloc (.cells #[.int .i64 x] 3)).heap.size) → Cln2 g w i (.slice oa i oc) (.slice va5 (q + 1) vc5) (.int .i64 ((k + 1 : Nat) : Int)) w5) := Lib.hid fun va5 vc5 w5 ho hg hat => by
                have hg2 : (wr.alloc (.cells #[.int .i64 x] 3)).grownBy w5 (vs i).ownBlock := by rw [hv, hq]; exact hg
                have hf5 := hF.app (w1 := wr.alloc (.cells #[.int .i64 x] 3)) (w5 := w5) (v' := .slice va5 (q + 1) vc5) (x := x) hii (fun k hk => Below.heap_alloc _ _ _ hk) (by rw [World.size_alloc]; omega) (by rw [hq]; exact ho) hg2 (by rw [hv, hq]; exact hat)
                have hbs := hC.below.size
                refine ⟨k + 1, by omega, rfl, _, (updV_same vs i _).symm, ⟨?_, ?_⟩, hf5.congr fun j hj => ?_⟩
                · rw [show (List.range i).map (updV vs i (.slice va5 (q + 1) vc5)) = (List.range i).map vs from List.map_congr_left fun j hj => updV_other _ _ (by have := List.mem_range.1 hj; omega)]
                  refine own_keptC hC.own fun z hz => ?_
                  obtain ⟨cur, hcur⟩ := own_typeM hC.own hz
                  have hzl := (Array.getElem?_eq_some_iff.1 hcur).1
                  rw [hg2.block z (by rw [World.size_alloc]; omega) (fun e => ?_), Below.heap_alloc _ _ _ hzl]
                  obtain ⟨_, _, cur2, hc2⟩ := hF.lt hii e.symm
                  rw [hcur] at hc2
                  exact absurd (Obj.cells.inj (Option.some.inj hc2)).2.1 (by decide)
                · exact (hC.below.alloc hbs _).grown hg2 (by rw [World.size_alloc]; omega) (fun z hz => (hF.lt hii hz).1)
                · by_cases e : j = i
                  · rw [e, updV_same, hFn, hct]
                  · rw [updV_other _ _ e]; unfold FCl; rw [if_pos (by omega), if_pos (by omega)]
              have HOW := Lib.hid hown
              have HNW := Lib.hid (cell_one_new wr (.int .i64 x) 3)
              have HM1 := Lib.hid (show q + 1 ≤ maxLen by unfold maxLen; omega)
              have HM2 := Lib.hid (show (q + 1) * 8 ≤ 140737488355328 by omega)
              have HB9 := Lib.hid (show w.heap.size ≤ (wr.alloc (.cells #[.int .i64 x] 3)).heap.size by have := hC.below.size; rw [World.size_alloc]; omega)
              rw [hq] at KA HOW ⊢
              clear hC hF hv hv2 e2 hrw hown hm hct hFk hFj hFn hin hq
              go_wp2_with (first | (go_at_call 17; refine KA.out.mono ?_; rintro e w' ⟨rfl, hw⟩; obtain rfl : wr = w' := hw.symm) | (at_builtin; refine wpList_append_own_at _ rfl (.tmp 54) (.tmp 62) 26 rfl w.heap.size 3 i0 (.int .i64 0) 1 8 Tryd.underlying26 HI.out HZ0.out HZ1.out HZ2.out rfl (by decide) (.slice va q vc) q _ rfl (HOW.out.alloc _) ⟨wr.heap.size, 0, none⟩ 1 1 [.int .i64 x] rfl rfl HNW.out (by simp [Value.oneCell']) HM1.out HM2.out HB9.out ?_; intro v5 w5 hown5 hgrow5 hnil5 hat5; obtain ⟨va5, vc5, rfl⟩ := own_shapeM hown5; replace hown5 := Lib.hid (FIN.out va5 vc5 w5 hown5 hgrow5 hat5); clear hgrow5 hnil5 hat5))
              go_roundw
              case rel => obtain ⟨k2, h1, h2, h3⟩ := hown5.out; exact ⟨k2, h1, by rw [← h2]; go_num, h3⟩
              case measure => simp [intOf]; omega
          · rw [if_neg (fun h => hin h.1), ← hFk] at hct
            have FIN : Hid (Cln2 g w i (.slice oa i oc) (.slice va (FCl g i k i).length vc) (.int .i64 ((k + 1 : Nat) : Int)) wr) := Lib.hid ⟨k + 1, by omega, rfl, vs, hv.symm, hC, hF.congr (hFj _ rfl (by rw [hFn, hct]))⟩
            clear hC hF hv hct hFk hFj hFn
            by_cases hy0 : x < 0
            · have t3 : decide (x ≥ 0) = false := by simpa using hy0
              have t3' : decide (0 ≤ x) = false := by simpa using hy0
              clear hin hy0
              go_wp2_with fail
              go_roundw
              case rel => obtain ⟨k2, h1, h2, h3⟩ := FIN.out; exact ⟨k2, h1, by rw [← h2]; go_num, h3⟩
              case measure => simp [intOf]; omega
            · have t3 : decide (x ≥ 0) = true := by simp; omega
              have t3' : decide (0 ≤ x) = true := by simp; omega
              have t4 : decide (x < (n : Int)) = false := by simp; omega
              clear hin hy0
              go_wp2_with fail
              go_roundw
              case rel => obtain ⟨k2, h1, h2, h3⟩ := FIN.out; exact ⟨k2, h1, by rw [← h2]; go_num, h3⟩
              case measure => simp [intOf]; omega
        · obtain rfl : k = degW g i := by omega
          have t2 : decide ((degW g i : Int) < degW g i) = false := by simp
          have t2' : decide (degW g i < degW g i) = false := by simp
          have hvone : (vs i).oneCell' = true := by rw [hv]; rfl
          have hFe : ∀ j, j < i + 1 → FCl g i (degW g i) j = FCl g (i + 1) 0 j := fun j hj => by
            unfold FCl
            rw [if_pos hj]
            by_cases e : j < i
            · rw [if_pos e]
            · rw [if_neg e, show j = i by omega]; unfold degW; rw [List.take_length]
          have FIN : Hid (∀ va5 vc5 w5, w5.ownsRow w.heap.size 26 1 (.slice va5 (i + 1) vc5) (i + 1) ((List.range i).map vs ++ [vs i]) → (wr.alloc (.cells #[vs i] 26)).grownBy w5 (Value.slice oa i oc).ownBlock → Cln1 g w (.slice va5 (i + 1) vc5) (.int .i64 ((i + 1 : Nat) : Int)) w5) := Lib.hid fun va5 vc5 w5 ho hg => by
            have hbs := hC.below.size
            refine ⟨i + 1, by rw [HNN.out]; omega, rfl, vs, ⟨by rw [List.range_succ, List.map_append]; exact ho, (hC.below.alloc hbs _).grown hg (by rw [World.size_alloc]; omega) (fun z hz => own_block_lt hC.own z hz)⟩, ?_⟩
            refine (hF.kept fun j z hj hz => ?_).congr hFe
            obtain ⟨_, hzl, cur2, hc2⟩ := hF.lt hj hz
            rw [hg.block z (by rw [World.size_alloc]; omega) (fun e => ?_), Below.heap_alloc _ _ _ hzl]
            obtain ⟨cur, hcur⟩ := own_typeM hC.own e.symm
            rw [hcur] at hc2
            exact absurd (Obj.cells.inj (Option.some.inj hc2)).2.1 (by decide)
          have HOW := Lib.hid hC.own
          have HNW := Lib.hid (cell_one_new wr (vs i) 26)
          have HM1 := Lib.hid (show i + 1 ≤ maxLen by unfold maxLen; omega)
          have HM2 := Lib.hid (show (i + 1) * 24 ≤ 140737488355328 by omega)
          have HB9 := Lib.hid (show w.heap.size ≤ (wr.alloc (.cells #[vs i] 26)).heap.size by have := hC.below.size; rw [World.size_alloc]; omega)
          rw [hv] at FIN HNW HB9 hvone
          obtain ⟨q, hq⟩ : ∃ q, (FCl g i (degW g i) i).length = q := ⟨_, rfl⟩
          rw [hq] at FIN HNW HB9 hvone ⊢
          clear hC hF hv hFe hq hcl hvc hvm
          go_wp2_with (at_builtin; refine wpList_append_own _ rfl (.tmp 64) (.tmp 66) 80 rfl w.heap.size 26 i1 (.slice none 0 0) 1 24 Tryd.underlying80 HJ.out HY0.out HY1.out HY2.out rfl (by decide) (.slice oa i oc) i _ rfl (HOW.out.alloc _) ⟨wr.heap.size, 0, none⟩ 1 1 [.slice va q vc] rfl rfl HNW.out (by simp [Value.oneCell']) HM1.out HM2.out HB9.out ?_; intro v5 w5 hown5 hgrow5 hnil5; obtain ⟨va5, vc5, rfl⟩ := own_shapeM hown5; replace hown5 := Lib.hid (FIN.out va5 vc5 w5 hown5 hgrow5); clear hgrow5 hnil5)
          go_roundw
          case rel => obtain ⟨k2, h1, h2, h3⟩ := hown5.out; exact ⟨k2, h1, by rw [← h2]; go_num, h3⟩
          case measure => simp [intOf]; omega
    · obtain rfl : n = i := by omega
      have t1 : decide ((n : Int) < n) = false := by simp
      have t1' : decide (n < n) = false := by simp
      have FIN := Lib.hid (clean_grf HNN.out.symm hC hF (by rw [HNN.out]; omega))
      have HBB := Lib.hid hC.below
      clear hC hF
      go_wp2_with fail
      go_ret
      exact ⟨oa, oc, rfl, FIN.out, HBB.out⟩

end Go.Proofs.YtchechdcebmoeaaDoor

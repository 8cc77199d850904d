/-
  A set of pairs of integers.
-/
import Derived.Test.YtchechdcebmoeaaDoorMap
import Derived.WideKeyPair
namespace Go.Proofs.YtchechdcebmoeaaDoor
open Go.RowKit Go.WideMaps

def litP (x y : Nat) : Lit := .string (keyBytes [.int .i64 (x : Int), .int .i64 (y : Int)])
def pairV (x y : Nat) : Value := .agg #[.int .i64 (x : Int), .int .i64 (y : Int)]

/-- A set of pairs: of those below a million. -/
def PairSet (P : Program) (kt : TypeId) (b n : Nat) (l : List (Nat × Nat)) (w : World) : Prop :=
  ∃ D : DataW Unit, w.ownsMap P kt unitElem b n D ∧ ∀ x y, x < 1000000 → y < 1000000 → Maps.has D (litP x y) = decide ((x, y) ∈ l)

theorem PairSet.made (w : World) (P : Program) (kt : TypeId) : PairSet P kt w.heap.size 0 [] (w.alloc (.map #[] 0)) :=
  ⟨.map [], World.ownsMap_made w P kt _, fun _ _ _ _ => by simp; rfl⟩
theorem PairSet.kept {P : Program} {kt : TypeId} {b n : Nat} {l : List (Nat × Nat)} {w w' : World} (h : PairSet P kt b n l w) (hb : w'.heap[b]? = w.heap[b]?) : PairSet P kt b n l w' := by
  obtain ⟨D, ⟨es, clock, h1, h2⟩, h3⟩ := h
  exact ⟨D, ⟨es, clock, hb.trans h1, h2⟩, h3⟩
theorem PairSet.lt {P : Program} {kt : TypeId} {b n : Nat} {l : List (Nat × Nat)} {w : World} (h : PairSet P kt b n l w) : b < w.heap.size := by obtain ⟨D, h1, _⟩ := h; exact h1.lt
theorem PairSet.map {P : Program} {kt : TypeId} {b n : Nat} {l : List (Nat × Nat)} {w : World} (h : PairSet P kt b n l w) : ∃ es c, w.heap[b]? = some (.map es c) := by
  obtain ⟨D, ⟨es, clock, h1, h2⟩, h3⟩ := h
  exact ⟨es, clock, h1⟩

section
variable {P : Program} {kt e1 : TypeId} (A : ArrKey P kt e1 2) (he : P.underlying e1 = some (.int .i64)) (hsz : ∃ m, P.types.size = m + 1)
include A he hsz

theorem key_pair {x y : Nat} (hx : x < 1000000) (hy : y < 1000000) : keyOf P kt (pairV x y) = some (litP x y) :=
  keyOf_pair A he hsz (wf64 (by omega) (by omega)) (wf64 (by omega) (by omega))

theorem litP_inj {x y x2 y2 : Nat} (hx : x < 1000000) (hy : y < 1000000) (hx2 : x2 < 1000000) (hy2 : y2 < 1000000) (h : litP x y = litP x2 y2) : x = x2 ∧ y = y2 := by
  have h1 := key_pair A he hsz hx hy
  have h2 := key_pair A he hsz hx2 hy2
  rw [← h] at h2
  have := A.law.inj h1 h2
  unfold pairV at this
  simp at this
  omega

variable (w : World) {ops : Array Oper} {rest : List Oper} {o : Oper} {a : Act} {Q : Exit → Act → World → Prop}

theorem wpList_pset_look (hg : o.guard = none) (m x : Operand) (t : TypeId) (hop : o.op = Op.lookup t m x true) (et : TypeId) (ht : P.underlying t = some (.map kt et))
    (hz : (zeroValue et).run P w = .ok (.agg #[]) w) (b n : Nat) (l : List (Nat × Nat)) (hm : a.eval m = .map (some b)) (hown : PairSet P kt b n l w) (X Y : Nat) (hx : a.eval x = pairV X Y) (hX : X < 1000000) (hY : Y < 1000000) (c : Bool) (hc : decide ((X, Y) ∈ l) = c)
    (hK : wpList P ops Q rest (a.put o.dst (.tuple #[.agg #[], .bool c])) w) : wpList P ops Q (o :: rest) a w := by
  obtain ⟨D, h1, h2⟩ := hown
  refine wpList_lookup_own_unit w hg m x t hop kt et (Maps.Keyed.of_law A.law) ht hz b n D hm h1 _ (litP X Y) hx (key_pair A he hsz hX hY) ?_
  rw [h2 X Y hX hY, hc]
  exact hK

theorem wpList_pset_put (hg : o.guard = none) (m x v : Operand) (t : TypeId) (hop : o.op = Op.mapUpdate t m x v) (et : TypeId) (ht : P.underlying t = some (.map kt et))
    (b n : Nat) (l : List (Nat × Nat)) (hm : a.eval m = .map (some b)) (hown : PairSet P kt b n l w) (hn : n < maxLen) (X Y : Nat) (hx : a.eval x = pairV X Y) (hX : X < 1000000) (hY : Y < 1000000) (hV : a.eval v = .agg #[])
    (hK : ∀ w', PairSet P kt b (n + 1) (l ++ [(X, Y)]) w' → w.mapTurned w' b → wpList P ops Q rest (a.put o.dst undef) w') : wpList P ops Q (o :: rest) a w := by
  obtain ⟨D, h1, h2⟩ := hown
  refine wpList_mapUpdate_in w hg m x v t hop kt et (Maps.Keyed.of_law A.law) ht _ b n D hm h1 hn _ _ (litP X Y) hx hV (key_pair A he hsz hX hY) (.agg []) [] unitElem_mk (fun w' h1' hg' => hK w' ⟨_, h1', fun x2 y2 hx2 hy2 => ?_⟩ hg')
  by_cases e : x2 = X ∧ y2 = Y
  · obtain ⟨rfl, rfl⟩ := e
    rw [Maps.has_put_same h1.isMap (by unfold litP; simp [WideAt.IsKeyLit])]
    simp
  · rw [Maps.has_put_other (fun h => e (litP_inj A he hsz hx2 hy2 hX hY h)), h2 x2 y2 hx2 hy2]
    congr 1
    simp only [List.mem_append, List.mem_singleton, Prod.mk.injEq]
    rw [eq_iff_iff]
    constructor
    · exact .inl
    · rintro (h | h)
      · exact h
      · exact absurd h e
end

end Go.Proofs.YtchechdcebmoeaaDoor

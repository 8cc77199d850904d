/-
  Maps from integers, seen as functions: what the operations do to them.
-/
import Derived.Test.YtchechdcebmoeaaDoorProg
import Derived.Test.YtchechdcebmoeaaDoorMem
import Derived.Maps.OwnSet
namespace Go.Proofs.YtchechdcebmoeaaDoor
open Go.RowKit

theorem wf64 {x : Int} (h0 : -9223372036854775808 ≤ x) (h1 : x ≤ 9223372036854775807) : (Lit.int .i64 x).wf = true := by
  simp [Lit.wf, IntKind.min, IntKind.max, IntKind.signed, IntKind.bits]
  omega

theorem key_ne {x y : Int} (h : x ≠ y) : Lit.int .i64 x ≠ Lit.int .i64 y := fun e => h (by cases e; rfl)
theorem key_lit (x : Int) : WideAt.IsKeyLit (.int .i64 x) := by simp [WideAt.IsKeyLit]

/-- A map of integers to integers, as a function. -/
def IntMap (P : Program) (kt et : TypeId) (b n : Nat) (S : Int → Option Int) (w : World) : Prop :=
  ∃ D : DataW Unit, w.ownsMap P kt (plainElem P et) b n D ∧ ∀ x, Maps.has D (.int .i64 x) = (S x).isSome ∧ D.atKey (.int .i64 x) (.lit (.int .i64 0)) = .lit (.int .i64 ((S x).getD 0))

/-- A set of integers, as a function. -/
def IntSet (P : Program) (kt : TypeId) (b n : Nat) (S : Int → Bool) (w : World) : Prop :=
  ∃ D : DataW Unit, w.ownsMap P kt unitElem b n D ∧ ∀ x, Maps.has D (.int .i64 x) = S x

theorem IntMap.made (w : World) (P : Program) (kt et : TypeId) : IntMap P kt et w.heap.size 0 (fun _ => none) (w.alloc (.map #[] 0)) :=
  ⟨.map [], World.ownsMap_made w P kt _, fun _ => ⟨rfl, rfl⟩⟩
theorem IntSet.made (w : World) (P : Program) (kt : TypeId) : IntSet P kt w.heap.size 0 (fun _ => false) (w.alloc (.map #[] 0)) :=
  ⟨.map [], World.ownsMap_made w P kt _, fun _ => rfl⟩
theorem IntMap.kept {P : Program} {kt et : TypeId} {b n : Nat} {S : Int → Option Int} {w w' : World} (h : IntMap P kt et b n S w) (hb : w'.heap[b]? = w.heap[b]?) : IntMap P kt et b n S w' := by
  obtain ⟨D, ⟨es, clock, h1, h2⟩, h3⟩ := h
  exact ⟨D, ⟨es, clock, hb.trans h1, h2⟩, h3⟩
theorem IntSet.kept {P : Program} {kt : TypeId} {b n : Nat} {S : Int → Bool} {w w' : World} (h : IntSet P kt b n S w) (hb : w'.heap[b]? = w.heap[b]?) : IntSet P kt b n S w' := by
  obtain ⟨D, ⟨es, clock, h1, h2⟩, h3⟩ := h
  exact ⟨D, ⟨es, clock, hb.trans h1, h2⟩, h3⟩
theorem IntMap.lt {P : Program} {kt et : TypeId} {b n : Nat} {S : Int → Option Int} {w : World} (h : IntMap P kt et b n S w) : b < w.heap.size := by obtain ⟨D, h1, _⟩ := h; exact h1.lt
theorem IntSet.lt {P : Program} {kt : TypeId} {b n : Nat} {S : Int → Bool} {w : World} (h : IntSet P kt b n S w) : b < w.heap.size := by obtain ⟨D, h1, _⟩ := h; exact h1.lt
theorem IntMap.congr {P : Program} {kt et : TypeId} {b n : Nat} {S S' : Int → Option Int} {w : World} (h : IntMap P kt et b n S w) (e : ∀ x, S x = S' x) : IntMap P kt et b n S' w := by
  obtain ⟨D, h1, h2⟩ := h
  exact ⟨D, h1, fun x => by rw [← e x]; exact h2 x⟩
theorem IntSet.congr {P : Program} {kt : TypeId} {b n : Nat} {S S' : Int → Bool} {w : World} (h : IntSet P kt b n S w) (e : ∀ x, S x = S' x) : IntSet P kt b n S' w := by
  obtain ⟨D, h1, h2⟩ := h
  exact ⟨D, h1, fun x => by rw [← e x]; exact h2 x⟩
theorem IntMap.mono {P : Program} {kt et : TypeId} {b n : Nat} {S : Int → Option Int} {w : World} (h : IntMap P kt et b n S w) {n' : Nat} (hn : n ≤ n') : IntMap P kt et b n' S w := by
  obtain ⟨D, h1, h2⟩ := h
  exact ⟨D, h1.mono hn, h2⟩
theorem IntSet.mono {P : Program} {kt : TypeId} {b n : Nat} {S : Int → Bool} {w : World} (h : IntSet P kt b n S w) {n' : Nat} (hn : n ≤ n') : IntSet P kt b n' S w := by
  obtain ⟨D, h1, h2⟩ := h
  exact ⟨D, h1.mono hn, h2⟩

def upd {β : Type} (S : Int → β) (X : Int) (v : β) : Int → β := fun y => if y = X then v else S y
theorem upd_same {β : Type} (S : Int → β) (X : Int) (v : β) : upd S X v X = v := by simp [upd]
theorem upd_other {β : Type} (S : Int → β) {X y : Int} (v : β) (h : y ≠ X) : upd S X v y = S y := by simp [upd, h]

section
variable {P : Program} (w : World) {ops : Array Oper} {rest : List Oper} {o : Oper} {a : Act} {Q : Exit → Act → World → Prop}

theorem wpList_imap_get (hg : o.guard = none) (m x : Operand) (t : TypeId) (hop : o.op = Op.lookup t m x false) (kt et : TypeId) (hk : P.underlying kt = some (.int .i64)) (ht : P.underlying t = some (.map kt et)) (he : P.underlying et = some (.int .i64))
    (hz : (zeroValue et).run P w = .ok (.int .i64 0) w) (b n : Nat) (S : Int → Option Int) (hm : a.eval m = .map (some b)) (hown : IntMap P kt et b n S w) (X : Int) (hx : a.eval x = .int .i64 X) (hX : (Lit.int .i64 X).wf = true) (v : Int) (hv : (S X).getD 0 = v)
    (hK : wpList P ops Q rest (a.put o.dst (.int .i64 v)) w) : wpList P ops Q (o :: rest) a w := by
  obtain ⟨D, h1, h2⟩ := hown
  refine wpList_lookup_own_int w hg m x t hop kt et .i64 (Maps.int_keyed hk) ht he hz b n D hm h1 _ (.int .i64 X) hx (Maps.keyOf_int_mk hk hX) (fun c hc _ => ?_)
  rw [(h2 X).2, hv] at hc
  simp at hc
  subst hc
  exact hK

theorem wpList_imap_look (hg : o.guard = none) (m x : Operand) (t : TypeId) (hop : o.op = Op.lookup t m x true) (kt et : TypeId) (hk : P.underlying kt = some (.int .i64)) (ht : P.underlying t = some (.map kt et)) (he : P.underlying et = some (.int .i64))
    (hz : (zeroValue et).run P w = .ok (.int .i64 0) w) (b n : Nat) (S : Int → Option Int) (hm : a.eval m = .map (some b)) (hown : IntMap P kt et b n S w) (X : Int) (hx : a.eval x = .int .i64 X) (hX : (Lit.int .i64 X).wf = true) (v : Int) (hv : (S X).getD 0 = v) (c : Bool) (hc : (S X).isSome = c)
    (hK : wpList P ops Q rest (a.put o.dst (.tuple #[.int .i64 v, .bool c])) w) : wpList P ops Q (o :: rest) a w := by
  obtain ⟨D, h1, h2⟩ := hown
  refine wpList_lookup_own_ok_int w hg m x t hop kt et .i64 (Maps.int_keyed hk) ht he hz b n D hm h1 _ (.int .i64 X) hx (Maps.keyOf_int_mk hk hX) (fun c' hc' _ => ?_)
  rw [(h2 X).2, hv] at hc'
  simp at hc'
  subst hc'
  rw [(h2 X).1, hc]
  exact hK

theorem wpList_imap_put (hg : o.guard = none) (m x v : Operand) (t : TypeId) (hop : o.op = Op.mapUpdate t m x v) (kt et : TypeId) (hk : P.underlying kt = some (.int .i64)) (ht : P.underlying t = some (.map kt et)) (he : P.underlying et = some (.int .i64))
    (b n : Nat) (S : Int → Option Int) (hm : a.eval m = .map (some b)) (hown : IntMap P kt et b n S w) (hn : n < maxLen) (X : Int) (hx : a.eval x = .int .i64 X) (hX : (Lit.int .i64 X).wf = true) (V : Int) (hV : a.eval v = .int .i64 V) (hVw : (Lit.int .i64 V).wf = true)
    (hK : ∀ w', IntMap P kt et b (n + 1) (upd S X (some V)) w' → w.mapTurned w' b → wpList P ops Q rest (a.put o.dst undef) w') : wpList P ops Q (o :: rest) a w := by
  obtain ⟨D, h1, h2⟩ := hown
  refine wpList_mapUpdate_in w hg m x v t hop kt et (Maps.int_keyed hk) ht _ b n D hm h1 hn _ _ (.int .i64 X) hx hV (Maps.keyOf_int_mk hk hX) (.lit (.int .i64 V)) [] (plainElem_int he hVw) (fun w' h1' hg' => hK w' ⟨_, h1', fun y => ?_⟩ hg')
  by_cases hy : y = X
  · subst hy
    rw [upd_same, Maps.has_put_same h1.isMap (key_lit _), Maps.atKey_put_same h1.isMap (key_lit _)]
    exact ⟨rfl, rfl⟩
  · rw [upd_other S _ hy, Maps.has_put_other (key_ne hy), Maps.atKey_put_other (key_ne hy)]
    exact h2 y

theorem wpList_imap_del (hg : o.guard = none) (m x : Operand) (t kt : TypeId) (hop : o.op = Op.call { callee := Callee.builtin Builtin.delete, args := #[m, x], argTypes := #[t, kt] }) (et : TypeId) (hk : P.underlying kt = some (.int .i64)) (ht : P.underlying t = some (.map kt et))
    (b n : Nat) (S : Int → Option Int) (hm : a.eval m = .map (some b)) (hown : IntMap P kt et b n S w) (X : Int) (hx : a.eval x = .int .i64 X) (hX : (Lit.int .i64 X).wf = true)
    (hK : ∀ w', IntMap P kt et b n (upd S X none) w' → w.mapTurned w' b → wpList P ops Q rest (a.put o.dst (.tuple #[])) w') : wpList P ops Q (o :: rest) a w := by
  obtain ⟨D, h1, h2⟩ := hown
  refine wpList_delete_own w hg m x t kt hop et (Maps.int_keyed hk) ht _ b n D hm h1 _ (.int .i64 X) hx (Maps.keyOf_int_mk hk hX) (fun w' h1' hg' => hK w' ⟨_, h1', fun y => ?_⟩ hg')
  by_cases hy : y = X
  · subst hy
    rw [upd_same, Maps.has_del_same, Maps.atKey_del_same]
    exact ⟨rfl, rfl⟩
  · rw [upd_other S _ hy, Maps.has_del_other (key_ne hy), Maps.atKey_del_other (key_ne hy)]
    exact h2 y

theorem wpList_iset_look (hg : o.guard = none) (m x : Operand) (t : TypeId) (hop : o.op = Op.lookup t m x true) (kt et : TypeId) (hk : P.underlying kt = some (.int .i64)) (ht : P.underlying t = some (.map kt et))
    (hz : (zeroValue et).run P w = .ok (.agg #[]) w) (b n : Nat) (S : Int → Bool) (hm : a.eval m = .map (some b)) (hown : IntSet P kt b n S w) (X : Int) (hx : a.eval x = .int .i64 X) (hX : (Lit.int .i64 X).wf = true) (c : Bool) (hc : S X = c)
    (hK : wpList P ops Q rest (a.put o.dst (.tuple #[.agg #[], .bool c])) w) : wpList P ops Q (o :: rest) a w := by
  obtain ⟨D, h1, h2⟩ := hown
  refine wpList_lookup_own_unit w hg m x t hop kt et (Maps.int_keyed hk) ht hz b n D hm h1 _ (.int .i64 X) hx (Maps.keyOf_int_mk hk hX) ?_
  rw [h2 X, hc]
  exact hK

theorem wpList_iset_put (hg : o.guard = none) (m x v : Operand) (t : TypeId) (hop : o.op = Op.mapUpdate t m x v) (kt et : TypeId) (hk : P.underlying kt = some (.int .i64)) (ht : P.underlying t = some (.map kt et))
    (b n : Nat) (S : Int → Bool) (hm : a.eval m = .map (some b)) (hown : IntSet P kt b n S w) (hn : n < maxLen) (X : Int) (hx : a.eval x = .int .i64 X) (hX : (Lit.int .i64 X).wf = true) (hV : a.eval v = .agg #[])
    (hK : ∀ w', IntSet P kt b (n + 1) (upd S X true) w' → w.mapTurned w' b → wpList P ops Q rest (a.put o.dst undef) w') : wpList P ops Q (o :: rest) a w := by
  obtain ⟨D, h1, h2⟩ := hown
  refine wpList_mapUpdate_in w hg m x v t hop kt et (Maps.int_keyed hk) ht _ b n D hm h1 hn _ _ (.int .i64 X) hx hV (Maps.keyOf_int_mk hk hX) (.agg []) [] unitElem_mk (fun w' h1' hg' => hK w' ⟨_, h1', fun y => ?_⟩ hg')
  by_cases hy : y = X
  · subst hy
    rw [upd_same, Maps.has_put_same h1.isMap (key_lit _)]
  · rw [upd_other S _ hy, Maps.has_put_other (key_ne hy)]
    exact h2 y
end

end Go.Proofs.YtchechdcebmoeaaDoor

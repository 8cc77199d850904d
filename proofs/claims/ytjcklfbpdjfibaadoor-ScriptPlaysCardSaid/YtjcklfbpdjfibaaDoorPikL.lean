/-
  The law on a script that is asked for safepoints: what its parts answer, whatever comes.
-/
import Derived.Test.YtjcklfbpdjfibaaDoorPik3
import Derived.Test.YtjcklfbpdjfibaaDoorPik4
namespace Go.Proofs.YtjcklfbpdjfibaaDoor
open Go.RowKit

/-- How the box's next safepoint stands to the law's last one. -/
def NextIs (len pos : Nat) (last next : Int) : Prop := next = last + 1 ∨ (pos = len ∧ last = 9223372036854775807)

def AtAny (q c : Nat) (gv : Nat → Nat → Int) (len _pos : Nat) (last p : Int) (w : World) (e : Ending) (w' : World) : Prop :=
  ∃ (pos' : Nat) (next' : Int) (a : Option Addr) (n n' : Nat) (xs : List Value), e = .returned (.slice a n n') ∧ Scr q c gv len pos' next' w' ∧ w'.ownsRow w.heap.size 107 4 (.slice a n n') n xs ∧ w.grownBy w' (some q) ∧ n ≤ len ∧ (∀ u ∈ xs, ∃ z, u = .int .i64 z) ∧
    (last < p → Cut gv len p pos' ∧ NextIs len pos' p next' ∧ n = eqn gv p len ∧ xs = eqs gv p len) ∧ (¬ last < p → Cut gv len last pos' ∧ NextIs len pos' last next' ∧ n = 0 ∧ xs = [])

theorem at_any (q c : Nat) (gv : Nat → Nat → Int) (len pos : Nat) (last next p : Int) (w : World) (h : Scr q c gv len pos next w) (hf : FairP gv len) (hl : len ≤ 400) (hcut : Cut gv len last pos) (hn : NextIs len pos last next) (hp : -9223372036854775808 ≤ p ∧ p ≤ 9223372036854775807) :
    Calls Tryd.prog 75 #[.pointer (some ⟨q, 0, none⟩), .int .i64 p] w (AtAny q c gv len pos last p w) := by
  by_cases hlp : last < p
  · have hnx : next = last + 1 := by
      rcases hn with h1 | ⟨_, h1⟩
      · exact h1
      · omega
    refine (at_go q c gv len pos last next p w h hf hl hcut hlp (by omega)).mono ?_
    rintro e w' ⟨pos', a, n, rfl, hc, hS, hO, hg⟩
    have he := eqs_all hc
    refine ⟨pos', _, a, _, n, _, rfl, hS, hO, hg, ?_, eqs_ints gv p pos', fun _ => ⟨hc, ?_, he.2.symm, he.1.symm⟩, fun hh => absurd hlp hh⟩
    · have := eqn_le gv p pos'
      have := hc.le
      omega
    · by_cases hm : p = 9223372036854775807
      · refine .inr ⟨?_, hm⟩
        rcases Nat.lt_or_ge pos' len with h1 | h1
        · have h2 := hc.hi pos' (Nat.le_refl _) h1
          have h3 := (fairP_at hf h1).2.1
          omega
        · have := hc.le
          omega
      · exact .inl (wrap64_id (by omega) (by omega))
  · have key : Calls Tryd.prog 75 #[.pointer (some ⟨q, 0, none⟩), .int .i64 p] w (AtNil q c gv len pos next p w) := by
      rcases hn with h1 | ⟨h1, _⟩
      · exact at_stop q c gv len pos next p w h (by omega)
      · subst h1
        exact at_end q c gv pos next p w h
    refine key.mono ?_
    rintro e w' ⟨rfl, hg, next', hS, hx⟩
    refine ⟨pos, next', none, 0, 0, [], rfl, hS, World.ownsRow_nil _ _ _ _, hg, Nat.zero_le _, fun u hu => absurd hu (by simp), fun hh => absurd hh hlp, fun _ => ⟨hcut, ?_, rfl, rfl⟩⟩
    rcases hn with h1 | ⟨h1, h2⟩
    · exact .inl (by have := hx (by omega); omega)
    · exact .inr ⟨h1, h2⟩

theorem scr_start {q B : Nat} {v : Value} {gv : Nat → Nat → Int} {len : Nat} {w : World} (hb : SBox q v 0 w) (ho : w.ownsRow B 107 4 v len (flatG gv len)) (hne : v.ownBlock ≠ some q) : ∃ c, Scr q c gv len 0 0 w := by
  rcases ho.2 with ⟨rfl, h0⟩ | ⟨g, cap, cur, rfl, h1, h2, h3, h4, h5, h6⟩
  · subst h0
    exact ⟨q + 1, none, 0, hb, Nat.le_refl _, Nat.zero_le _, fun h => absurd h (Nat.lt_irrefl _), by omega, fun i j hi => absurd hi (Nat.not_lt_zero _)⟩
  · refine ⟨g, some ⟨g, 0, none⟩, cap, hb, h3, h4, fun _ => by rw [Nat.zero_mul], fun e => hne (by rw [e]; rfl), fun i j hi hj => ?_⟩
    rw [ho.cellAt (i * 4 + j) (by omega)]
    exact flatG_get gv len i j hi hj

theorem own_belowG {B : Nat} {w w' : World} {e size n : Nat} {v : Value} {xs : List Value} (h : w.ownsRow B e size v n xs) (hb : Below w.heap.size w w') : w'.ownsRow B e size v n xs :=
  h.kept (grown_of_below hb) (by
    cases hv : v.ownBlock with
    | none => exact .inl rfl
    | some k => exact .inr (by simp))

theorem Scr.below {q c : Nat} {gv : Nat → Nat → Int} {len pos : Nat} {next : Int} {w w' : World} (h : Scr q c gv len pos next w) (hb : Below w.heap.size w w') : Scr q c gv len pos next w' :=
  h.kept (grown_of_below hb) (by simp) (fun _ => by simp)

end Go.Proofs.YtjcklfbpdjfibaaDoor

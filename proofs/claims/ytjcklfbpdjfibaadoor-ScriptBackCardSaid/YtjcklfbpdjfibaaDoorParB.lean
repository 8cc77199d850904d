/-
  Any bytes that are read as picks are these picks' own bytes: plain mathematics; a read that leaves an error.
-/
import Derived.Test.YtjcklfbpdjfibaaDoorRdrA
import Derived.Test.YtjcklfbpdjfibaaDoorPar0
namespace Go.Proofs.YtjcklfbpdjfibaaDoor
open Go.RowKit

theorem ahead_same (gv gv' : Nat → Nat → Int) (k : Nat) (h : ∀ i, i < k → gv i = gv' i) : aheadOf gv k = aheadOf gv' k := by
  cases k with
  | zero => rfl
  | succ k => show gv k 0 = gv' k 0; rw [h k (by omega)]
theorem flatG_same (gv gv' : Nat → Nat → Int) : ∀ k, (∀ i, i < k → gv i = gv' i) → flatG gv k = flatG gv' k
  | 0, _ => rfl
  | k + 1, h => by rw [flatG, flatG, flatG_same gv gv' k fun i hi => h i (by omega), fourG, fourG, h k (by omega)]
theorem printL_same (gv gv' : Nat → Nat → Int) : ∀ k, (∀ i, i < k → gv i = gv' i) → printL gv k = printL gv' k
  | 0, _ => rfl
  | k + 1, h => by rw [printL, printL, printL_same gv gv' k fun i hi => h i (by omega), pickB, pickB, h k (by omega), ahead_same gv gv' k fun i hi => h i (by omega)]

/-- One pick more. -/
def plus (gv : Nat → Nat → Int) (k : Nat) (T K A B : Int) (i j : Nat) : Int := if i = k then (match j with
  | 0 => T
  | 1 => K
  | 2 => A
  | _ => B) else gv i j
theorem plus_old (gv : Nat → Nat → Int) (k : Nat) (T K A B : Int) : ∀ i, i < k → gv i = plus gv k T K A B i := fun i hi => by
  funext j
  unfold plus
  rw [if_neg (by omega)]
theorem plus_new (gv : Nat → Nat → Int) (k : Nat) (T K A B : Int) : plus gv k T K A B k 0 = T ∧ plus gv k T K A B k 1 = K ∧ plus gv k T K A B k 2 = A ∧ plus gv k T K A B k 3 = B := by
  unfold plus
  refine ⟨?_, ?_, ?_, ?_⟩ <;> simp

theorem plus_flat (gv : Nat → Nat → Int) (k : Nat) (T K A B : Int) : flatG (plus gv k T K A B) (k + 1) = flatG gv k ++ [.int .i64 T, .int .i64 K, .int .i64 A, .int .i64 B] := by
  obtain ⟨h0, h1, h2, h3⟩ := plus_new gv k T K A B
  rw [flatG, ← flatG_same gv _ k (plus_old gv k T K A B), fourG, h0, h1, h2, h3]
theorem plus_ahead (gv : Nat → Nat → Int) (k : Nat) (T K A B : Int) : aheadOf (plus gv k T K A B) (k + 1) = T := (plus_new gv k T K A B).1
theorem plus_print (gv : Nat → Nat → Int) (k : Nat) (d : Nat) (K A B : Nat) (T : Int) (hT : T = aheadOf gv k + (d : Int)) : printL (plus gv k T K A B) (k + 1) = printL gv k ++ (encF 9 d ++ (encF 9 K ++ ((if K = 3 then encF 9 A else []) ++ (if K = 3 ∨ K = 5 then encF 9 B else [])))) := by
  obtain ⟨h0, h1, h2, h3⟩ := plus_new gv k T K A B
  rw [printL, ← printL_same gv _ k (plus_old gv k T K A B), pickB, h0, h1, h2, h3, ← ahead_same gv _ k (plus_old gv k T K A B), hT]
  have e : (aheadOf gv k + (d : Int) - aheadOf gv k).toNat = d := by omega
  have c3 : ((K : Int) = 3) = (K = 3) := by apply propext; omega
  have c5 : ((K : Int) = 5) = (K = 5) := by apply propext; omega
  rw [e]
  simp only [Int.toNat_natCast, c3, c5]

/-- A number read: the bytes up to behind it. -/
theorem took (bs pre : List Nat) (p u k : Nat) (hb : ∀ g ∈ bs, g < 256) (hp : bs.take p = pre) (h : takeAt bs (p : Int) = some (u, k)) : bs.take (p + k) = pre ++ encF 9 u ∧ p + k ≤ bs.length ∧ 0 < k ∧ u < 18446744073709551616 := by
  obtain ⟨_, h1, h2, h3, h4⟩ := takeAt_back bs (p : Int) u k hb h
  rw [Int.toNat_natCast] at h2 h4
  refine ⟨?_, h2, h1, h3⟩
  rw [List.take_add, hp, h4]

theorem read_bad (a : Nat → Addr) {w : World} {q0 r B : Nat} {b off n bc p : Nat} {so : Value} {m : Nat} {xs : List Value} {wr : World} (h : St w q0 r B (some ⟨b, off, none⟩) n bc p .nilIface so m xs wr) (bs : List Nat) (hS : Sents6 a w) (hr : Row .u8 w (some ⟨b, off, none⟩) n bc (intsR bs)) (hm : bc ≤ maxLen) (hnl : n ≤ 1000000) (hp : p ≤ n) (hpos : 0 < n) (hb : ∀ g ∈ bs, g < 256) (hC : ∀ u k, takeAt bs (p : Int) = some (u, k) → 1048576 < u) :
    Calls Tryd.prog 116 #[.pointer (some ⟨q0, 0, none⟩)] wr fun e w' => e = .returned (.int .i64 0) ∧ (∃ p' b', St w q0 r B (some ⟨b, off, none⟩) n bc p' (atErr b') so m xs w') ∧ wr.grownBy w' (some r) := by
  refine num_of h.cell ((number_bad a r b off n bc p bs wr (hS.below h.bel) h.box (Row_cells hr h.bel) hm hnl hp hpos (fun u k hT => ⟨hC u k hT, (took bs _ p u k hb rfl hT).2.2.2⟩)).mono ?_)
  rintro e w' ⟨rfl, p', b', h1, h4⟩
  exact ⟨⟨_, rfl⟩, rfl, ⟨p', b', h.step h1 h4⟩, h4⟩

/-- A number stands here, or none. -/
theorem num_cases (bs : List Nat) (p : Nat) : (∃ u k, takeAt bs (p : Int) = some (u, k) ∧ u ≤ 1048576) ∨ (∀ u k, takeAt bs (p : Int) = some (u, k) → 1048576 < u) := by
  cases h : takeAt bs (p : Int) with
  | none => exact .inr fun u k h => by cases h
  | some x =>
    obtain ⟨u, k⟩ := x
    by_cases hu : u ≤ 1048576
    · exact .inl ⟨u, k, rfl, hu⟩
    · exact .inr fun u' k' h => by cases h; omega

def PbRel (w : World) (q0 r B b off n bc : Nat) (bs : List Nat) (sl sa : Value) (wr : World) : Prop :=
  (∃ (k p : Nat) (gv : Nat → Nat → Int), 2 * k ≤ p ∧ p ≤ n ∧ bs.take p = printL gv k ∧ sa = .int .i64 (aheadOf gv k) ∧ 0 ≤ aheadOf gv k ∧ aheadOf gv k ≤ 1048576 * (k : Int) ∧ St w q0 r B (some ⟨b, off, none⟩) n bc p .nilIface sl k (flatG gv k) wr) ∨
  (∃ (b' p m : Nat) (z : Int) (xs : List Value), sa = .int .i64 z ∧ 0 ≤ z ∧ z ≤ 2199023255552 ∧ m ≤ 3000 ∧ St w q0 r B (some ⟨b, off, none⟩) n bc p (atErr b') sl m xs wr)

def ParseA (bs : List Nat) (w : World) (e : Ending) (w' : World) : Prop :=
  Below w.heap.size w w' ∧ ((∃ (k : Nat) (gv : Nat → Nat → Int) (oa : Option Addr) (oc : Nat), k ≤ 400 ∧ FairP gv k ∧ bs = printL gv k ∧ e = .returned (.tuple #[.slice oa k oc, .nilIface]) ∧ Picks w' oa k oc gv) ∨ (∃ t x, e = .returned (.tuple #[.slice none 0 0, .iface t (.pointer (some x))])))

end Go.Proofs.YtjcklfbpdjfibaaDoor

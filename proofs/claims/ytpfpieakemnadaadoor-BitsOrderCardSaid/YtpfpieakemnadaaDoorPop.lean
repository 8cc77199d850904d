/-
  How many bits of a word are set: the sum by fields (nothing of the program's).
-/
import Derived.Test.YtpfpieakemnadaaDoorBits0
namespace Go.Proofs.YtpfpieakemnadaaDoor
open Go

/-- Bytes as a number, the least first. -/
def val : List Nat → Nat
  | [] => 0
  | c :: l => c + 256 * val l

theorem and_bytes (a b A B : Nat) (ha : a < 256) (hb : b < 256) : (a + 256 * A) &&& (b + 256 * B) = (a &&& b) + 256 * (A &&& B) := by
  have e : ∀ x X : Nat, x < 256 → ∀ j, (x + 256 * X).testBit j = if j < 8 then x.testBit j else X.testBit (j - 8) := fun x X hx j => by
    rw [Nat.add_comm, show 256 * X = 2 ^ 8 * X by rfl, Nat.testBit_two_pow_mul_add _ (show x < 2 ^ 8 from hx)]
  have hab : (a &&& b) < 256 := Nat.lt_of_le_of_lt Nat.and_le_left ha
  apply Nat.eq_of_testBit_eq
  intro j
  rw [Nat.testBit_and, e a A ha, e b B hb, e _ _ hab]
  split <;> rw [Nat.testBit_and]

def p1 (c : Nat) : Nat := (c / 2 &&& 0x55) + (c &&& 0x55)
def p2 (c : Nat) : Nat := (c / 4 &&& 0x33) + (c &&& 0x33)
def p3 (c : Nat) : Nat := (c / 16 + c) &&& 0x0f
def mask (m : Nat) : Nat → Nat
  | 0 => 0
  | d + 1 => m + 256 * mask m d

theorem half1 : ∀ c : Fin 256, ∀ t : Fin 2, (c.val / 2 + 128 * t.val &&& 0x55) = (c.val / 2 &&& 0x55) := by decide +kernel
theorem half2 : ∀ c : Fin 256, ∀ t : Fin 4, (c.val / 4 + 64 * t.val &&& 0x33) = (c.val / 4 &&& 0x33) := by decide +kernel
theorem half3 : ∀ c : Fin 69, ∀ t : Fin 5, (c.val / 16 + c.val + 16 * t.val &&& 0x0f) = (c.val / 16 + c.val &&& 0x0f) := by decide +kernel

theorem sum1 : ∀ (l : List Nat), (∀ c ∈ l, c < 256) → (val l / 2 &&& mask 0x55 l.length) + (val l &&& mask 0x55 l.length) = val (l.map p1)
  | [], _ => rfl
  | c :: l, h => by
    have hc : c < 256 := h c (by simp)
    have ih := sum1 l fun x hx => h x (by simp [hx])
    show ((c + 256 * val l) / 2 &&& (0x55 + 256 * mask 0x55 l.length)) + ((c + 256 * val l) &&& (0x55 + 256 * mask 0x55 l.length)) = p1 c + 256 * val (l.map p1)
    have e : (c + 256 * val l) / 2 = (c / 2 + 128 * (val l % 2)) + 256 * (val l / 2) := by omega
    rw [e, and_bytes _ _ _ _ (by omega) (by omega), and_bytes _ _ _ _ hc (by omega), half1 ⟨c, hc⟩ ⟨val l % 2, by omega⟩, ← ih]
    unfold p1
    simp only
    omega

theorem sum2 : ∀ (l : List Nat), (∀ c ∈ l, c < 256) → (val l / 4 &&& mask 0x33 l.length) + (val l &&& mask 0x33 l.length) = val (l.map p2)
  | [], _ => rfl
  | c :: l, h => by
    have hc : c < 256 := h c (by simp)
    have ih := sum2 l fun x hx => h x (by simp [hx])
    show ((c + 256 * val l) / 4 &&& (0x33 + 256 * mask 0x33 l.length)) + ((c + 256 * val l) &&& (0x33 + 256 * mask 0x33 l.length)) = p2 c + 256 * val (l.map p2)
    have e : (c + 256 * val l) / 4 = (c / 4 + 64 * (val l % 4)) + 256 * (val l / 4) := by omega
    rw [e, and_bytes _ _ _ _ (by omega) (by omega), and_bytes _ _ _ _ hc (by omega), half2 ⟨c, hc⟩ ⟨val l % 4, by omega⟩, ← ih]
    unfold p2
    simp only
    omega

theorem low_nib : ∀ (l : List Nat), (∀ c ∈ l, c < 69 ∧ c % 16 ≤ 4) → val l % 16 ≤ 4
  | [], _ => by show 0 ≤ 4; omega
  | c :: l, h => by
    have := (h c (by simp)).2
    show (c + 256 * val l) % 16 ≤ 4
    omega

theorem sum3 : ∀ (l : List Nat), (∀ c ∈ l, c < 69 ∧ c % 16 ≤ 4) → ((val l / 16 + val l) &&& mask 0x0f l.length) = val (l.map p3)
  | [], _ => rfl
  | c :: l, h => by
    have hc := (h c (by simp)).1
    have ih := sum3 l fun x hx => h x (by simp [hx])
    have ht := low_nib l fun x hx => h x (by simp [hx])
    show ((c + 256 * val l) / 16 + (c + 256 * val l) &&& (0x0f + 256 * mask 0x0f l.length)) = p3 c + 256 * val (l.map p3)
    have e : (c + 256 * val l) / 16 + (c + 256 * val l) = (c / 16 + c + 16 * (val l % 16)) + 256 * (val l / 16 + val l) := by omega
    rw [e, and_bytes _ _ _ _ (by omega) (by omega), half3 ⟨c, hc⟩ ⟨val l % 16, by omega⟩, ← ih]
    rfl

/-- The number of bits of a byte. -/
def pop (c : Nat) : Nat := ((List.range 8).filter c.testBit).length
theorem pop_byte : ∀ c : Fin 256, p1 c.val < 256 ∧ p2 (p1 c.val) < 69 ∧ p2 (p1 c.val) % 16 ≤ 4 ∧ p3 (p2 (p1 c.val)) = pop c.val ∧ pop c.val ≤ 8 := by decide +kernel

/-- What the three steps make: in each byte how many bits of it are set. -/
theorem fields (l : List Nat) (h : ∀ c ∈ l, c < 256) (y z : Nat) (hy : y = (val l / 2 &&& mask 0x55 l.length) + (val l &&& mask 0x55 l.length)) (hz : z = (y / 4 &&& mask 0x33 l.length) + (y &&& mask 0x33 l.length)) :
    ((z / 16 + z) &&& mask 0x0f l.length) = val (l.map pop) := by
  have e1 : y = val (l.map p1) := hy.trans (sum1 l h)
  have e2 : z = val ((l.map p1).map p2) := by
    rw [hz, e1]
    have := sum2 (l.map p1) fun x hx => by
      obtain ⟨c, hc, rfl⟩ := List.mem_map.1 hx
      exact (pop_byte ⟨c, h c hc⟩).1
    rw [List.length_map] at this
    exact this
  rw [e2]
  have := sum3 ((l.map p1).map p2) fun x hx => by
    obtain ⟨c, hc, rfl⟩ := List.mem_map.1 hx
    obtain ⟨d, hd, rfl⟩ := List.mem_map.1 hc
    exact ⟨(pop_byte ⟨d, h d hd⟩).2.1, (pop_byte ⟨d, h d hd⟩).2.2.1⟩
  rw [List.length_map, List.length_map] at this
  rw [this, List.map_map, List.map_map]
  congr 1
  apply List.map_congr_left
  intro c hc
  exact (pop_byte ⟨c, h c hc⟩).2.2.2.1

/-- The eight bytes of a word. -/
def bytes8 (x : Nat) : List Nat := [x % 256, x / 256 % 256, x / 65536 % 256, x / 16777216 % 256, x / 4294967296 % 256, x / 1099511627776 % 256, x / 281474976710656 % 256, x / 72057594037927936 % 256]
theorem bytes8_val (x : Nat) (h : x < 18446744073709551616) : val (bytes8 x) = x := by
  simp only [bytes8, val]
  omega
theorem bytes8_lt (x : Nat) : ∀ c ∈ bytes8 x, c < 256 := by
  intro c hc
  simp only [bytes8, List.mem_cons, List.not_mem_nil, or_false] at hc
  omega

theorem pop_le (c : Nat) (h : c < 256) : pop c ≤ 8 := (pop_byte ⟨c, h⟩).2.2.2.2

theorem range64 : List.range 64 = List.range 8 ++ (List.range 8).map (8 + ·) ++ (List.range 8).map (16 + ·) ++ (List.range 8).map (24 + ·) ++ (List.range 8).map (32 + ·) ++ (List.range 8).map (40 + ·) ++ (List.range 8).map (48 + ·) ++ (List.range 8).map (56 + ·) := by decide

theorem byte_bits (x k : Nat) : ((List.range 8).map (k + ·)).filter x.testBit = ((List.range 8).filter (x / 2 ^ k % 256).testBit).map (k + ·) := by
  rw [List.filter_map]
  congr 1
  apply List.filter_congr
  intro j hj
  have hj8 : j < 8 := List.mem_range.1 hj
  show x.testBit (k + j) = _
  rw [show (256 : Nat) = 2 ^ 8 by rfl, Nat.testBit_mod_two_pow, Nat.testBit_div_two_pow]
  simp [hj8, Nat.add_comm]

theorem bitsOf_bytes (x : Nat) : (bitsOf x).length = ((bytes8 x).map pop).sum := by
  have e0 : ((List.range 8).filter x.testBit) = (List.range 8).filter (x % 256).testBit := by
    apply List.filter_congr
    intro j hj
    have hj8 : j < 8 := List.mem_range.1 hj
    rw [show (256 : Nat) = 2 ^ 8 by rfl, Nat.testBit_mod_two_pow]
    simp [hj8]
  unfold bitsOf
  rw [range64]
  simp only [List.filter_append, List.length_append, byte_bits, List.length_map, e0, bytes8, List.map_cons, List.map_nil, List.sum_cons, List.sum_nil, pop, Nat.reducePow]
  omega

/-- The last three sums, and the low seven bits. -/
theorem total (d0 d1 d2 d3 d4 d5 d6 d7 x y z : Nat) (h0 : d0 ≤ 8) (h1 : d1 ≤ 8) (h2 : d2 ≤ 8) (h3 : d3 ≤ 8) (h4 : d4 ≤ 8) (h5 : d5 ≤ 8) (h6 : d6 ≤ 8) (h7 : d7 ≤ 8)
    (hx : x = val [d0, d1, d2, d3, d4, d5, d6, d7]) (hy : y = x + x / 256) (hz : z = y + y / 65536) :
    y < 18446744073709551616 ∧ z < 18446744073709551616 ∧ z + z / 4294967296 < 18446744073709551616 ∧ (z + z / 4294967296) % 128 = d0 + (d1 + (d2 + (d3 + (d4 + (d5 + (d6 + (d7 + 0))))))) := by
  have e1 : x / 256 = val [d1, d2, d3, d4, d5, d6, d7] := by
    rw [hx]
    show (d0 + 256 * val [d1, d2, d3, d4, d5, d6, d7]) / 256 = _
    omega
  have e2 : y = val [d0 + d1, d1 + d2, d2 + d3, d3 + d4, d4 + d5, d5 + d6, d6 + d7, d7] := by
    rw [hy, e1, hx]
    simp only [val]
    omega
  have e3 : y / 65536 = val [d2 + d3, d3 + d4, d4 + d5, d5 + d6, d6 + d7, d7] := by
    rw [e2]
    show (d0 + d1 + 256 * (d1 + d2 + 256 * val [d2 + d3, d3 + d4, d4 + d5, d5 + d6, d6 + d7, d7])) / 65536 = _
    omega
  have e4 : z = val [d0 + d1 + d2 + d3, d1 + d2 + d3 + d4, d2 + d3 + d4 + d5, d3 + d4 + d5 + d6, d4 + d5 + d6 + d7, d5 + d6 + d7, d6 + d7, d7] := by
    rw [hz, e3, e2]
    simp only [val]
    omega
  have e5 : z / 4294967296 = val [d4 + d5 + d6 + d7, d5 + d6 + d7, d6 + d7, d7] := by
    rw [e4]
    show (d0 + d1 + d2 + d3 + 256 * (d1 + d2 + d3 + d4 + 256 * (d2 + d3 + d4 + d5 + 256 * (d3 + d4 + d5 + d6 + 256 * val [d4 + d5 + d6 + d7, d5 + d6 + d7, d6 + d7, d7])))) / 4294967296 = _
    omega
  have b2 : y < 18446744073709551616 := by rw [e2]; simp only [val]; omega
  have b4 : z < 18446744073709551616 := by rw [e4]; simp only [val]; omega
  have e6 : z + z / 4294967296 = d0 + d1 + d2 + d3 + d4 + d5 + d6 + d7 + 256 * (d1 + d2 + d3 + d4 + d5 + d6 + d7 + 256 * (d2 + d3 + d4 + d5 + d6 + d7 + 256 * (d3 + d4 + d5 + d6 + d7 + 256 * val [d4 + d5 + d6 + d7, d5 + d6 + d7, d6 + d7, d7]))) := by
    rw [e5, e4]
    simp only [val]
    omega
  have b5 : val [d4 + d5 + d6 + d7, d5 + d6 + d7, d6 + d7, d7] < 4294967296 := by simp only [val]; omega
  refine ⟨b2, b4, ?_, ?_⟩
  · rw [e6]; omega
  · rw [e6]
    have q : ∀ s M : Nat, s ≤ 64 → (s + 256 * M) % 128 = s := fun s M h => by omega
    rw [q _ _ (by omega)]
    omega

end Go.Proofs.YtpfpieakemnadaaDoor

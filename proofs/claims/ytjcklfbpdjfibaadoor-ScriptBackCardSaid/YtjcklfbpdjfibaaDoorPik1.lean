/-
  Package script over any list of picks: slices.Clone, New.
-/
import Derived.Test.YtjcklfbpdjfibaaDoorPik0
import Derived.Test.YtjcklfbpdjfibaaDoorS4
import Derived.WalkSpells
namespace Go.Proofs.YtjcklfbpdjfibaaDoor
open Go.RowKit

theorem pickinfoG : (Tryd.prog.info? 107).map (fun i => (i.zero, i.size, i.bytes)) = some (some (.agg #[.int .i64 0, .int .i64 0, .int .i64 0, .int .i64 0]), 4, 32) := by kernel_rfl

theorem add_zeroG (b k : Nat) : (⟨b, 0, none⟩ : Addr).add k = ⟨b, k, none⟩ := by
  unfold Addr.add
  split
  · rename_i h0; rw [h0]
  · simp

/-- What a call owns of picks reads as a list of them. -/
theorem picks_ownG {B : Nat} {w : World} {v : Value} {xs : List Value} {n : Nat} {gv : Nat → Nat → Int} (h : w.ownsRow B 107 4 v n xs) (hx : ∀ i j, i < n → j < 4 → xs[i * 4 + j]? = some (.int .i64 (gv i j))) : ∃ a cap, v = .slice a n cap ∧ Picks w a n cap gv := by
  rcases h.2 with ⟨rfl, h0⟩ | ⟨g, cap, cur, rfl, hb, hg, hnc, hcm, hcs, ht⟩
  · subst h0
    exact ⟨none, 0, rfl, ⟨Nat.le_refl _, Nat.zero_le _, fun _ => rfl, fun ad h => (by cases h)⟩⟩
  · refine ⟨_, cap, rfl, ⟨hnc, hcm, fun h => (by cases h), fun ad had i j hi hj => ?_⟩⟩
    cases had
    rw [add_zeroG, cell_of_row w g _ cur 107 (0, 0) hg]
    have h1 := hx i j hi hj
    rw [← ht, List.getElem?_take_of_lt (by omega)] at h1
    simpa using h1

theorem own_base {B B' : Nat} {w : World} {e size n : Nat} {v : Value} {xs : List Value} (h : w.ownsRow B e size v n xs) (hb : B' ≤ B) : w.ownsRow B' e size v n xs := by
  refine ⟨h.1, ?_⟩
  rcases h.2 with h1 | ⟨g, cap, cur, h1, h2, h3⟩
  · exact .inl h1
  · exact .inr ⟨g, cap, cur, h1, Nat.le_trans hb h2, h3⟩

theorem own_shape {B : Nat} {w : World} {e size n : Nat} {v : Value} {xs : List Value} (h : w.ownsRow B e size v n xs) : ∃ a c, v = .slice a n c := by
  rcases h.2 with ⟨rfl, h1⟩ | ⟨g, cap, cur, h1, h2, h3⟩
  · exact ⟨none, 0, by rw [h1]⟩
  · exact ⟨_, _, h1⟩

theorem own_noneG (w : World) (B : Nat) (hB : B ≤ w.heap.size) : (w.alloc (.cells #[] 107)).ownsRow B 107 4 (.slice (some ⟨w.heap.size, 0, none⟩) 0 0) 0 [] :=
  ⟨rfl, .inr ⟨w.heap.size, 0, #[], rfl, hB, heap_alloc_new w _, Nat.le_refl _, by unfold maxLen; omega, rfl, rfl⟩⟩

def CloneG (gv : Nat → Nat → Int) (len : Nat) (w : World) (e : Ending) (w' : World) : Prop := ∃ v, e = .returned v ∧ w'.ownsRow w.heap.size 107 4 v len (flatG gv len) ∧ Below w.heap.size w w'

set_option maxRecDepth 100000 in
theorem clone_any (ad : Option Addr) (len cap : Nat) (gv : Nat → Nat → Int) (w : World) (hp : Picks w ad len cap gv) (hl : len ≤ 400) :
    Calls Tryd.prog 122 #[.slice ad len cap] w (CloneG gv len w) := by
  obtain ⟨i0, hi, hz0, hz1, hz2⟩ := info_parts pickinfoG
  have HI := Lib.hid hi
  have HZ0 := Lib.hid hz0
  have HZ1 := Lib.hid hz1
  have HZ2 := Lib.hid hz2
  clear hi hz0 hz1 hz2
  cases ad with
  | none =>
    have h0 := hp.nil rfl
    subst h0
    have h1 : len = 0 := Nat.le_zero.1 hp.le
    subst h1
    have FIN : Hid (CloneG gv 0 w (.returned (.slice none 0 0)) w) := Lib.hid ⟨_, rfl, World.ownsRow_nil _ _ _ _, Below.refl _ _⟩
    clear hp
    go_enter Tryd.func122, Tryd.ntmps122
    have E1 := Lib.hid (Lib.run_eql_slice_nil (P := Tryd.prog) w 88 107 none 0 0 0 0 Tryd.underlying88)
    go_wp2_with (first | rw [E1.out])
    go_ret
    exact FIN.out
  | some x =>
    have hbl : Below w.heap.size w (w.alloc (.cells #[] 107)) := (Below.refl _ _).alloc (Nat.le_refl _) _
    have hnews : ∀ j u, (flatG gv len)[j]? = some u → (w.alloc (.cells #[] 107)).cell? (x.add j) = some u := by
      intro j u hu
      have hj : j < len * 4 := by
        have := (List.getElem?_eq_some_iff.1 hu).1
        rw [flatG_len] at this
        exact this
      have e : j = j / 4 * 4 + j % 4 := by omega
      rw [e] at hu ⊢
      rw [flatG_get gv len (j / 4) (j % 4) (by omega) (Nat.mod_lt _ (by decide))] at hu
      have hc := hp.cells x rfl (j / 4) (j % 4) (by omega) (Nat.mod_lt _ (by decide))
      rw [hbl.cell (World.block_lt_of_cell? w _ hc), hc, hu]
    have HN := Lib.hid hnews
    have HB := Lib.hid hbl
    have HM := Lib.hid (show 0 + len ≤ maxLen by unfold maxLen; omega)
    have HL := Lib.hid (show (flatG gv len).length = len * 4 from flatG_len gv len)
    have H1 := Lib.hid (flatG_one gv len)
    obtain ⟨xs, hxs⟩ : ∃ xs, flatG gv len = xs := ⟨_, rfl⟩
    have HX := Lib.hid hxs
    rw [hxs] at HN HL H1
    clear hnews hbl hp hxs
    go_enter Tryd.func122, Tryd.ntmps122
    have E1 := Lib.hid (Lib.run_eql_slice_nil (P := Tryd.prog) w 88 107 (some x) len cap 0 0 Tryd.underlying88)
    go_wp2_with (first | rw [E1.out] | (at_builtin; refine wpList_append_own _ rfl (.tmp 5) (.tmp 6) 88 rfl w.heap.size 107 i0 (.agg #[.int .i64 0, .int .i64 0, .int .i64 0, .int .i64 0]) 4 32 Tryd.underlying88 HI.out HZ0.out HZ1.out HZ2.out rfl (by decide) _ 0 [] rfl (own_noneG w _ (Nat.le_refl _)) x len cap xs rfl HL.out HN.out H1.out HM.out (by omega) (by simp) ?_; intro v5 w5 hown5 hgrow5 hnil5))
    go_ret
    refine ⟨v5, rfl, ?_, HB.out.grown hgrow5 (by simp) (fun k hk => ?_)⟩
    · rw [HX.out]
      have := hown5
      rw [Nat.zero_add, List.nil_append] at this
      exact this
    · have h1 : w.heap.size = k := Option.some.inj (show some w.heap.size = some k from hk)
      omega

/-- A script's box: what is left of its picks, and the least safepoint that may be asked. -/
def SBox (q : Nat) (v : Value) (next : Int) (w : World) : Prop := w.heap[q]? = some (.cells #[v, .int .i64 next] 171 (0, 0))

def NewG (gv : Nat → Nat → Int) (len : Nat) (w : World) (e : Ending) (w' : World) : Prop :=
  ∃ q v, e = .returned (.tuple #[.pointer (some ⟨q, 0, none⟩), .nilIface]) ∧ SBox q v 0 w' ∧ w'.ownsRow w.heap.size 107 4 v len (flatG gv len) ∧ v.ownBlock ≠ some q ∧ w.heap.size ≤ q ∧ Below w.heap.size w w'

theorem new_fair (a : Nat → Addr) (ad : Option Addr) (len cap : Nat) (gv : Nat → Nat → Int) (w : World) (h : Sents4 a w) (hp : Picks w ad len cap gv) (hl : len ≤ 400) (hok : FairP gv len) :
    Calls Tryd.prog 73 #[.slice ad len cap] w (NewG gv len w) := by
  have HS := Lib.hid h
  have HP := Lib.hid hp
  have HOK := Lib.hid hok
  clear h hp hok
  go_enter Tryd.func73, Tryd.ntmps73
  go_wp2_with fail
  refine (may_list4 a _ len cap gv len _ HS.out HP.out hl (Nat.le_refl _) HOK.out (fun h => absurd h (Nat.lt_irrefl _))).mono ?_
  rintro e w1 ⟨hb1, ⟨_, rfl⟩ | ⟨hlt, _⟩⟩
  · have HB := Lib.hid hb1
    have HP1 := Lib.hid (HP.out.below hb1)
    clear hb1
    go_wp2_with fail
    refine (clone_any _ len cap gv _ HP1.out hl).mono ?_
    rintro e w2 ⟨v, rfl, hown, hb2⟩
    obtain ⟨va, vc, rfl⟩ := own_shape hown
    have HB2 : Hid (Below w.heap.size w w2) := Lib.hid (HB.out.trans (hb2.mono HB.out.size))
    have HO := Lib.hid hown
    clear hb2 hown
    go_wp2_with fail
    go_ret2
    have hO2 : (w2.alloc (.cells #[.slice va len vc, .int .i64 0] 171)).ownsRow w.heap.size 107 4 (.slice va len vc) len (flatG gv len) := by
      exact own_base (HO.out.alloc _) HB.out.size
    refine ⟨_, _, rfl, heap_alloc_new w2 _, hO2, fun he => ?_, HB2.out.size, HB2.out.alloc HB2.out.size _⟩
    have := (HO.out.lt _ he).2
    omega
  · exact absurd hlt (Nat.lt_irrefl _)

theorem new_unfair (a : Nat → Addr) (ad : Option Addr) (len cap : Nat) (gv : Nat → Nat → Int) (n : Nat) (w : World) (h : Sents4 a w) (hp : Picks w ad len cap gv) (hl : len ≤ 400) (hn : n < len) (hok : ∀ i, i < n → codeAt gv i = 0) (hbad : codeAt gv n ≠ 0) :
    Calls Tryd.prog 73 #[.slice ad len cap] w fun e w' => ∃ q, e = .returned (.tuple #[.pointer none, .iface 164 (.pointer (some ⟨q, 0, none⟩))]) ∧ Below w.heap.size w w' := by
  have HS := Lib.hid h
  have HP := Lib.hid hp
  have HOK := Lib.hid hok
  have HBAD := Lib.hid hbad
  clear h hp hok hbad
  go_enter Tryd.func73, Tryd.ntmps73
  go_wp2_with fail
  refine (may_list4 a _ len cap gv n _ HS.out HP.out hl (by omega) HOK.out (fun _ => HBAD.out)).mono ?_
  rintro e w1 ⟨hb1, ⟨h0, _⟩ | ⟨_, q, rfl, hq, hat⟩⟩
  · omega
  · have HB := Lib.hid hb1
    clear hb1 hat
    go_wp2_with fail
    go_ret2
    exact ⟨q, rfl, HB.out⟩

end Go.Proofs.YtjcklfbpdjfibaaDoor

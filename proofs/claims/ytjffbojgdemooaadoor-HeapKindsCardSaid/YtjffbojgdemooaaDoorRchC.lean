/-
  A heap's Reach.
-/
import Derived.Test.YtjffbojgdemooaaDoorRchB
namespace Go.Proofs.YtjffbojgdemooaaDoor
open Go.RowKit

theorem refs_make (hb : Nat) (r : Int) (w : World) : Calls Tryd.prog 178 #[.pointer (some ⟨hb, 0, none⟩), .int .i64 r] w fun e w' =>
    e = .returned (.func (.func 199) #[] #[.pointer (some ⟨w.heap.size, 0, none⟩), .pointer (some ⟨w.heap.size + 1, 0, none⟩)]) ∧ w' = (w.alloc (.cells #[.pointer (some ⟨hb, 0, none⟩)] 91)).alloc (.cells #[.int .i64 r] 3) := by
  go_enter Tryd.func178, Tryd.ntmps178
  go_wp2
  go_ret
  exact ⟨rfl, rfl⟩

abbrev NoX : Nat → Prop := fun _ => False

theorem rch_more {X Y : Nat → Prop} {hb N bm bh bt bo mb : Nat} {out : List Int} {w : World} (h : Rch X hb N bm bh bt bo mb out w) (hX : ∀ k, Y k → X k) : Rch Y hb N bm bh bt bo mb out w := by
  obtain ⟨v, o1, o2, o3, o4⟩ := h.o
  exact ⟨h.m, h.h, h.t, ⟨v, o1, o2, o3, fun k hk => o4 k (hX k hk)⟩, fun k hk => h.x k (hX k hk), h.s, h.n1, h.n2, h.n3, h.n4, h.n5, h.n6, h.n7, h.l1, h.l2, h.l3, h.l4, h.l5⟩

theorem rch_fresh {hb N bm bh bt bo mb : Nat} {out : List Int} {w w' : World} (h : Rch NoX hb N bm bh bt bo mb out w) (hb' : Below w.heap.size w w') (hN : N ≤ w.heap.size) : Rch (fun k => w.heap.size ≤ k ∧ k < w'.heap.size) hb N bm bh bt bo mb out w' := by
  obtain ⟨v, o1, o2, o3, o4⟩ := h.o
  have h2 := h.below hb'
  obtain ⟨v', p1, p2, p3, p4⟩ := h2.o
  have hv : v' = v := by
    have e1 := (hb'.block bo (Array.getElem?_eq_some_iff.1 o1).1).trans o1
    rw [e1] at p1
    simpa using p1.symm
  subst hv
  exact ⟨h2.m, h2.h, h2.t, ⟨v', p1, p2, p3, fun k hk e => by have := (o2.lt k e).2; omega⟩, fun k hk => ⟨by omega, hk.2⟩, h2.s, h.n1, h.n2, h.n3, h.n4, h.n5, h.n6, h.n7, h.l1, h.l2, h.l3, h.l4, h.l5⟩

theorem own_base {B B' : Nat} {w : World} {e size n : Nat} {v : Value} {xs : List Value} (h : w.ownsRow B e size v n xs) (hb : B' ≤ B) : w.ownsRow B' e size v n xs := by
  refine ⟨h.1, ?_⟩
  rcases h.2 with h1 | ⟨g, cap, cur, h1, h2, h3⟩
  · exact .inl h1
  · exact .inr ⟨g, cap, cur, h1, Nat.le_trans hb h2, h3⟩

theorem own_shape {B : Nat} {w : World} {e size n : Nat} {v : Value} {xs : List Value} (h : w.ownsRow B e size v n xs) : ∃ a c, v = .slice a n c := by
  rcases h.2 with ⟨rfl, h1⟩ | ⟨g, cap, cur, h1, h2, h3⟩
  · exact ⟨none, 0, by rw [h1]⟩
  · exact ⟨_, _, h1⟩

section
variable {B hb ab gb bg : Nat} {cp : Option Addr} {cl cc : Nat} {cf : Nat → ByteArray} {n : Nat} {yt yp hp ht f1 t1 p1 : Int} {wd : Nat → Int} {bd : Nat → Bool} {mk : Value} {ob : Nat → Option (Int × Nat)}

def ReachPost (is : Int → Bool) (refs : Int → List Int) (roots : List Int) (w : World) (e : Ending) (w' : World) : Prop :=
  ∃ v k, e = .returned v ∧ (outN is refs roots k).length = k ∧ w'.ownsRow w.heap.size 3 1 v k ((outN is refs roots k).map (Value.int .i64)) ∧ Below w.heap.size w w'

def RootRel (hb N bm bh bt bo mb : Nat) (is : Int → Bool) (zs : List Int) (w w1 : World) (si : Value) (wr : World) : Prop :=
  ∃ i : Nat, i ≤ zs.length ∧ si = .int .i64 i ∧ Rch NoX hb N bm bh bt bo mb ((zs.take i).foldl (meetF is) []) wr ∧ Below w.heap.size w wr ∧ w1.heap.size ≤ wr.heap.size

def OutRel (hb N bm bh bt bo mb : Nat) (is : Int → Bool) (refs : Int → List Int) (zs : List Int) (w w1 : World) (si : Value) (wr : World) : Prop :=
  ∃ k : Nat, k ≤ (outN is refs zs k).length ∧ si = .int .i64 k ∧ Rch NoX hb N bm bh bt bo mb (outN is refs zs k) wr ∧ Below w.heap.size w wr ∧ w1.heap.size ≤ wr.heap.size

def reachW (hb : Nat) (w : World) : World :=
  ((((w.alloc (.cells #[.pointer (some ⟨hb, 0, none⟩)] 91)).alloc (.cells #[.func (.func 139) #[] #[]] 31)).alloc (.cells #[.slice none 0 0] 26)).alloc (.map #[] 0)).alloc (.cells #[.map (some (w.heap.size + 3))] 233)

theorem reachW_rch (hb : Nat) (w : World) : Rch NoX hb (w.heap.size + 5) (w.heap.size + 4) w.heap.size (w.heap.size + 1) (w.heap.size + 2) (w.heap.size + 3) [] (reachW hb w) ∧ Below w.heap.size w (reachW hb w) ∧ (reachW hb w).heap.size = w.heap.size + 5 := by
  have hsz : (reachW hb w).heap.size = w.heap.size + 5 := by simp [reachW]
  have h0 : (reachW hb w).heap[w.heap.size]? = some (.cells #[.pointer (some ⟨hb, 0, none⟩)] 91 (0, 0)) := by
    unfold reachW
    rw [Below.heap_alloc _ _ _ (by simp <;> omega), Below.heap_alloc _ _ _ (by simp <;> omega), Below.heap_alloc _ _ _ (by simp <;> omega), Below.heap_alloc _ _ _ (by simp)]
    exact heap_alloc_new _ _
  have h1 : (reachW hb w).heap[w.heap.size + 1]? = some (.cells #[.func (.func 139) #[] #[]] 31 (0, 0)) := by
    unfold reachW
    rw [Below.heap_alloc _ _ _ (by simp <;> omega), Below.heap_alloc _ _ _ (by simp <;> omega), Below.heap_alloc _ _ _ (by simp)]
    have := heap_alloc_new (w.alloc (.cells #[.pointer (some ⟨hb, 0, none⟩)] 91)) (.cells #[.func (.func 139) #[] #[]] 31)
    rw [World.size_alloc] at this
    exact this
  have h2 : (reachW hb w).heap[w.heap.size + 2]? = some (.cells #[.slice none 0 0] 26 (0, 0)) := by
    unfold reachW
    rw [Below.heap_alloc _ _ _ (by simp <;> omega), Below.heap_alloc _ _ _ (by simp)]
    have := heap_alloc_new ((w.alloc (.cells #[.pointer (some ⟨hb, 0, none⟩)] 91)).alloc (.cells #[.func (.func 139) #[] #[]] 31)) (.cells #[.slice none 0 0] 26)
    rw [World.size_alloc, World.size_alloc] at this
    exact this
  have h4 : (reachW hb w).heap[w.heap.size + 4]? = some (.cells #[.map (some (w.heap.size + 3))] 233 (0, 0)) := by
    unfold reachW
    have := heap_alloc_new ((((w.alloc (.cells #[.pointer (some ⟨hb, 0, none⟩)] 91)).alloc (.cells #[.func (.func 139) #[] #[]] 31)).alloc (.cells #[.slice none 0 0] 26)).alloc (.map #[] 0)) (.cells #[.map (some (w.heap.size + 3))] 233)
    rw [World.size_alloc, World.size_alloc, World.size_alloc, World.size_alloc] at this
    exact this
  have h3 : IntSet Tryd.prog 3 (w.heap.size + 3) 0 (fun x => ([] : List Int).contains x) (reachW hb w) := by
    have := IntSet.made (((w.alloc (.cells #[.pointer (some ⟨hb, 0, none⟩)] 91)).alloc (.cells #[.func (.func 139) #[] #[]] 31)).alloc (.cells #[.slice none 0 0] 26)) Tryd.prog 3
    rw [World.size_alloc, World.size_alloc, World.size_alloc] at this
    exact (this.kept (w' := reachW hb w) (Below.heap_alloc _ _ _ (by simp))).congr fun x => by simp
  refine ⟨⟨h4, h0, h1, ⟨_, h2, World.ownsRow_nil _ _ _ _, fun _ => rfl, fun k hk => hk.elim⟩, fun k hk => hk.elim, h3, ?_, ?_, ?_, ?_, ?_, ?_, ?_, ?_, ?_, ?_, ?_, ?_⟩, ?_, hsz⟩
  all_goals first | omega | skip
  exact (((((Below.refl _ _).alloc (Nat.le_refl _) _).alloc (by simp) _).alloc (by simp <;> omega) _).alloc (by simp <;> omega) _).alloc (by simp <;> omega) _

theorem reachW_in (hb : Nat) (w : World) : Rch NoX hb (w.heap.size + 1 + 1 + 1 + 1 + 1) (w.heap.size + 1 + 1 + 1 + 1) w.heap.size (w.heap.size + 1) (w.heap.size + 1 + 1) (w.heap.size + 1 + 1 + 1) []
    (((((w.alloc (.cells #[.pointer (some ⟨hb, 0, none⟩)] 91)).alloc (.cells #[.func (.func 139) #[] #[]] 31)).alloc (.cells #[.slice none 0 0] 26)).alloc (.map #[] 0)).alloc (.cells #[.map (some (w.heap.size + 1 + 1 + 1))] 233)) := (reachW_rch hb w).1

theorem outN_step (is : Int → Bool) (refs : Int → List Int) (zs : List Int) (k : Nat) : outN is refs zs (k + 1) = (refs ((outN is refs zs k).getD k 0)).foldl (meetF is) (outN is refs zs k) := rfl

theorem take_snocR (zs : List Int) (i : Nat) (h : i < zs.length) : zs.take (i + 1) = zs.take i ++ [zs.getD i 0] := by rw [List.take_add_one]; simp [List.getD, h]

theorem fold_len (is : Int → Bool) : ∀ (l out : List Int), out.length ≤ (l.foldl (meetF is) out).length
  | [], _ => Nat.le_refl _
  | x :: r, out => Nat.le_trans (meet_len is out x) (fold_len is r _)

set_option maxHeartbeats 4000000 in
set_option maxRecDepth 100000 in
theorem reach_any (a : Option Addr) (len cap : Nat) (zs : List Int) (w : World) (H0 : Hp B hb ab gb bg cp cl cc cf n yt yp hp ht f1 t1 p1 wd bd mk w) (hO : Objs n wd bd cl cf ob) (hr : Row .i64 w a len cap zs) :
    Calls Tryd.prog 138 #[.pointer (some ⟨hb, 0, none⟩), .slice a len cap, .func (.func 139) #[] #[]] w
      (ReachPost (isB ob n) (refsB wd cf ob) zs w) := by
  have sm := H0.sm
  have hln := hr.len_eq
  have hmax := hr.max
  have hle := hr.le
  unfold maxLen at hmax
  have HH := Lib.hid H0
  have HO := Lib.hid hO
  have HR := Lib.hid hr
  have HL := Lib.hid hln
  have hz := (reachW_rch hb w).2.2
  have hbw := (reachW_rch hb w).2.1
  have r0 : RootRel hb (w.heap.size + 1 + 1 + 1 + 1 + 1) (w.heap.size + 1 + 1 + 1 + 1) w.heap.size (w.heap.size + 1) (w.heap.size + 1 + 1) (w.heap.size + 1 + 1 + 1) (isB ob n) zs w (reachW hb w) (.int .i64 0)
    (((((w.alloc (.cells #[.pointer (some ⟨hb, 0, none⟩)] 91)).alloc (.cells #[.func (.func 139) #[] #[]] 31)).alloc (.cells #[.slice none 0 0] 26)).alloc (.map #[] 0)).alloc (.cells #[.map (some (w.heap.size + 1 + 1 + 1))] 233)) :=
    ⟨0, Nat.zero_le _, rfl, reachW_in hb w, hbw, Nat.le_refl _⟩
  have R0 := Lib.hid r0
  have HZ := Lib.hid hz
  clear H0 hO hr r0 hln hz hbw
  have hmm := @run_makeMap Tryd.prog
  go_enter Tryd.func138, Tryd.ntmps138
  go_wp2_with fail
  go_loopw [17, 11] (fun si _ wr => RootRel hb (w.heap.size + 1 + 1 + 1 + 1 + 1) (w.heap.size + 1 + 1 + 1 + 1) w.heap.size (w.heap.size + 1) (w.heap.size + 1 + 1) (w.heap.size + 1 + 1 + 1) (isB ob n) zs w (reachW hb w) si wr) (fun si _ _ => len - (intOf si).toNat)
  case atStart => exact R0.out
  case round =>
    clear R0
    obtain ⟨i, hi, rfl, hR, hB, hsz⟩ := hrel
    have hN : w.heap.size + 1 + 1 + 1 + 1 + 1 ≤ wr.heap.size := by have := HZ.out; omega
    by_cases hlt : i < len
    · obtain ⟨lb, lo, rfl, hc⟩ := Row_at HR.out (by omega)
      have hblk : lb < w.heap.size := Row_lt HR.out (by omega) ⟨lb, lo, none⟩ rfl
      have cx : wr.cell? ⟨lb, lo + i, none⟩ = some (.int .i64 (zs.getD i 0)) := (hB.cell (p := ⟨lb, lo + i, none⟩) hblk).trans (hc i hlt)
      have hil : i < zs.length := by rw [HL.out]; exact hlt
      have hwf : (Lit.int .i64 (zs.getD i 0)).wf = true := HR.out.wf _ (by simp [List.getD, hil])
      have hsn := take_snocR zs i hil
      generalize zs.getD i 0 = x at *
      have t1 : decide (i < len) = true := by simpa using hlt
      have hneat := neat_fold (zs.take i) (neat_nil (isB ob n))
      have KM := Lib.hid (meet_any (B := w.heap.size) (isB ob n) _ x wr hR hwf (Nat.le_trans (neat_len hneat (fun r hr => isB_le hr)) sm) ⟨by omega, by omega, by omega, by omega, by omega, hB.size⟩ hN (fun w' hb' => is_any x w' ((HH.out.below hB).below hb') HO.out))
      have HSN := Lib.hid hsn
      have HBR := Lib.hid hB
      have HS := Lib.hid hsz
      clear hc hsn hneat hR hB hsz hwf hmm
      go_wp2_with (go_at_call 177; refine KM.out.mono ?_; rintro e w9 ⟨rfl, hR9, hB9, _⟩)
      go_roundw
      case rel => exact ⟨i + 1, by have := HL.out; omega, by go_num, by rw [HSN.out, fold_snoc]; exact hR9, HBR.out.trans hB9, Nat.le_trans HS.out hB9.size⟩
      case measure => simp [intOf]; omega
    · obtain rfl : i = len := by have := HL.out; omega
      have t1 : decide (i < i) = false := by simp
      rw [List.take_of_length_le (by rw [HL.out]; exact Nat.le_refl _)] at hR
      have O0 : Hid (OutRel hb (w.heap.size + 1 + 1 + 1 + 1 + 1) (w.heap.size + 1 + 1 + 1 + 1) w.heap.size (w.heap.size + 1) (w.heap.size + 1 + 1) (w.heap.size + 1 + 1 + 1) (isB ob n) (refsB wd cf ob) zs w (reachW hb w) (.int .i64 0) wr) := Lib.hid ⟨0, Nat.zero_le _, rfl, hR, hB, hsz⟩
      clear hR hB hsz hmm
      go_wp2_with fail
      go_loopw [12] (fun si wr => OutRel hb (w.heap.size + 1 + 1 + 1 + 1 + 1) (w.heap.size + 1 + 1 + 1 + 1) w.heap.size (w.heap.size + 1) (w.heap.size + 1 + 1) (w.heap.size + 1 + 1 + 1) (isB ob n) (refsB wd cf ob) zs w (reachW hb w) si wr) (fun si _ => n + 1 - (intOf si).toNat)
      case atStart => exact O0.out
      case round =>
        clear O0
        obtain ⟨k, hk, rfl, hR, hB, hsz⟩ := hrel
        have hN : w.heap.size + 1 + 1 + 1 + 1 + 1 ≤ wr.heap.size := by have := HZ.out; omega
        have hneat := neat_outN (isB ob n) (refsB wd cf ob) zs k
        have hqn := neat_len hneat (fun r hr => isB_le hr)
        obtain ⟨v, o1, o2, o3, o4⟩ := hR.o
        have co : wr.cell? ⟨w.heap.size + 1 + 1, 0, none⟩ = some v := by rw [cell_of_row wr _ 0 _ _ (0, 0) o1]; rfl
        have hnext := outN_step (isB ob n) (refsB wd cf ob) zs k
        have hmono := fold_len (isB ob n) (refsB wd cf ob ((outN (isB ob n) (refsB wd cf ob) zs k).getD k 0)) (outN (isB ob n) (refsB wd cf ob) zs k)
        rw [← hnext] at hmono
        generalize hout : outN (isB ob n) (refsB wd cf ob) zs k = out at *
        have HOUT := Lib.hid hout
        clear hout
        obtain ⟨q, hq⟩ : ∃ q, out.length = q := ⟨_, rfl⟩
        rw [hq] at o2 hk hqn hmono
        have HQ := Lib.hid hq
        clear hq
        by_cases hlt : k < q
        · obtain ⟨g, c, rfl⟩ := own_form o2 (by omega)
          have hkl : k < out.length := by rw [HQ.out]; exact hlt
          have cx : wr.cell? ⟨g, k, none⟩ = some (.int .i64 (out.getD k 0)) := by
            rw [o2.cellAt k (by omega), List.getElem?_map]
            simp [List.getD, hkl]
          have hxm : out.getD k 0 ∈ out := by simp [List.getD, hkl]
          obtain ⟨p, kl, m, hx, hob, hpn⟩ := isB_at (hneat.2 _ hxm)
          rw [hx] at cx hnext
          have hrefs : refsB wd cf ob ((p : Int) + 1) = refsTo wd cf kl p m := by unfold refsB; rw [show ((p : Int) + 1 - 1).toNat = p by omega, hob]
          rw [hrefs] at hnext
          have ch : wr.cell? ⟨w.heap.size, 0, none⟩ = some (.pointer (some ⟨hb, 0, none⟩)) := by rw [cell_of_row wr _ 0 _ _ (0, 0) hR.h]; rfl
          have hqc := o2.2
          have hqm : q ≤ c := by
            rcases o2.2 with ⟨h, _⟩ | ⟨g', cap', cur, h, _, _, hnc, _⟩
            · cases h
            · cases h; exact hnc
          obtain ⟨wd2, hwd2⟩ : ∃ wd2, wd2 = wr.drew := ⟨_, rfl⟩
          have hbd : Below wr.heap.size wr wd2 := by rw [hwd2]; exact below_drew (Below.refl _ _)
          have hsd : wd2.heap.size = wr.heap.size := by rw [hwd2]; rfl
          have hb2 : Below wr.heap.size wr ((wd2.alloc (.cells #[.pointer (some ⟨hb, 0, none⟩)] 91)).alloc (.cells #[.int .i64 ((p : Int) + 1)] 3)) := (hbd.alloc (by omega) _).alloc (by simp; omega) _
          have KF := Lib.hid (refs_any (X := fun k => wr.heap.size ≤ k ∧ k < ((wd2.alloc (.cells #[.pointer (some ⟨hb, 0, none⟩)] 91)).alloc (.cells #[.int .i64 ((p : Int) + 1)] 3)).heap.size) (b1 := wd2.heap.size) (b2 := wd2.heap.size + 1) p kl m out w _ HH.out HO.out hob (rch_fresh hR hb2 hN) hneat ⟨by omega, by simp <;> omega⟩ ⟨by omega, by simp⟩
            (by rw [Below.heap_alloc _ _ _ (by simp)]; exact heap_alloc_new _ _) (by have := heap_alloc_new (wd2.alloc (.cells #[.pointer (some ⟨hb, 0, none⟩)] 91)) (.cells #[.int .i64 ((p : Int) + 1)] 3); rw [World.size_alloc] at this; exact this)
            (hB.trans (hb2.mono hB.size)) ⟨by omega, by omega, by omega, by omega, by omega⟩ (Nat.le_trans hN hb2.size))
          have KM := Lib.hid (refs_make hb ((p : Int) + 1) wd2)
          have t1 : decide (k < q) = true := by simpa using hlt
          have HNX := Lib.hid hnext
          have HBR := Lib.hid hB
          have HS := Lib.hid hsz
          have HB2 := Lib.hid hb2
          have HWD := Lib.hid hwd2
          have HMO := Lib.hid hmono
          clear hR hB hsz o1 o2 o3 o4 hqc hneat hnext hx hxm hob hrefs hbd hsd hb2 hwd2 hmono hkl hpn
          go_wp2_with fail
          rw [HWD.out] at KM KF
          go_region_with (first | (go_at_call 178; refine KM.out.mono ?_; rintro e w' ⟨rfl, rfl⟩) | (go_at_call 199; refine KF.out.mono ?_; rintro e w9 ⟨rfl, hR9, hB9, _, hz9⟩))
          all_goals go_wp2_with fail
          all_goals
            go_roundw
            case rel => exact ⟨k + 1, by rw [HNX.out]; have := HMO.out; rw [HNX.out] at this; omega, by go_num, by rw [HNX.out]; exact rch_more hR9 (fun k hk => hk.elim), hB9, by have := HS.out; rw [World.size_alloc, World.size_alloc, World.size_drew] at hz9; omega⟩
            case measure => simp [intOf]; omega
        · obtain rfl : k = q := by omega
          obtain ⟨va, vc, rfl⟩ := own_shape o2
          have t1 : decide (k < k) = false := by simp
          have O2 := Lib.hid o2
          have HBR := Lib.hid hB
          clear hR hB hsz o1 o2 o3 o4 hneat hnext hmono hqn
          go_wp2_with fail
          go_ret
          exact ⟨_, k, rfl, by rw [HOUT.out]; exact HQ.out, by rw [HOUT.out]; exact own_base O2.out (by omega), HBR.out⟩
end

end Go.Proofs.YtjffbojgdemooaaDoor

/-
  Package script: New of one pick; slices.Clone of it.
-/
import Derived.Test.YtpfpieakemnadaaDoorScr2
import Derived.WalkSpells
namespace Go.Proofs.YtpfpieakemnadaaDoor
open Go.RowKit

theorem pickinfo : (Tryd.prog.info? 94).map (fun i => (i.zero, i.size, i.bytes)) = some (some (.agg #[.int .i64 0, .int .i64 0, .int .i64 0, .int .i64 0]), 4, 32) := by kernel_rfl

theorem own_none (w : World) (B : Nat) (hB : B ≤ w.heap.size) : (w.alloc (.cells #[] 94)).ownsRow B 94 4 (.slice (some ⟨w.heap.size, 0, none⟩) 0 0) 0 [] :=
  ⟨rfl, .inr ⟨w.heap.size, 0, #[], rfl, hB, heap_alloc_new w _, Nat.le_refl _, by unfold maxLen; omega, rfl, rfl⟩⟩

def ClonePost (w : World) (e : Ending) (w' : World) : Prop := ∃ v, e = .returned v ∧ (∃ a l c, v = .slice a l c) ∧ Below w.heap.size w w'

set_option maxRecDepth 100000 in
theorem clone_one (b cap : Nat) (gv : Nat → Nat → Int) (w : World) (hp : Picks w (some ⟨b, 0, none⟩) 1 cap gv) :
    Calls Tryd.prog 86 #[.slice (some ⟨b, 0, none⟩) 1 cap] w (ClonePost w) := by
  obtain ⟨b', off', he, hlb, hc⟩ := Picks_at hp (by omega)
  cases he
  obtain ⟨i0, hi, hz0, hz1, hz2⟩ := info_parts pickinfo
  have HI := Lib.hid hi
  have HZ0 := Lib.hid hz0
  have HZ1 := Lib.hid hz1
  have HZ2 := Lib.hid hz2
  have hbl : Below w.heap.size w (w.alloc (.cells #[] 94)) := (Below.refl _ _).alloc (Nat.le_refl _) _
  have hnews : ∀ j u, ([.int .i64 (gv 0 0), .int .i64 (gv 0 1), .int .i64 (gv 0 2), .int .i64 (gv 0 3)] : List Value)[j]? = some u → (w.alloc (.cells #[] 94)).cell? ((⟨b, 0, none⟩ : Addr).add j) = some u := by
    intro j u hu
    have hj : j < 4 := by
      have := (List.getElem?_eq_some_iff.1 hu).1
      simpa using this
    have e : (⟨b, 0, none⟩ : Addr).add j = ⟨b, 0 + (0 * 4 + j), none⟩ := by
      unfold Addr.add
      split
      · rename_i h0; simp [h0]
      · simp
    rw [e, hbl.cell (p := ⟨b, 0 + (0 * 4 + j), none⟩) hlb, hc 0 j (by omega) hj, ← hu]
    match j, hj with
    | 0, _ => rfl
    | 1, _ => rfl
    | 2, _ => rfl
    | 3, _ => rfl
  have HN := Lib.hid hnews
  have HB := Lib.hid hbl
  have HM := Lib.hid (show 0 + 1 ≤ maxLen by unfold maxLen; omega)
  clear hi hz0 hz1 hz2 hnews hbl hc hp
  go_enter Tryd.func86, Tryd.ntmps86
  have E1 := Lib.hid (Lib.run_eql_slice_nil (P := Tryd.prog) w 95 94 (some ⟨b, 0, none⟩) 1 cap 0 0 Tryd.underlying95)
  go_wp2_with (first | rw [E1.out] | (at_builtin; refine wpList_append_own _ rfl (.tmp 5) (.tmp 6) 95 rfl w.heap.size 94 i0 (.agg #[.int .i64 0, .int .i64 0, .int .i64 0, .int .i64 0]) 4 32 Tryd.underlying95 HI.out HZ0.out HZ1.out HZ2.out rfl (by decide) _ 0 [] rfl (own_none w _ (Nat.le_refl _)) ⟨b, 0, none⟩ 1 cap [.int .i64 (gv 0 0), .int .i64 (gv 0 1), .int .i64 (gv 0 2), .int .i64 (gv 0 3)] rfl rfl HN.out (by simp [Value.oneCell']) HM.out (by omega) (by simp) ?_; intro v5 w5 hown5 hgrow5 hnil5))
  go_ret
  refine ⟨v5, rfl, ?_, HB.out.grown hgrow5 (by simp) (fun k hk => ?_)⟩
  · rcases hown5.2 with ⟨rfl, _⟩ | ⟨g, cp, cur, rfl, _⟩
    · exact ⟨_, _, _, rfl⟩
    · exact ⟨_, _, _, rfl⟩
  · have h1 : w.heap.size = k := Option.some.inj (show some w.heap.size = some k from hk)
    omega

theorem new_ok (a : Nat → Addr) (b cap : Nat) (gv : Nat → Nat → Int) (w : World) (h : Sents a w) (hp : Picks w (some ⟨b, 0, none⟩) 1 cap gv) (hok : codeAt gv 0 = 0) :
    Calls Tryd.prog 57 #[.slice (some ⟨b, 0, none⟩) 1 cap] w fun e w' => ∃ q, e = .returned (.tuple #[.pointer (some ⟨q, 0, none⟩), .nilIface]) ∧ Below w.heap.size w w' := by
  have HS := Lib.hid h
  have HP := Lib.hid hp
  have HOK := Lib.hid hok
  clear h hp hok
  go_enter Tryd.func57, Tryd.ntmps57
  go_wp2_with fail
  refine (may_list a _ 1 cap gv 1 _ HS.out HP.out (by omega) (by omega) (fun i hi => by obtain rfl : i = 0 := by omega
                                                                                        exact HOK.out) (fun h => by omega)).mono ?_
  rintro e w1 ⟨hb1, ⟨_, rfl⟩ | ⟨hlt, _⟩⟩
  · have HB := Lib.hid hb1
    have HP1 := Lib.hid (HP.out.below hb1)
    clear hb1
    go_wp2_with fail
    refine (clone_one b cap gv _ HP1.out).mono ?_
    rintro e w2 ⟨v, rfl, ⟨x, l, c, rfl⟩, hb2⟩
    have HB2 : Hid (Below w.heap.size w w2) := Lib.hid (HB.out.trans (hb2.mono HB.out.size))
    clear hb2
    go_wp2_with fail
    go_ret2
    exact ⟨_, rfl, HB2.out.alloc HB2.out.size _⟩
  · omega

theorem new_bad (a : Nat → Addr) (b cap : Nat) (gv : Nat → Nat → Int) (w : World) (h : Sents a w) (hp : Picks w (some ⟨b, 0, none⟩) 1 cap gv) (hbad : codeAt gv 0 ≠ 0) :
    Calls Tryd.prog 57 #[.slice (some ⟨b, 0, none⟩) 1 cap] w fun e w' => ∃ q, e = .returned (.tuple #[.pointer none, .iface 140 (.pointer (some ⟨q, 0, none⟩))]) ∧ AtBox a q (codeAt gv 0 - 1) 0 w' ∧ w.heap.size ≤ q ∧ Below w.heap.size w w' := by
  have HS := Lib.hid h
  have HP := Lib.hid hp
  have HBAD := Lib.hid hbad
  clear h hp hbad
  go_enter Tryd.func57, Tryd.ntmps57
  go_wp2_with fail
  refine (may_list a _ 1 cap gv 0 _ HS.out HP.out (by omega) (by omega) (fun i hi => by omega) (fun _ => HBAD.out)).mono ?_
  rintro e w1 ⟨hb1, ⟨h0, _⟩ | ⟨_, q, rfl, hq, hat⟩⟩
  · omega
  · have HB := Lib.hid hb1
    have HAT := Lib.hid hat
    clear hb1 hat
    go_wp2_with fail
    go_ret2
    exact ⟨q, rfl, HAT.out, hq, HB.out⟩

end Go.Proofs.YtpfpieakemnadaaDoor

/-
  The law on heads: true, whatever comes.
-/
import Derived.Test.YtahmfmkjdpblfaaDoorPack
import Derived.Deep.DeepCutAuto
namespace Go.Proofs.YtahmfmkjdpblfaaDoor
open Go.RowKit

theorem mayB (c n : Int) : (decide (-2 ≤ c) && decide (c < 12) && decide (0 ≤ n) && decide (n ≤ 1048576)) = packB c n := by
  unfold packB
  rw [Bool.eq_iff_iff]
  simp [and_assoc]

theorem word_ne (c n : Int) (h : -2 ≤ c ∧ c < 12 ∧ 0 ≤ n ∧ n ≤ 1048576) : (word c n == (-1)) = false := by
  have e : word c n = (c + 2) * 2097152 + n := by unfold word; rw [if_pos (pack_of h)]
  rw [e]; simp; omega
theorem word_no (c n : Int) (h : ¬ (-2 ≤ c ∧ c < 12 ∧ 0 ≤ n ∧ n ≤ 1048576)) : word c n = -1 := by
  unfold word
  rw [if_neg]
  intro hp
  exact h (unpack_of hp)


theorem may_end {c n : Int} (b : Bool) (h : b = packB c n) : Value.bool b = Value.bool (packB c n) := by rw [h]

set_option maxRecDepth 100000 in
theorem heads_law (c n d m v : Int) (w : World) (hc : (Lit.int .i64 c).wf = true) (hn : (Lit.int .i64 n).wf = true) (hd : (Lit.int .i64 d).wf = true) (hm : (Lit.int .i64 m).wf = true) (hv : (Lit.int .i64 v).wf = true) :
    Calls Tryd.prog 10 #[.int .i64 c, .int .i64 n, .int .i64 d, .int .i64 m, .int .i64 v] w (TruePost w) := by
  obtain ⟨v0, v1⟩ := wf_i64 hv
  have V0 := Lib.hid v0
  have V1 := Lib.hid v1
  clear hc hn hd hm hv v0 v1
  obtain ⟨X, hX⟩ : ∃ X, X = word c n := ⟨_, rfl⟩
  obtain ⟨Y, hY⟩ : ∃ Y, Y = word d m := ⟨_, rfl⟩
  have p1 : ∀ w, Calls Tryd.prog 55 #[.int .i64 c, .int .i64 n] w fun e w' => e = .returned (.int .i64 X) ∧ w = w' := fun w => by rw [hX]; exact pack_any c n w
  have p2 : ∀ w, Calls Tryd.prog 55 #[.int .i64 d, .int .i64 m] w fun e w' => e = .returned (.int .i64 Y) ∧ w = w' := fun w => by rw [hY]; exact pack_any d m w
  have P1 := Lib.hid p1
  have P2 := Lib.hid p2
  have HX := Lib.hid hX
  have HY := Lib.hid hY
  clear p1 p2 hX hY
  go_enter Tryd.func10, Tryd.ntmps10
  go_wp2_with fail
  refine (afirst _).mono ?_
  rintro e w1 ⟨rfl, hB⟩
  have HB := Lib.hid hB
  clear hB
  go_upto_region 2 with (fail)
  go_cut [12] (fun s wx => s = .bool (packB c n) ∧ w1 = wx)
  case first =>
    go_wp2_with fail
    all_goals
      go_meet
      refine ⟨may_end _ ?_, rfl⟩
      rw [Bool.eq_iff_iff]
      simp [packB]
      omega
  case rest =>
    obtain ⟨rfl, rfl⟩ := hcut
    go_upto_region 3 with (fail)
    go_cut [13] (fun s wx => s = .bool (packB d m) ∧ w1 = wx)
    case first =>
      go_wp2_with fail
      all_goals
        go_meet
        refine ⟨may_end _ ?_, rfl⟩
        rw [Bool.eq_iff_iff]
        simp [packB]
        omega
    case rest =>
      obtain ⟨rfl, rfl⟩ := hcut
      go_wp2_with fail
      refine (P1.out _).mono ?_
      rintro e w' ⟨rfl, rfl⟩
      go_wp2_with fail
      refine (P2.out _).mono ?_
      rintro e w' ⟨rfl, rfl⟩
      cases h1 : packB c n with
      | false =>
        have hno := nopack_of h1
        have u1 : ∀ w, Calls Tryd.prog 56 #[.int .i64 X] w fun e w' => e = .returned (.tuple #[.int .i64 0, .int .i64 0, .bool false]) ∧ w = w' := fun w => by rw [HX.out]; exact unpack_none c n w hno
        have U1 := Lib.hid u1
        have hX1 : X = -1 := by rw [HX.out]; exact word_no c n hno
        have x1 : (X == -1) = true := by rw [hX1]; rfl
        have x2 : (X != -1) = false := by rw [hX1]; rfl
        clear u1 hX1 hno h1
        go_wp2_with fail
        refine (U1.out _).mono ?_
        rintro e w' ⟨rfl, rfl⟩
        go_wp2_with fail
        all_goals
          cases hv : headB v with
          | true =>
            obtain ⟨E, hE⟩ : ∃ E, E = v / 2097152 - 2 := ⟨_, rfl⟩
            obtain ⟨F, hF⟩ : ∃ F, F = v % 2097152 := ⟨_, rfl⟩
            have u2 : ∀ w, Calls Tryd.prog 56 #[.int .i64 v] w fun e w' => e = .returned (.tuple #[.int .i64 E, .int .i64 F, .bool true]) ∧ w = w' := fun w => by rw [hE, hF]; exact unpack_yes v w V0.out V1.out (head_of hv)
            have p3 : ∀ w, Calls Tryd.prog 55 #[.int .i64 E, .int .i64 F] w fun e w' => e = .returned (.int .i64 v) ∧ w = w' := fun w => by
              have k := pack_any (v / 2097152 - 2) (v % 2097152) w
              rw [word_head v (head_of hv)] at k
              rw [hE, hF]
              exact k
            have U2 := Lib.hid u2
            have P3 := Lib.hid p3
            clear u2 p3 hE hF hv
            refine (U2.out _).mono ?_
            rintro e w' ⟨rfl, rfl⟩
            go_wp2_with (go_at_call 55; refine (P3.out _).mono ?_; rintro e w' ⟨rfl, rfl⟩)
            go_ret
            exact ⟨rfl, HB.out⟩
          | false =>
            have u2 : ∀ w, Calls Tryd.prog 56 #[.int .i64 v] w fun e w' => e = .returned (.tuple #[.int .i64 0, .int .i64 0, .bool false]) ∧ w = w' := fun w => unpack_no v w V0.out V1.out (nohead_of hv)
            have U2 := Lib.hid u2
            clear u2 hv
            refine (U2.out _).mono ?_
            rintro e w' ⟨rfl, rfl⟩
            go_wp2_with fail
            go_ret
            exact ⟨rfl, HB.out⟩
      | true =>
        have hyes := unpack_of h1
        have u1 : ∀ w, Calls Tryd.prog 56 #[.int .i64 X] w fun e w' => e = .returned (.tuple #[.int .i64 c, .int .i64 n, .bool true]) ∧ w = w' := fun w => by rw [HX.out]; exact unpack_word c n w hyes
        have U1 := Lib.hid u1
        have x1 : (X == -1) = false := by rw [HX.out]; exact word_ne c n hyes
        have x2 : (X != -1) = true := by simp [bne, x1]
        cases h2 : packB d m with
        | false =>
          clear u1 hyes h1 h2
          go_wp2_with fail
          refine (U1.out _).mono ?_
          rintro e w' ⟨rfl, rfl⟩
          go_wp2_with fail
          all_goals
            cases hv : headB v with
            | true =>
              obtain ⟨E, hE⟩ : ∃ E, E = v / 2097152 - 2 := ⟨_, rfl⟩
              obtain ⟨F, hF⟩ : ∃ F, F = v % 2097152 := ⟨_, rfl⟩
              have u2 : ∀ w, Calls Tryd.prog 56 #[.int .i64 v] w fun e w' => e = .returned (.tuple #[.int .i64 E, .int .i64 F, .bool true]) ∧ w = w' := fun w => by rw [hE, hF]; exact unpack_yes v w V0.out V1.out (head_of hv)
              have p3 : ∀ w, Calls Tryd.prog 55 #[.int .i64 E, .int .i64 F] w fun e w' => e = .returned (.int .i64 v) ∧ w = w' := fun w => by
                have k := pack_any (v / 2097152 - 2) (v % 2097152) w
                rw [word_head v (head_of hv)] at k
                rw [hE, hF]
                exact k
              have U2 := Lib.hid u2
              have P3 := Lib.hid p3
              clear u2 p3 hE hF hv
              refine (U2.out _).mono ?_
              rintro e w' ⟨rfl, rfl⟩
              go_wp2_with (go_at_call 55; refine (P3.out _).mono ?_; rintro e w' ⟨rfl, rfl⟩)
              go_ret
              exact ⟨rfl, HB.out⟩
            | false =>
              have u2 : ∀ w, Calls Tryd.prog 56 #[.int .i64 v] w fun e w' => e = .returned (.tuple #[.int .i64 0, .int .i64 0, .bool false]) ∧ w = w' := fun w => unpack_no v w V0.out V1.out (nohead_of hv)
              have U2 := Lib.hid u2
              clear u2 hv
              refine (U2.out _).mono ?_
              rintro e w' ⟨rfl, rfl⟩
              go_wp2_with fail
              go_ret
              exact ⟨rfl, HB.out⟩
        | true =>
          have hxy := word_inj c n d m hyes (unpack_of h2)
          rw [← HX.out, ← HY.out] at hxy
          by_cases hcd : c = d
          · by_cases hnm : n = m
            · have q1 : (X == Y) = true := by simpa using hxy.2 ⟨hcd, hnm⟩
              have q2 : (c == d) = true := by simpa using hcd
              have q3 : (n == m) = true := by simpa using hnm
              clear u1 hyes h1 h2 hxy hcd hnm
              go_wp2_with fail
              refine (U1.out _).mono ?_
              rintro e w' ⟨rfl, rfl⟩
              go_wp2_with fail
              all_goals
                cases hv : headB v with
                | true =>
                  obtain ⟨E, hE⟩ : ∃ E, E = v / 2097152 - 2 := ⟨_, rfl⟩
                  obtain ⟨F, hF⟩ : ∃ F, F = v % 2097152 := ⟨_, rfl⟩
                  have u2 : ∀ w, Calls Tryd.prog 56 #[.int .i64 v] w fun e w' => e = .returned (.tuple #[.int .i64 E, .int .i64 F, .bool true]) ∧ w = w' := fun w => by rw [hE, hF]; exact unpack_yes v w V0.out V1.out (head_of hv)
                  have p3 : ∀ w, Calls Tryd.prog 55 #[.int .i64 E, .int .i64 F] w fun e w' => e = .returned (.int .i64 v) ∧ w = w' := fun w => by
                    have k := pack_any (v / 2097152 - 2) (v % 2097152) w
                    rw [word_head v (head_of hv)] at k
                    rw [hE, hF]
                    exact k
                  have U2 := Lib.hid u2
                  have P3 := Lib.hid p3
                  clear u2 p3 hE hF hv
                  refine (U2.out _).mono ?_
                  rintro e w' ⟨rfl, rfl⟩
                  go_wp2_with (go_at_call 55; refine (P3.out _).mono ?_; rintro e w' ⟨rfl, rfl⟩)
                  go_ret
                  exact ⟨rfl, HB.out⟩
                | false =>
                  have u2 : ∀ w, Calls Tryd.prog 56 #[.int .i64 v] w fun e w' => e = .returned (.tuple #[.int .i64 0, .int .i64 0, .bool false]) ∧ w = w' := fun w => unpack_no v w V0.out V1.out (nohead_of hv)
                  have U2 := Lib.hid u2
                  clear u2 hv
                  refine (U2.out _).mono ?_
                  rintro e w' ⟨rfl, rfl⟩
                  go_wp2_with fail
                  go_ret
                  exact ⟨rfl, HB.out⟩
            · have q1 : (X == Y) = false := by simpa using fun e => hnm (hxy.1 e).2
              have q2 : (c == d) = true := by simpa using hcd
              have q3 : (n == m) = false := by simpa using hnm
              clear u1 hyes h1 h2 hxy hcd hnm
              go_wp2_with fail
              refine (U1.out _).mono ?_
              rintro e w' ⟨rfl, rfl⟩
              go_wp2_with fail
              all_goals
                cases hv : headB v with
                | true =>
                  obtain ⟨E, hE⟩ : ∃ E, E = v / 2097152 - 2 := ⟨_, rfl⟩
                  obtain ⟨F, hF⟩ : ∃ F, F = v % 2097152 := ⟨_, rfl⟩
                  have u2 : ∀ w, Calls Tryd.prog 56 #[.int .i64 v] w fun e w' => e = .returned (.tuple #[.int .i64 E, .int .i64 F, .bool true]) ∧ w = w' := fun w => by rw [hE, hF]; exact unpack_yes v w V0.out V1.out (head_of hv)
                  have p3 : ∀ w, Calls Tryd.prog 55 #[.int .i64 E, .int .i64 F] w fun e w' => e = .returned (.int .i64 v) ∧ w = w' := fun w => by
                    have k := pack_any (v / 2097152 - 2) (v % 2097152) w
                    rw [word_head v (head_of hv)] at k
                    rw [hE, hF]
                    exact k
                  have U2 := Lib.hid u2
                  have P3 := Lib.hid p3
                  clear u2 p3 hE hF hv
                  refine (U2.out _).mono ?_
                  rintro e w' ⟨rfl, rfl⟩
                  go_wp2_with (go_at_call 55; refine (P3.out _).mono ?_; rintro e w' ⟨rfl, rfl⟩)
                  go_ret
                  exact ⟨rfl, HB.out⟩
                | false =>
                  have u2 : ∀ w, Calls Tryd.prog 56 #[.int .i64 v] w fun e w' => e = .returned (.tuple #[.int .i64 0, .int .i64 0, .bool false]) ∧ w = w' := fun w => unpack_no v w V0.out V1.out (nohead_of hv)
                  have U2 := Lib.hid u2
                  clear u2 hv
                  refine (U2.out _).mono ?_
                  rintro e w' ⟨rfl, rfl⟩
                  go_wp2_with fail
                  go_ret
                  exact ⟨rfl, HB.out⟩
          · have q1 : (X == Y) = false := by simpa using fun e => hcd (hxy.1 e).1
            have q2 : (c == d) = false := by simpa using hcd
            clear u1 hyes h1 h2 hxy hcd
            go_wp2_with fail
            refine (U1.out _).mono ?_
            rintro e w' ⟨rfl, rfl⟩
            go_wp2_with fail
            all_goals
              cases hv : headB v with
              | true =>
                obtain ⟨E, hE⟩ : ∃ E, E = v / 2097152 - 2 := ⟨_, rfl⟩
                obtain ⟨F, hF⟩ : ∃ F, F = v % 2097152 := ⟨_, rfl⟩
                have u2 : ∀ w, Calls Tryd.prog 56 #[.int .i64 v] w fun e w' => e = .returned (.tuple #[.int .i64 E, .int .i64 F, .bool true]) ∧ w = w' := fun w => by rw [hE, hF]; exact unpack_yes v w V0.out V1.out (head_of hv)
                have p3 : ∀ w, Calls Tryd.prog 55 #[.int .i64 E, .int .i64 F] w fun e w' => e = .returned (.int .i64 v) ∧ w = w' := fun w => by
                  have k := pack_any (v / 2097152 - 2) (v % 2097152) w
                  rw [word_head v (head_of hv)] at k
                  rw [hE, hF]
                  exact k
                have U2 := Lib.hid u2
                have P3 := Lib.hid p3
                clear u2 p3 hE hF hv
                refine (U2.out _).mono ?_
                rintro e w' ⟨rfl, rfl⟩
                go_wp2_with (go_at_call 55; refine (P3.out _).mono ?_; rintro e w' ⟨rfl, rfl⟩)
                go_ret
                exact ⟨rfl, HB.out⟩
              | false =>
                have u2 : ∀ w, Calls Tryd.prog 56 #[.int .i64 v] w fun e w' => e = .returned (.tuple #[.int .i64 0, .int .i64 0, .bool false]) ∧ w = w' := fun w => unpack_no v w V0.out V1.out (nohead_of hv)
                have U2 := Lib.hid u2
                clear u2 hv
                refine (U2.out _).mono ?_
                rintro e w' ⟨rfl, rfl⟩
                go_wp2_with fail
                go_ret
                exact ⟨rfl, HB.out⟩
end Go.Proofs.YtahmfmkjdpblfaaDoor

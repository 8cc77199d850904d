/-
  What an instruction pops and pushes: the document's side. (Written by genefc.py.)
-/
import Derived.Test.YtjffbojgdemooaaDoorEfC
namespace Go.Proofs.YtjffbojgdemooaaDoor
open Go.RowKit

set_option maxHeartbeats 8000000 in
set_option maxRecDepth 100000 in
theorem reff_all (ca : Option Addr) (nc cc : Nat) (f : Nat → ByteArray) (mb mo nm mc : Nat) (ms : Nat → Meth) (m : Nat) (ps ls rt : ByteArray) (co : Option Addr) (len cp : Nat) (op A B N : Int) (w : World) (hC : Cls w ca nc cc f) (hM : ∀ i, i < nm → MCell mb (mo + i * 4) (ms i).ps (ms i).ls (ms i).rt (ms i).co (ms i).len (ms i).cp w)
    (hX : MCell mb (mo + m * 4) ps ls rt co len cp w) (_hm : m < nm) (_hnm : nm ≤ 1000) (_hnc : nc ≤ 1000) (hps : ps.size ≤ 1000) (hls : ls.size ≤ 1000) (hfs : ∀ i, i < nc → (f i).size ≤ 1000) (h1 : 1 ≤ op) (h2 : op ≤ 35) (hN : namedB nc nm ((ps.size : Int) + ls.size) (fun i => (f i).size) op A B = true) :
    Calls Tryd.prog 51 #[.agg #[.slice ca nc cc, .slice (some ⟨mb, mo, none⟩) nm mc], .int .i64 m, .agg #[.int .i64 op, .int .i64 A, .int .i64 B, .int .i64 N]] w (EffQ (effV f ms ps ls rt op A B) w) := by
  have hb := effW_below (ca := ca) (nc := nc) (cc := cc) (ma := some ⟨mb, mo, none⟩) (nm := nm) (mc := mc) (op := op) (A := A) (B := B) (N := N) (w := w)
  have EB : Hid (∀ w', Below (effW ca nc cc (some ⟨mb, mo, none⟩) nm mc op A B N w).heap.size (effW ca nc cc (some ⟨mb, mo, none⟩) nm mc op A B N w) w' → EBox w.heap.size ca nc cc (some ⟨mb, mo, none⟩) nm mc op A B N w') := Lib.hid fun w' h => effW_cells h
  have HX := Lib.hid fun w' h => hX.below (w' := w') h
  have HM := Lib.hid fun i hi w' h => (hM i hi).below (w' := w') h
  have HC := Lib.hid fun w' h => hC.below (w' := w') h
  have NK := Lib.hid (named_kind hN)
  obtain ⟨kk, hkk⟩ : ∃ kk, ps ++ ls = kk := ⟨_, rfl⟩
  have KK : Hid (∀ w', Calls Tryd.prog 49 #[.agg #[.string ps, .string ls, .string rt, .slice co len cp]] w' (fun e w2 => e = .returned (.string kk) ∧ Below w'.heap.size w' w2)) := Lib.hid fun w' => by rw [← hkk]; exact rkinds_any ps ls rt co len cp w' hps hls
  have HKK := Lib.hid hkk
  clear hkk
  obtain ⟨W, hW⟩ : ∃ W, effW ca nc cc (some ⟨mb, mo, none⟩) nm mc op A B N w = W := ⟨_, rfl⟩
  rw [hW] at hb EB
  unfold effW at hW
  have HB := Lib.hid hb
  obtain ⟨x0, x1, x2, x3⟩ := HX.out W hb
  obtain ⟨⟨p0, p1⟩, i0, i1, i2, i3⟩ := EB.out W (Below.refl _ _)
  have FS := Lib.hid hfs
  obtain ⟨V, hV⟩ : ∃ V, effV f ms ps ls rt op A B = V := ⟨_, rfl⟩
  rw [hV]
  have HV := Lib.hid hV
  clear hX hM hC hN hb hfs hV
  go_enter Tryd.func51, Tryd.ntmps51
  go_wp2_with fail
  clear hW
  refine (KK.out _).mono ?_
  rintro e w3 ⟨rfl, hb5⟩
  have hb4 : Below w.heap.size w w3 := HB.out.trans (hb5.mono HB.out.size)
  clear x0 x1 x2 x3 p0 p1 i0 i1 i2 i3
  obtain ⟨x0, x1, x2, x3⟩ := HX.out w3 hb4
  obtain ⟨⟨p0, p1⟩, i0, i1, i2, i3⟩ := EB.out w3 hb5
  have HBM := Lib.hid hb4
  have HXM := Lib.hid (HM.out)
  clear hb4 hb5 HX HM KK EB HB
  by_cases c3 : op = 3
  · subst c3
    obtain ⟨hA0, hA1⟩ := NK.out.1 (by omega)
    obtain ⟨a, rfl⟩ : ∃ a : Nat, A = a := ⟨A.toNat, by omega⟩
    have hks : a + 1 ≤ kk.size := by rw [← HKK.out, ByteArray.size_append]; omega
    have hkl : kk.size ≤ 2000 := by rw [← HKK.out, ByteArray.size_append]; omega
    have he : V = (⟨#[]⟩, kk.extract a (a + 1), true) := by rw [← HV.out, ← HKK.out]; simp [effV]
    subst he
    clear HV HKK
    have wa : IntKind.i64.wrap ((a : Int) + 1) = (a : Int) + 1 := IntWalk.i64_in _ (by omega)
    have b0 : (0 : Int) ≤ (a : Int) := by omega
    have b1 : (a : Int) ≤ (a : Int) + 1 := by omega
    have b2 : (a : Int) + 1 ≤ (kk.size : Int) := by omega
    clear hA0 hA1 hks hkl NK HXM HC FS
    go_wp2_with fail
    go_quiet (fail)
    go_wp2_with fail
    exact bodyPost_ret (v := .tuple #[.string (⟨#[]⟩), .string (kk.extract a (a + 1)), .bool true]) (by simp [results, Tryd.results51, go_sem]) rfl ⟨rfl, below_drewN HBM.out _⟩
  by_cases c4 : op = 4
  · subst c4
    obtain ⟨hA0, hA1⟩ := NK.out.1 (by omega)
    obtain ⟨a, rfl⟩ : ∃ a : Nat, A = a := ⟨A.toNat, by omega⟩
    have hks : a + 1 ≤ kk.size := by rw [← HKK.out, ByteArray.size_append]; omega
    have hkl : kk.size ≤ 2000 := by rw [← HKK.out, ByteArray.size_append]; omega
    have he : V = (kk.extract a (a + 1), ⟨#[]⟩, true) := by rw [← HV.out, ← HKK.out]; simp [effV]
    subst he
    clear HV HKK
    have wa : IntKind.i64.wrap ((a : Int) + 1) = (a : Int) + 1 := IntWalk.i64_in _ (by omega)
    have b0 : (0 : Int) ≤ (a : Int) := by omega
    have b1 : (a : Int) ≤ (a : Int) + 1 := by omega
    have b2 : (a : Int) + 1 ≤ (kk.size : Int) := by omega
    clear hA0 hA1 hks hkl NK HXM HC FS
    go_wp2_with fail
    exact bodyPost_ret (v := .tuple #[.string (kk.extract a (a + 1)), .string (⟨#[]⟩), .bool true]) (by simp [results, Tryd.results51, go_sem]) rfl ⟨rfl, HBM.out⟩
  by_cases c25 : op = 25
  · subst c25
    obtain ⟨⟨hA0, hA1⟩, hB0, hB1⟩ := NK.out.2.1 (by omega)
    obtain ⟨a, rfl⟩ : ∃ a : Nat, A = a := ⟨A.toNat, by omega⟩
    obtain ⟨b, rfl⟩ : ∃ b : Nat, B = b := ⟨B.toNat, by omega⟩
    obtain ⟨cb, ko, rfl, _, hcl⟩ := Cls_at (HC.out _ HBM.out) (by omega)
    have y0 := hcl a (by omega)
    have hs2 := FS.out a (by omega)
    rw [Int.toNat_natCast] at hB1
    have he : V = (⟨#[82]⟩, (f a).extract b (b + 1), true) := by rw [← HV.out]; simp [effV]
    subst he
    clear HV
    have han : a < nc := by omega
    clear hcl hA0 hA1 NK HXM HC FS HKK
    generalize f a = s at *
    have hbs : b + 1 ≤ s.size := by omega
    have hes : (s.extract b (b + 1)).size = 1 := by simp; omega
    have hz : (⟨#[82]⟩ : ByteArray).size = 1 := rfl
    have wa : IntKind.i64.wrap ((b : Int) + 1) = (b : Int) + 1 := IntWalk.i64_in _ (by omega)
    have b0 : (0 : Int) ≤ (b : Int) := by omega
    have b1 : (b : Int) ≤ (b : Int) + 1 := by omega
    have b2 : (b : Int) + 1 ≤ (s.size : Int) := by omega
    clear hB0 hB1 hbs
    go_wp2_with fail
    go_quiet (fail)
    go_wp2_with fail
    exact bodyPost_ret (v := .tuple #[.string (⟨#[82]⟩), .string (s.extract b (b + 1)), .bool true]) (by simp [results, Tryd.results51, go_sem]) rfl ⟨rfl, below_drewN HBM.out _⟩
  by_cases c26 : op = 26
  · subst c26
    obtain ⟨⟨hA0, hA1⟩, hB0, hB1⟩ := NK.out.2.1 (by omega)
    obtain ⟨a, rfl⟩ : ∃ a : Nat, A = a := ⟨A.toNat, by omega⟩
    obtain ⟨b, rfl⟩ : ∃ b : Nat, B = b := ⟨B.toNat, by omega⟩
    obtain ⟨cb, ko, rfl, _, hcl⟩ := Cls_at (HC.out _ HBM.out) (by omega)
    have y0 := hcl a (by omega)
    have hs2 := FS.out a (by omega)
    rw [Int.toNat_natCast] at hB1
    have he : V = (⟨#[82]⟩ ++ (f a).extract b (b + 1), ⟨#[]⟩, true) := by rw [← HV.out]; simp [effV]
    subst he
    clear HV
    have han : a < nc := by omega
    clear hcl hA0 hA1 NK HXM HC FS HKK
    generalize f a = s at *
    have hbs : b + 1 ≤ s.size := by omega
    have hes : (s.extract b (b + 1)).size = 1 := by simp; omega
    have hz : (⟨#[82]⟩ : ByteArray).size = 1 := rfl
    have wa : IntKind.i64.wrap ((b : Int) + 1) = (b : Int) + 1 := IntWalk.i64_in _ (by omega)
    have b0 : (0 : Int) ≤ (b : Int) := by omega
    have b1 : (b : Int) ≤ (b : Int) + 1 := by omega
    have b2 : (b : Int) + 1 ≤ (s.size : Int) := by omega
    clear hB0 hB1 hbs
    go_wp2_with fail
    go_quiet (fail)
    go_wp2_with fail
    exact bodyPost_ret (v := .tuple #[.string (⟨#[82]⟩ ++ s.extract b (b + 1)), .string (⟨#[]⟩), .bool true]) (by simp [results, Tryd.results51, go_sem]) rfl ⟨rfl, below_drewN HBM.out _⟩
  by_cases c29 : op = 29
  · subst c29
    have hA := NK.out.2.2.1 (by omega)
    obtain ⟨t, ht, hts⟩ : ∃ t, elB A = t ∧ t.size = 1 := ⟨_, rfl, by rcases hA with rfl | rfl <;> rfl⟩
    have KE : Hid (∀ w', Calls Tryd.prog 113 #[.int .i64 A] w' fun e w'' => e = .returned (.string t) ∧ w' = w'') := Lib.hid fun w' => by rw [← ht]; exact relement_any A w' hA
    have he : V = (⟨#[82, 73]⟩, t, true) := by rw [← HV.out, ← ht]; simp [effV]
    subst he
    clear HV
    have hz : (⟨#[82, 73]⟩ : ByteArray).size = 2 := rfl
    clear ht hA NK HXM HC FS HKK
    go_wp2_with (go_at_call 113; refine (KE.out _).mono ?_; rintro e w' ⟨rfl, rfl⟩)
    exact bodyPost_ret (v := .tuple #[.string (⟨#[82, 73]⟩), .string (t), .bool true]) (by simp [results, Tryd.results51, go_sem]) rfl ⟨rfl, HBM.out⟩
  by_cases c30 : op = 30
  · subst c30
    have hA := NK.out.2.2.1 (by omega)
    obtain ⟨t, ht, hts⟩ : ∃ t, elB A = t ∧ t.size = 1 := ⟨_, rfl, by rcases hA with rfl | rfl <;> rfl⟩
    have KE : Hid (∀ w', Calls Tryd.prog 113 #[.int .i64 A] w' fun e w'' => e = .returned (.string t) ∧ w' = w'') := Lib.hid fun w' => by rw [← ht]; exact relement_any A w' hA
    have he : V = (⟨#[82, 73]⟩ ++ t, ⟨#[]⟩, true) := by rw [← HV.out, ← ht]; simp [effV]
    subst he
    clear HV
    have hz : (⟨#[82, 73]⟩ : ByteArray).size = 2 := rfl
    clear ht hA NK HXM HC FS HKK
    go_wp2_with (go_at_call 113; refine (KE.out _).mono ?_; rintro e w' ⟨rfl, rfl⟩)
    exact bodyPost_ret (v := .tuple #[.string (⟨#[82, 73]⟩ ++ t), .string (⟨#[]⟩), .bool true]) (by simp [results, Tryd.results51, go_sem]) rfl ⟨rfl, HBM.out⟩
  by_cases c32 : op = 32
  · subst c32
    obtain ⟨hA0, hA1⟩ := NK.out.2.2.2 rfl
    obtain ⟨a, rfl⟩ : ∃ a : Nat, A = a := ⟨A.toNat, by omega⟩
    have han : a < nm := by omega
    obtain ⟨y0, _, y2, _⟩ := HXM.out a han _ HBM.out
    have he : V = ((ms a).ps, (ms a).rt, true) := by rw [← HV.out]; simp [effV]
    subst he
    clear HV hA0 hA1 NK HXM HC FS HKK
    generalize (ms a).ps = qs at *
    generalize (ms a).rt = qr at *
    go_wp2_with fail
    go_quiet (fail)
    go_wp2_with fail
    exact bodyPost_ret (v := .tuple #[.string (qs), .string (qr), .bool true]) (by simp [results, Tryd.results51, go_sem]) rfl ⟨rfl, below_drewN HBM.out _⟩
  by_cases c33 : op = 33
  · subst c33
    have he : V = (rt, ⟨#[]⟩, true) := by rw [← HV.out]; simp [effV]
    subst he
    clear HV NK HXM HC FS HKK
    go_wp2_with fail
    exact bodyPost_ret (v := .tuple #[.string (rt), .string (⟨#[]⟩), .bool true]) (by simp [results, Tryd.results51, go_sem]) rfl ⟨rfl, HBM.out⟩
  have hpl := plain_or h1 h2 c3 c4 c25 c26 c29 c30 c32 c33
  have he : V = plainV op := by rw [← HV.out]; simp [effV, c3, c4, c25, c26, c29, c30, c32, c33]
  subst he
  clear HV h1 h2 c3 c4 c25 c26 c29 c30 c32 c33 NK HXM HC FS HKK
  unfold isPlain at hpl
  rcases hpl with rfl | rfl | rfl | rfl | rfl | rfl | rfl | rfl | rfl | rfl | rfl | rfl | rfl | rfl | rfl | rfl | rfl | rfl | rfl | rfl | rfl | rfl | rfl | rfl | rfl | rfl | rfl
  all_goals
    go_wp2_with fail
    exact bodyPost_ret (v := .tuple #[.string (plainV _).1, .string (plainV _).2.1, .bool (plainV _).2.2]) (by simp [results, Tryd.results51, go_sem, plainV]) rfl ⟨rfl, HBM.out⟩

end Go.Proofs.YtjffbojgdemooaaDoor

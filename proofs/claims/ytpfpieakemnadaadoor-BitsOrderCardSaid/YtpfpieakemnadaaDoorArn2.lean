/-
  The arena made, and its words copied.
-/
import Derived.Test.YtpfpieakemnadaaDoorArn
import Derived.IntWalk
import Derived.Deep.RegionLaw
import Derived.BigQuiet
namespace Go.Proofs.YtpfpieakemnadaaDoor
open Go.RowKit

theorem row_full {w : World} {base e g n : Nat} {xs : List Value} (h : w.ownsRow base e 1 (.slice (some ⟨g, 0, none⟩) n n) n xs) : w.heap[g]? = some (.cells xs.toArray e (0, 0)) := by
  rcases h.2 with ⟨h', _⟩ | ⟨g', cap', cur, h', _, hg, _, _, hcs, htake⟩
  · simp at h'
  · simp only [Value.slice.injEq, Option.some.injEq, Addr.mk.injEq, and_true, true_and] at h'
    obtain ⟨rfl, rfl⟩ := h'
    rw [hg, ← htake, List.take_of_length_le (by simp; omega)]

/-- 'copy' as one step of a region that draws its order: the row's block alone turns. -/
theorem step_copy_grown {P : Program} {ops : Array Oper} {o : Oper} {a : Act} {w : World} {K : Act → World → Prop} {Q : Exit → Act → World → Prop} {E : Prop} (hgd : o.guard = none) (d s : Operand) (dT sT : TypeId)
    (ho : o.op = .call { callee := .builtin .copy, args := #[d, s], argTypes := #[dT, sT] }) (elem : TypeId) (hu : P.underlying dT = some (.slice elem)) (hsz : (P.info? elem).map (·.size) = some 1)
    (dp sp : Option Addr) (dLen dCap sLen sCap : Nat) (hd : a.eval d = .slice dp dLen dCap) (hs : a.eval s = .slice sp sLen sCap)
    (g off : Nat) (cur : List Value) (t : TypeId) (hg : w.heap[g]? = some (.cells cur.toArray t (0, 0))) (cs : List Value) (hn : cs.length = Nat.min sLen dLen)
    (hpos : 0 < cs.length → dp = some ⟨g, off, none⟩ ∧ ∃ ad, sp = some ad ∧ ∀ j v, cs[j]? = some v → w.cell? (ad.add j) = some v)
    (hfit : off + cs.length ≤ cur.length) (h1 : ∀ v ∈ cs, v.oneCell' = true)
    (h : ∀ w', RowKit.Hid (w'.heap[g]? = some (.cells (splice cur off cs).toArray t (0, 0))) → w.grownBy w' (some g) → K (a.put o.dst (goInt cs.length)) w') :
    if Region.wanted o (yielded ops a.tmps) = true then Oper.wp P o a w K Q else E := by
  have hw : Region.wanted o (yielded ops a.tmps) = true := by simp [Region.wanted, hgd]
  rw [if_pos hw]
  by_cases h0 : cs.length = 0
  · obtain rfl : cs = [] := List.eq_nil_of_length_eq_zero h0
    have hrun := run_copy_none (P := P) w dT sT o.type elem dp sp dLen dCap sLen sCap hu hsz (by simpa using hn.symm)
    unfold Oper.wp
    simp [execOp, ho, resolve, invoke, builtin, hd, hs, hrun, Result.andThen]
    exact h w (show _ = _ by simpa [splice] using hg) (World.grownBy.refl _ _)
  · obtain ⟨rfl, ad, rfl, hsrc⟩ := hpos (by omega)
    have hrun := run_copy_row (P := P) w dT sT o.type elem g off dLen dCap ad sLen sCap cur.toArray t cs hu hsz hg hn hsrc (by simpa using hfit) h1
    unfold Oper.wp
    simp [execOp, ho, resolve, invoke, builtin, hd, hs, hrun, Result.andThen]
    exact h _ (show _ = _ by simpa [splice] using setRow_heap w g _ _ t _ hg) ⟨rfl, rfl, rfl, by simp [World.setRow], fun k _ hk => setRow_other w g k _ (fun e => hk (by rw [e]))⟩

def NewPost (n : Nat) (w : World) (e : Ending) (w' : World) : Prop :=
  ∃ b g, e = .returned (.tuple #[.pointer (some ⟨b, 0, none⟩), .nilIface]) ∧ w.heap.size ≤ b ∧ b < w'.heap.size ∧ An w.heap.size b g n (List.replicate n 0) w' ∧ Below w.heap.size w w'

theorem i64info : (Tryd.prog.info? 2).map (fun i => (i.zero, i.size, i.bytes)) = some (some (.int .i64 0), 1, 8) := by kernel_rfl

theorem new_yes (n : Nat) (w : World) (h : n ≤ 65536) :
    Calls Tryd.prog 47 #[.int .i64 n] w (NewPost n w) := by
  have hm : n ≤ maxLen := by unfold maxLen; omega
  have d1 : decide ((n : Int) < 0) = false := by simp
  have d2 : decide ((65536 : Int) < (n : Int)) = false := by simp; omega
  have hbytes : 8 * n ≤ 281474976710656 := by omega
  have H := Lib.hid h
  have HM := Lib.hid hm
  have HB := Lib.hid hbytes
  clear h hm hbytes
  obtain ⟨i, hi, hz0, hz1, hz2⟩ := info_parts i64info
  have HI := Lib.hid hi
  have HZ0 := Lib.hid hz0
  have HZ1 := Lib.hid hz1
  have HZ2 := Lib.hid hz2
  clear hi hz0 hz1 hz2
  go_enter Tryd.func47, Tryd.ntmps47
  go_wp2_with (at_make; refine wpList_make_len _ rfl (.tmp 11) (.tmp 11) 83 rfl w.heap.size 2 i (.int .i64 0) 8 Tryd.underlying83 HI.out HZ0.out HZ1.out HZ2.out rfl .i64 .i64 _ _ n n rfl rfl (by simp) (by simp) (Nat.le_refl _) HB.out HM.out (Nat.le_refl _) ?_; intro w1 hown hg)
  go_ret2
  have hrow := row_full hown
  have hgl : w.heap.size < w1.heap.size := by
    have := hown.lt w.heap.size (by simp [Value.ownBlock])
    exact this.2
  refine ⟨_, _, rfl, hg.size, by simp, ⟨by simp, H.out, ?_, ?_, by omega, Nat.le_refl _⟩, ?_⟩
  · rw [cell_of_row (w1.alloc _) w1.heap.size 0 _ 133 (0, 0) (heap_alloc_new w1 _)]
    rfl
  · rw [Below.heap_alloc _ _ _ hgl, hrow]; simp
  · exact (Below.grown (Below.refl _ w) hg (Nat.le_refl _) (by simp)).alloc hg.size _

def CopyPost (B b g n : Nat) (zs : List Int) (w : World) (e : Ending) (w' : World) : Prop := e = .returned (.bool true) ∧ An B b g n zs w' ∧ w.grownBy w' (some g)

theorem An.splice {B b g n : Nat} {zs : List Int} {w w' : World} (h : An B b g n zs w) (to : Nat) (cs : List Int) (hf : to + cs.length ≤ n)
    (hr : w'.heap[g]? = some (.cells (splice (zs.map (Value.int .i64)) to (cs.map (Value.int .i64))).toArray 2 (0, 0))) (hg : w.grownBy w' (some g)) : An B b g n (Go.splice zs to cs) w' := by
  refine ⟨(length_splice _ _ _ (by rw [h.len]; exact hf)).trans h.len, h.small, ?_, ?_, h.ne, h.lo⟩
  · have hb := World.block_lt_of_cell? w ⟨b, 0, none⟩ h.box
    rw [World.cell?_of_block (a := ⟨b, 0, none⟩) (hg.block b hb (by simp; exact h.ne))]
    exact h.box
  · rw [hr]
    simp [Go.splice, List.map_take, List.map_drop]

theorem copy_yes {B b g n : Nat} {zs : List Int} (to fr m : Nat) (w : World) (h : An B b g n zs w) (h1 : to + m ≤ n) (h2 : fr + m ≤ n) :
    Calls Tryd.prog 51 #[.pointer (some ⟨b, 0, none⟩), .int .i64 to, .int .i64 fr, .int .i64 m] w (CopyPost B b g n (Go.splice zs to ((zs.drop fr).take m)) w) := by
  have hb := h.box
  have hs := h.small
  have hl := h.len
  have H := Lib.hid h
  have hcsl : ((zs.drop fr).take m).length = m := by rw [List.length_take, List.length_drop]; omega
  have hrow0 : w.drew.heap[g]? = some (.cells (zs.map (Value.int .i64)).toArray 2 (0, 0)) := h.row
  have hsrc0 : ∀ j v, (((zs.drop fr).take m).map (Value.int .i64))[j]? = some v → w.drew.cell? ⟨g, fr + j, none⟩ = some v := by
    intro j v hv
    have hj : j < m := by
      have := (List.getElem?_eq_some_iff.1 hv).1
      simp at this
      omega
    show w.cell? ⟨g, fr + j, none⟩ = some v
    rw [h.cell _ (by omega)]
    rw [← hv]
    simp [List.getD, hj, List.getElem?_drop, List.getElem?_eq_getElem (show fr + j < zs.length by omega)]
  have hpos0 : 0 < (((zs.drop fr).take m).map (Value.int .i64)).length → (if n = to then some (⟨g, 0, none⟩ : Addr) else some ⟨g, to, none⟩) = some ⟨g, to, none⟩ ∧ ∃ ad, (if n = fr then some (⟨g, 0, none⟩ : Addr) else some ⟨g, fr, none⟩) = some ad ∧ ∀ j v, (((zs.drop fr).take m).map (Value.int .i64))[j]? = some v → w.drew.cell? (ad.add j) = some v := by
    intro hp
    rw [List.length_map, hcsl] at hp
    rw [if_neg (by omega), if_neg (by omega)]
    refine ⟨rfl, _, rfl, fun j v hv => ?_⟩
    have e2 : (⟨g, fr, none⟩ : Addr).add j = ⟨g, fr + j, none⟩ := by
      unfold Addr.add
      split
      · rename_i h0; subst h0; rfl
      · rfl
    rw [e2]
    exact hsrc0 j v hv
  have hrow := Lib.hid hrow0
  have hpos := Lib.hid hpos0
  have hn : Hid ((((zs.drop fr).take m).map (Value.int .i64)).length = Nat.min m m) := Lib.hid (by rw [List.length_map, hcsl]; simp)
  have hfit : Hid (to + (((zs.drop fr).take m).map (Value.int .i64)).length ≤ (zs.map (Value.int .i64)).length) := Lib.hid (by rw [List.length_map, hcsl, List.length_map, hl]; exact h1)
  have h1c : Hid (∀ v ∈ ((zs.drop fr).take m).map (Value.int .i64), v.oneCell' = true) := Lib.hid (ints_oneCell .i64 _)
  have HS := Lib.hid hcsl
  clear h hl hrow0 hsrc0 hpos0 hcsl
  obtain ⟨X, hX⟩ : ∃ X, X = (zs.drop fr).take m := ⟨_, rfl⟩
  rw [← hX] at hn hfit h1c HS hpos
  rw [← hX]
  obtain ⟨Y, hY⟩ : ∃ Y, Y = X.map (Value.int .i64) := ⟨_, rfl⟩
  rw [← hY] at hn hfit h1c hpos
  obtain ⟨Z, hZ⟩ : ∃ Z, Z = zs.map (Value.int .i64) := ⟨_, rfl⟩
  rw [← hZ] at hrow hfit
  have HX := Lib.hid hX
  have HY := Lib.hid hY
  have HZ := Lib.hid hZ
  clear hX hY hZ
  have a1 : (to : Int) ≤ (n : Int) - (m : Int) := by omega
  have a2 : (fr : Int) ≤ (n : Int) - (m : Int) := by omega
  have b1 : decide ((m : Int) < 0) = false := by simp
  have b2 : decide (n < m) = false := by simp; omega
  have b3 : decide ((to : Int) < 0) = false := by simp
  have b4 : decide ((n : Int) - (m : Int) < (to : Int)) = false := by simp; omega
  have b5 : decide ((fr : Int) < 0) = false := by simp
  have b6 : decide ((n : Int) - (m : Int) < (fr : Int)) = false := by simp; omega
  have a3 : IntKind.i64.wrap ((to : Int) + (m : Int)) = (to : Int) + (m : Int) := IntWalk.i64_in _ (by omega)
  have a4 : IntKind.i64.wrap ((fr : Int) + (m : Int)) = (fr : Int) + (m : Int) := IntWalk.i64_in _ (by omega)
  have a5 : 0 ≤ (to : Int) + (m : Int) := by omega
  have a6 : 0 ≤ (fr : Int) + (m : Int) := by omega
  have a9 : (to : Int) + (m : Int) ≤ (n : Int) := by omega
  have a10 : (fr : Int) + (m : Int) ≤ (n : Int) := by omega
  have a7 : ((to : Int) + (m : Int)).toNat = to + m := by omega
  have a8 : ((fr : Int) + (m : Int)).toNat = fr + m := by omega
  go_enter Tryd.func51, Tryd.ntmps51
  go_wp2
  go_region_law? (refine step_copy_grown rfl (.tmp 58) (.tmp 67) 83 83 rfl 2 Tryd.underlying83 (by kernel_rfl) (if n = to then some ⟨g, 0, none⟩ else some ⟨g, to, none⟩) (if n = fr then some ⟨g, 0, none⟩ else some ⟨g, fr, none⟩) m (n - to) m (n - fr) (by simp [Act.eval, Act.put]) (by simp [Act.eval, Act.put]) g to Z 2 hrow.out Y hn.out hpos.out hfit.out h1c.out ?_; intro w4 hg4 hb4)
  all_goals go_wp2
  all_goals
    go_ret
    refine ⟨rfl, ?_, ⟨hb4.os, hb4.tape, hb4.output, hb4.size, hb4.block⟩⟩
    have hg5 := hg4.out
    rw [HZ.out, HY.out] at hg5
    have hx : to + X.length ≤ n := by rw [HS.out]; exact h1
    have hres := An.splice (w := World.drew _) (An.kept H.out rfl rfl) to X hx hg5 hb4
    first
      | exact hres
      | (clear hg5 hx HX HY HZ; subst_vars; exact hres)
end Go.Proofs.YtpfpieakemnadaaDoor

/-
  flow.Order and flow.Reach, by contracts.
-/
import Derived.Test.YtchechdcebmoeaaDoorFwE
import Derived.Test.YtchechdcebmoeaaDoorFwR
namespace Go.Proofs.YtchechdcebmoeaaDoor
open Go.RowKit

def OrderWPost (g : List (List Int)) (w : World) (e : Ending) (w' : World) : Prop :=
  ∃ v, e = .returned v ∧ w'.ownsRow w.heap.size 3 1 v (walkW g).left.length ((walkW g).left.reverse.map fun (x : Nat) => Value.int .i64 (x : Int)) ∧ Below w.heap.size w w'

set_option maxHeartbeats 2000000 in
set_option maxRecDepth 100000 in
theorem orderW_any (ga : Option Addr) (gc : Nat) (g : List (List Int)) (N : Nat) (w : World) (hg : Grf w ga g.length gc g) (hn : g.length ≤ 60) (hN : muW g beginW + 1 ≤ N) (hN2 : N ≤ 10000) (hd : ∀ v, degW g v ≤ 1000000) :
    Calls Tryd.prog 51 #[.slice ga g.length gc] w (OrderWPost g w) := by
  have K := Lib.hid (newWalk_any ga gc g N w hg hn hN hN2 hd)
  unfold NewWPost at K
  obtain ⟨n, hnn⟩ : ∃ n, g.length = n := ⟨_, rfl⟩
  rw [hnn] at K ⊢
  clear hg hn hN hN2 hd
  go_enter Tryd.func51, Tryd.ntmps51
  go_wp2_with fail
  refine K.out.mono ?_
  rintro e w1 ⟨p, q, bs, lv, ov, rfl, hwb, hB⟩
  have c2 : w1.cell? ⟨p, 2, none⟩ = some lv := cell_of_row w1 p 2 _ 165 (0, 0) hwb.cp
  have KR := Lib.hid (reverse_own w.heap.size _ lv _ w1 hwb.left)
  obtain ⟨la, lc, rfl⟩ := own_shapeM hwb.left
  have HB := Lib.hid hB
  have HL := Lib.hid hwb.left
  clear hwb hB K
  go_wp2_with (go_at_call 111; refine KR.out.mono ?_; rintro e w2 ⟨rfl, hown, hgr⟩; replace hown := Lib.hid hown; replace hgr := Lib.hid hgr)
  go_ret
  exact ⟨_, rfl, hown.out, HB.out.grown hgr.out HB.out.size (fun z hz => (HL.out.lt z hz).1)⟩

end Go.Proofs.YtchechdcebmoeaaDoor
